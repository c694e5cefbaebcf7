/- A piece of a proof over this program: contracts of its functions, and a logic to prove them by. -/
import Derived.Test.YtkdbkgfdggbhkaaP2
import Derived.Lib.AppendZerosOnto
import Derived.StringKeys
import Derived.WideMake
section
namespace Go.Lg
open Go Go.RowKit
section
variable {P : Program} {n : Nat} {C : Ctx} {c y x z : Code} {Q Q1 Q2 : Exit → St → Prop} {X : Nat → Option Obj} {σ : St}
structure Leads (n : Nat) (C : Ctx) (Mid : St → Prop) (σ : St) : Prop where
  out : ∀ ι a w, Rel n C ι σ a w → ∃ ι' σ', Mid σ' ∧ Rel n C ι' σ' a w
theorem Leads.here {Mid : St → Prop} {σ' : St} (hle : Le n C σ σ') (h : Mid σ') : Leads n C Mid σ := ⟨fun ι a w hr => by
  obtain ⟨ι', hr'⟩ := hle.out ι a w hr
  exact ⟨ι', σ', h, hr'⟩⟩
theorem Leads.le {Mid : St → Prop} {σ' : St} (hle : Le n C σ σ') (h : Leads n C Mid σ') : Leads n C Mid σ := ⟨fun ι a w hr => by
  obtain ⟨ι', hr'⟩ := hle.out ι a w hr
  exact h.out ι' a w hr'⟩
theorem LWP.ofLeads {Mid : St → Prop} (h : Leads n C Mid σ) (hm : ∀ σ, Mid σ → LWP P n C y Q σ) : LWP P n C y Q σ := by
  refine ⟨fun ι a w hr => ?_⟩
  obtain ⟨ι', σ', hM, hr'⟩ := h.out ι a w hr
  exact (hm σ' hM).out ι' a w hr'
theorem Leads.freeze {Mid : St → Prop} {s : List (Nat × LV)} {bx : List (Nat × Option Box)} {d k off len sz : Nat} {el : TypeId} {vals : List Value} {row : Bool}
    (hs : s.all (fun p => p.2.inUse bx) = true) (hb : bx.all (fun p => match p.2 with | some b => b.cells.all (CV.inUse bx) | none => true) = true) (hk : look k bx = none)
    (h : ∀ (blk cap : Nat) (arr : Array Value) (fr : Nat × Nat), X blk = none → Frozen C blk arr fr → len ≤ cap → off + cap * sz ≤ arr.size → (∃ sp, arr.toList = vals ++ sp) →
      Leads n C Mid ⟨(d, .sv (.one (.val (.slice (some ⟨blk, off, none⟩) len cap)))) :: s, bx, withBlock X blk (.cells arr el fr)⟩) :
    Leads n C Mid ⟨(d, .sv (.one (.slc k off len sz))) :: s, (k, some ⟨el, vals.map .val, row⟩) :: bx, X⟩ := ⟨fun ι a w hr => by
  obtain ⟨blk, cap, arr, fr, h1, h2, h3, h4, h5, h6⟩ := hr.freeze hs hb hk
  exact (h blk cap arr fr h1 h2 h3 h4 h5).out ι a w h6⟩
theorem LWP.meetL (Mid : St → Prop) (h : LWP P n C c (thenQ (Leads n C Mid) (fun _ _ => False)) σ) (hm : ∀ σ, Mid σ → LWP P n C y Q σ) : LWP P n C c (thenQ (LWP P n C y Q) Q2) σ := by
  refine h.mono ?_
  intro e σ' hq
  cases e with
  | normal => exact LWP.ofLeads hq hm
  | exit id' => exact hq.elim
  | goto l => exact hq.elim
  | ret => exact hq.elim
  | panic c => exact hq.elim
  | outgrown => exact hq.elim
theorem LWP.cutL (Mid : St → Prop)
    (h : LWP P n C x (thenQ (LWP P n C z (thenQ (Leads n C Mid) (fun _ _ => False))) (fun _ _ => False)) σ) (hm : ∀ σ, Mid σ → LWP P n C y Q σ) :
    LWP P n C x (thenQ (LWP P n C z (thenQ (LWP P n C y Q) Q1)) Q2) σ := by
  refine h.mono ?_
  intro e σ' hq
  cases e with
  | normal => exact LWP.meetL Mid hq hm
  | exit id' => exact hq.elim
  | goto l => exact hq.elim
  | ret => exact hq.elim
  | panic c => exact hq.elim
  | outgrown => exact hq.elim
theorem rel_mid {S : Nat → Option (Option Box)} {ι : Nat → Nat × Nat} : ∀ {A : List CV} {c : CV} {B : List CV} {vs : List Value}, CVs.rel S ι (A ++ c :: B) vs → ∃ va v vb, vs = va ++ v :: vb ∧ CVs.rel S ι A va ∧ c.rel S ι v ∧ CVs.rel S ι B vb
  | [], c, B, [], h => h.elim
  | [], c, B, v :: vs, h => ⟨[], v, vs, rfl, trivial, h.1, h.2⟩
  | a :: A, c, B, [], h => h.elim
  | a :: A, c, B, v :: vs, h => by
    obtain ⟨va, u, vb, e, h1, h2, h3⟩ := rel_mid (A := A) (c := c) (B := B) h.2
    exact ⟨v :: va, u, vb, by rw [e]; rfl, ⟨h.1, h1⟩, h2, h3⟩
theorem Rel.freezeCell {ι : Nat → Nat × Nat} {a : Act} {w : World} {s : List (Nat × LV)} {bx : List (Nat × Option Box)} {j k off len sz : Nat} {el el2 : TypeId} {A B : List CV} {row2 : Bool} {vals : List Value} {row : Bool}
    (hs : s.all (fun p => p.2.inUse ((j, none) :: bx)) = true) (hA : A.all (CV.inUse ((j, none) :: bx)) = true) (hB : B.all (CV.inUse ((j, none) :: bx)) = true) (hb : bx.all (fun p => match p.2 with | some b => b.cells.all (CV.inUse ((j, none) :: bx)) | none => true) = true) (hk : look k bx = none) (hjk : Nat.beq j k = false)
    (hr : Rel n C ι ⟨s, (j, some ⟨el2, A ++ .slc k off len sz :: B, row2⟩) :: (k, some ⟨el, vals.map .val, row⟩) :: bx, X⟩ a w) :
    ∃ (blk cap : Nat) (arr : Array Value) (fr : Nat × Nat), X blk = none ∧ Frozen C blk arr fr ∧ len ≤ cap ∧ off + cap * sz ≤ arr.size ∧ (∃ sp, arr.toList = vals ++ sp) ∧
      Rel n C ι ⟨s, (j, some ⟨el2, A ++ .val (.slice (some ⟨blk, off, none⟩) len cap) :: B, row2⟩) :: bx, withBlock X blk (.cells arr el fr)⟩ a w := by
  have hjk' : j ≠ k := fun e => by rw [e, Nat.beq_refl] at hjk; cases hjk
  have hst : (⟨s, (j, some ⟨el2, A ++ .slc k off len sz :: B, row2⟩) :: (k, some ⟨el, vals.map .val, row⟩) :: bx, X⟩ : St).stat k = some (some ⟨el, vals.map .val, row⟩) := by
    simp [St.stat, look, hjk]
  have hstj : (⟨s, (j, some ⟨el2, A ++ .slc k off len sz :: B, row2⟩) :: (k, some ⟨el, vals.map .val, row⟩) :: bx, X⟩ : St).stat j = some (some ⟨el2, A ++ .slc k off len sz :: B, row2⟩) := by
    simp [St.stat, look]
  have hlk : ∀ k' x, look k' bx = some x → k' ≠ k := fun k' x h' e => by rw [e, hk] at h'; cases h'
  have hstb : ∀ k', k' ≠ j → ∀ x, look k' bx = some x → (⟨s, (j, some ⟨el2, A ++ .slc k off len sz :: B, row2⟩) :: (k, some ⟨el, vals.map .val, row⟩) :: bx, X⟩ : St).stat k' = some x := fun k' hne x h' => by
    simp only [St.stat, look]
    cases e : Nat.beq j k' with
    | true => exact absurd (Nat.eq_of_beq_eq_true e).symm hne
    | false =>
      cases e2 : Nat.beq k k' with
      | true => exact absurd (Nat.eq_of_beq_eq_true e2).symm (hlk k' x h')
      | false => exact h'
  obtain ⟨arr, fr, harr, hth, hsz, hbr⟩ := hr.boxes k _ hst rfl
  obtain ⟨arrj, frj, harrj, hthj, hszj, hbrj⟩ := hr.boxes j _ hstj rfl
  have hXn : X (ι k).1 = none := (hr.own k _ hst).2
  have hsp : ∃ sp, arr.toList = vals ++ sp := by
    unfold Box.rel at hbr
    cases hrow : row with
    | false =>
      rw [hrow] at hbr
      exact ⟨[], by rw [List.append_nil]; exact rel_vals hbr⟩
    | true =>
      rw [hrow] at hbr
      obtain ⟨us, sp, e, hl⟩ := hbr
      exact ⟨sp, by rw [e, rel_vals hl]⟩
  have hcell : ∃ us sp va v vb, arrj.toList = us ++ sp ∧ (row2 = false → sp = []) ∧ us = va ++ v :: vb ∧ CVs.rel (⟨s, (j, some ⟨el2, A ++ .slc k off len sz :: B, row2⟩) :: (k, some ⟨el, vals.map .val, row⟩) :: bx, X⟩ : St).stat ι A va ∧ (CV.slc k off len sz).rel (⟨s, (j, some ⟨el2, A ++ .slc k off len sz :: B, row2⟩) :: (k, some ⟨el, vals.map .val, row⟩) :: bx, X⟩ : St).stat ι v ∧ CVs.rel (⟨s, (j, some ⟨el2, A ++ .slc k off len sz :: B, row2⟩) :: (k, some ⟨el, vals.map .val, row⟩) :: bx, X⟩ : St).stat ι B vb := by
    generalize (⟨s, (j, some ⟨el2, A ++ .slc k off len sz :: B, row2⟩) :: (k, some ⟨el, vals.map .val, row⟩) :: bx, X⟩ : St).stat = S at hbrj ⊢
    unfold Box.rel at hbrj
    cases row2 with
    | false =>
      obtain ⟨va, v, vb, e, h1, h2, h3⟩ := rel_mid hbrj
      exact ⟨arrj.toList, [], va, v, vb, by simp, fun _ => rfl, e, h1, h2, h3⟩
    | true =>
      obtain ⟨us, sp, e0, hl⟩ := hbrj
      obtain ⟨va, v, vb, e, h1, h2, h3⟩ := rel_mid hl
      exact ⟨us, sp, va, v, vb, e0, fun h => (by cases h), e, h1, h2, h3⟩
  obtain ⟨us, sp2, va, v, vb, eus, hsp2, evs, h1, h2, h3⟩ := hcell
  simp only [CV.rel] at h2
  rw [hst] at h2
  obtain ⟨cap, rfl, hcap, hfit⟩ := h2
  refine ⟨(ι k).1, cap, arr, fr, hXn, ⟨(hr.own k _ hst).1, hth⟩, hcap, by omega, hsp, ?_⟩
  have hon : ∀ k', (look k' ((j, (none : Option Box)) :: bx)).isSome = true → k' ≠ k := fun k' hk' e => by
    subst e
    simp only [look, hjk, cond_false, hk] at hk'
    cases hk'
  have hnew : ∀ k', (⟨s, (j, some ⟨el2, A ++ .val (.slice (some ⟨(ι k).1, off, none⟩) len cap) :: B, row2⟩) :: bx, withBlock X (ι k).1 (.cells arr el fr)⟩ : St).stat k' = if k' = j then some (some ⟨el2, A ++ .val (.slice (some ⟨(ι k).1, off, none⟩) len cap) :: B, row2⟩) else look k' bx := fun k' => by
    simp only [St.stat, look]
    cases e : Nat.beq j k' with
    | true => rw [if_pos (Nat.eq_of_beq_eq_true e).symm]; rfl
    | false => rw [if_neg (fun h => by rw [h, Nat.beq_refl] at e; cases e)]; rfl
  have hstat : ∀ k', k' ≠ k → ∀ x, (⟨s, (j, some ⟨el2, A ++ .val (.slice (some ⟨(ι k).1, off, none⟩) len cap) :: B, row2⟩) :: bx, withBlock X (ι k).1 (.cells arr el fr)⟩ : St).stat k' = some (some x) → ∃ y, (⟨s, (j, some ⟨el2, A ++ .slc k off len sz :: B, row2⟩) :: (k, some ⟨el, vals.map .val, row⟩) :: bx, X⟩ : St).stat k' = some (some y) := fun k' hne x hx => by
    rw [hnew] at hx
    by_cases e : k' = j
    · rw [e]; exact ⟨_, hstj⟩
    · rw [if_neg e] at hx
      exact ⟨x, hstb k' e _ hx⟩
  have hmean : ∀ {c : CV} {v : Value}, c.inUse ((j, none) :: bx) = true → c.rel (⟨s, (j, some ⟨el2, A ++ .slc k off len sz :: B, row2⟩) :: (k, some ⟨el, vals.map .val, row⟩) :: bx, X⟩ : St).stat ι v →
      c.rel (⟨s, (j, some ⟨el2, A ++ .val (.slice (some ⟨(ι k).1, off, none⟩) len cap) :: B, row2⟩) :: bx, withBlock X (ι k).1 (.cells arr el fr)⟩ : St).stat ι v := fun {c v} hu hc => by
    have key : ∀ k', (look k' ((j, (none : Option Box)) :: bx)).isSome = true → (k' = j) ∨ (k' ≠ j ∧ ∃ x, look k' bx = some x ∧ (⟨s, (j, some ⟨el2, A ++ .slc k off len sz :: B, row2⟩) :: (k, some ⟨el, vals.map .val, row⟩) :: bx, X⟩ : St).stat k' = some x) := fun k' hk' => by
      by_cases e : k' = j
      · exact .inl e
      · right
        have e2 : Nat.beq j k' = false := by
          cases h : Nat.beq j k' with
          | false => rfl
          | true => exact absurd (Nat.eq_of_beq_eq_true h).symm e
        simp only [look, e2, cond_false] at hk'
        obtain ⟨x, hx⟩ := Option.isSome_iff_exists.1 hk'
        exact ⟨e, x, hx, hstb k' e x hx⟩
    cases c with
    | val u => exact hc
    | junk => trivial
    | ptr k' o =>
      simp only [CV.rel] at hc ⊢
      rw [hnew]
      rcases key k' hu with e | ⟨e, x, hx, hx2⟩
      · subst e
        rw [hstj] at hc
        rw [if_pos rfl]; exact hc
      · rw [hx2] at hc
        rw [if_neg e, hx]; exact hc
    | slc k' o n' z' =>
      simp only [CV.rel] at hc ⊢
      rw [hnew]
      rcases key k' hu with e | ⟨e, x, hx, hx2⟩
      · subst e
        rw [hstj] at hc
        rw [if_pos rfl]; exact hc
      · rw [hx2] at hc
        rw [if_neg e, hx]; exact hc
    | mp k' =>
      simp only [CV.rel] at hc ⊢
      rw [hnew]
      rcases key k' hu with e | ⟨e, x, hx, hx2⟩
      · subst e
        rw [hstj] at hc
        rw [if_pos rfl]; exact hc
      · rw [hx2] at hc
        rw [if_neg e, hx]; exact hc
    | fn fi gi k' =>
      simp only [CV.rel] at hc ⊢
      rw [hnew]
      rcases key k' hu with e | ⟨e, x, hx, hx2⟩
      · subst e
        rw [hstj] at hc
        rw [if_pos rfl]; exact hc
      · rw [hx2] at hc
        rw [if_neg e, hx]; exact hc
    | hang g hg k' =>
      simp only [CV.rel] at hc ⊢
      rw [hnew]
      rcases key k' hu with e | ⟨e, x, hx, hx2⟩
      · subst e
        rw [hstj] at hc
        rw [if_pos rfl]; exact hc
      · rw [hx2] at hc
        rw [if_neg e, hx]; exact hc
  have hmeans : ∀ {l : List CV} {vs : List Value}, l.all (CV.inUse ((j, none) :: bx)) = true → CVs.rel (⟨s, (j, some ⟨el2, A ++ .slc k off len sz :: B, row2⟩) :: (k, some ⟨el, vals.map .val, row⟩) :: bx, X⟩ : St).stat ι l vs →
      CVs.rel (⟨s, (j, some ⟨el2, A ++ .val (.slice (some ⟨(ι k).1, off, none⟩) len cap) :: B, row2⟩) :: bx, withBlock X (ι k).1 (.cells arr el fr)⟩ : St).stat ι l vs := by
    intro l
    induction l with
    | nil => intro vs _ h; cases vs with
      | nil => trivial
      | cons => exact h.elim
    | cons c l ih => intro vs hu h; cases vs with
      | nil => exact h.elim
      | cons v vs =>
        simp only [List.all_cons, Bool.and_eq_true] at hu
        exact ⟨hmean hu.1 h.1, ih hu.2 h.2⟩
  have hsv : ∀ {l : SV} {v : Value}, l.inUse ((j, none) :: bx) = true → l.rel (⟨s, (j, some ⟨el2, A ++ .slc k off len sz :: B, row2⟩) :: (k, some ⟨el, vals.map .val, row⟩) :: bx, X⟩ : St).stat ι v →
      l.rel (⟨s, (j, some ⟨el2, A ++ .val (.slice (some ⟨(ι k).1, off, none⟩) len cap) :: B, row2⟩) :: bx, withBlock X (ι k).1 (.cells arr el fr)⟩ : St).stat ι v := fun {l v} hu h => by
    cases l with
    | one c => exact hmean hu h
    | agg l => obtain ⟨arr', e, hl⟩ := h; exact ⟨arr', e, hmeans hu hl⟩
  exact {
    defers := hr.defers, size := hr.size
    slots := fun d' lv hd => by
      obtain ⟨v', hv', hr'⟩ := hr.slots d' lv hd
      refine ⟨v', hv', ?_⟩
      have hu : lv.inUse ((j, none) :: bx) = true := List.all_eq_true.1 hs _ (look_mem hd)
      cases lv with
      | sv l => exact hsv hu hr'
      | tup l =>
        obtain ⟨arr', e, hl⟩ := hr'
        refine ⟨arr', e, ?_⟩
        generalize arr'.toList = vs at hl
        have hu2 : l.all (SV.inUse ((j, none) :: bx)) = true := hu
        clear hu hd hv'
        induction l generalizing vs with
        | nil => cases vs with
          | nil => trivial
          | cons => exact hl.elim
        | cons c l ih => cases vs with
          | nil => exact hl.elim
          | cons v vs =>
            simp only [List.all_cons, Bool.and_eq_true] at hu2
            exact ⟨hsv hu2.1 hl.1, ih vs hl.2 hu2.2⟩
    res := by
      obtain ⟨F, hF⟩ := hr.res
      refine hF.keep (fun i e cs R hi => ?_) (fun _ _ _ _ _ hj => hj) (fun _ _ ho => ho) (fun b _ hx hne _ => ?_) (fun i bi hi => ?_)
      · rw [hnew] at hi
        by_cases e : i = j
        · rw [if_pos e] at hi; cases hi
        · rw [if_neg e] at hi; exact ⟨hstb i e _ hi, rfl⟩
      · show withBlock X (ι k).1 _ b = none
        unfold withBlock
        rw [if_neg (fun e => hne k _ hst rfl e.symm)]
        exact hx
      · have hne : i ≠ k := fun e => by
          rw [hnew, e] at hi
          by_cases e2 : k = j
          · exact hjk' e2.symm
          · rw [if_neg e2, hk] at hi; cases hi
        obtain ⟨y, hy⟩ := hstat i hne bi hi
        exact .inl ⟨y, hy, rfl⟩
    boxes := fun k' b hb' hbk => by
      rw [hnew] at hb'
      by_cases e : k' = j
      · subst e
        rw [if_pos rfl] at hb'
        cases hb'
        refine ⟨arrj, frj, harrj, hthj, hszj, ?_⟩
        have hnewcells : CVs.rel (⟨s, (k', some ⟨el2, A ++ .val (.slice (some ⟨(ι k).1, off, none⟩) len cap) :: B, row2⟩) :: bx, withBlock X (ι k).1 (.cells arr el fr)⟩ : St).stat ι (A ++ .val (.slice (some ⟨(ι k).1, off, none⟩) len cap) :: B) us := by
          rw [evs]
          exact CVs.rel_append (hmeans hA h1) ⟨rfl, hmeans hB h3⟩
        unfold Box.rel
        cases row2 with
        | false => rw [hsp2 rfl, List.append_nil] at eus; rw [eus]; exact hnewcells
        | true => exact ⟨us, sp2, eus, hnewcells⟩
      · rw [if_neg e] at hb'
        obtain ⟨arr', fr', g1, g2, g3, g4⟩ := hr.boxes k' b (hstb k' e _ hb') hbk
        refine ⟨arr', fr', g1, g2, g3, ?_⟩
        have hu : b.cells.all (CV.inUse ((j, none) :: bx)) = true := by simpa using List.all_eq_true.1 hb _ (look_mem hb')
        unfold Box.rel at g4 ⊢
        cases hrow : b.row with
        | res R => rw [hrow] at g4; exact g4.elim
        | bool r =>
          cases r with
          | false => rw [hrow] at g4; exact hmeans hu g4
          | true => rw [hrow] at g4; obtain ⟨us', sp', e', hl'⟩ := g4; exact ⟨us', sp', e', hmeans hu hl'⟩
    own := fun k' b hb' => by
      have hne : k' ≠ k := fun e => by
        rw [hnew, e] at hb'
        by_cases e2 : k = j
        · exact hjk' e2.symm
        · rw [if_neg e2, hk] at hb'; cases hb'
      obtain ⟨b0, hb0⟩ := hstat k' hne b hb'
      obtain ⟨g1, g2⟩ := hr.own k' b0 hb0
      refine ⟨g1, ?_⟩
      show withBlock X (ι k).1 _ (ι k').1 = none
      unfold withBlock
      rw [if_neg (fun e => hne (hr.inj k' k b0 _ hb0 hst e))]
      exact g2
    inj := fun k1 k2 b1 b2 g1 g2 he => by
      have hne : ∀ k' b, (⟨s, (j, some ⟨el2, A ++ .val (.slice (some ⟨(ι k).1, off, none⟩) len cap) :: B, row2⟩) :: bx, withBlock X (ι k).1 (.cells arr el fr)⟩ : St).stat k' = some (some b) → k' ≠ k := fun k' b hb' e => by
        rw [hnew, e] at hb'
        by_cases e2 : k = j
        · exact hjk' e2.symm
        · rw [if_neg e2, hk] at hb'; cases hb'
      obtain ⟨c1, hc1⟩ := hstat k1 (hne k1 b1 g1) b1 g1
      obtain ⟨c2, hc2⟩ := hstat k2 (hne k2 b2 g2) b2 g2
      exact hr.inj k1 k2 c1 c2 hc1 hc2 he
    keep := fun k' b hb' hge => by
      have hne : k' ≠ k := fun e => by
        rw [hnew, e] at hb'
        by_cases e2 : k = j
        · exact hjk' e2.symm
        · rw [if_neg e2, hk] at hb'; cases hb'
      obtain ⟨b0, hb0⟩ := hstat k' hne b hb'
      exact hr.keep k' b0 hb0 hge
    ext := fun b o hbo => by
      have hbo : withBlock X (ι k).1 (.cells arr el fr) b = some o := hbo
      unfold withBlock at hbo
      by_cases e : b = (ι k).1
      · rw [if_pos e] at hbo
        rw [e, harr]; exact hbo
      · rw [if_neg e] at hbo
        exact hr.ext b o hbo
    frame := hr.frame, big := hr.big, os := hr.os, tape := hr.tape, output := hr.output }
theorem Leads.freezeCell {Mid : St → Prop} {s : List (Nat × LV)} {bx : List (Nat × Option Box)} {j k off len sz : Nat} {el el2 : TypeId} {A B : List CV} {row2 : Bool} {vals : List Value} {row : Bool}
    (hs : s.all (fun p => p.2.inUse ((j, none) :: bx)) = true) (hA : A.all (CV.inUse ((j, none) :: bx)) = true) (hB : B.all (CV.inUse ((j, none) :: bx)) = true) (hb : bx.all (fun p => match p.2 with | some b => b.cells.all (CV.inUse ((j, none) :: bx)) | none => true) = true) (hk : look k bx = none) (hjk : Nat.beq j k = false)
    (h : ∀ (blk cap : Nat) (arr : Array Value) (fr : Nat × Nat), X blk = none → Frozen C blk arr fr → len ≤ cap → off + cap * sz ≤ arr.size → (∃ sp, arr.toList = vals ++ sp) →
      Leads n C Mid ⟨s, (j, some ⟨el2, A ++ .val (.slice (some ⟨blk, off, none⟩) len cap) :: B, row2⟩) :: bx, withBlock X blk (.cells arr el fr)⟩) :
    Leads n C Mid ⟨s, (j, some ⟨el2, A ++ .slc k off len sz :: B, row2⟩) :: (k, some ⟨el, vals.map .val, row⟩) :: bx, X⟩ := ⟨fun ι a w hr => by
  obtain ⟨blk, cap, arr, fr, h1, h2, h3, h4, h5, h6⟩ := hr.freezeCell hs hA hB hb hk hjk
  exact (h blk cap arr fr h1 h2 h3 h4 h5).out ι a w h6⟩
end
end Go.Lg
end
section
namespace Go.Lg
open Go Go.RowKit
theorem args_rel : ∀ (vals : List Value), LVs.rel noS (fun _ => (0, 0)) (vals.map toLV) vals
  | [] => trivial
  | v :: vs => ⟨toLV_rel _ _ v, args_rel vs⟩
section
variable {P : Program} {n : Nat} {ops os : List Oper} {acc : List Eff} {K : List Eff → St → Prop} {s : List (Nat × LV)} {bx : List (Nat × Option Box)} {X : Nat → Option Obj} {σ : St}
theorem LOK.fieldAddrX {d : Nat} {s i : Nat} {x : Operand} {ty : TypeId} {pos : String} {after : Array Edge} {g : Option (Nat × Bool)} {b off o m : Nat} {off' : Nat} (hx : σ.ev x = some (.sv (.one (.val (.pointer (some ⟨b, off, none⟩))))))
    (hf : fieldOf P s i = some (o, m + 1)) (ho : off + o = off') :
    LOK P n ops ⟨some d, .fieldAddr s x i, ty, pos, after, g⟩ σ ⟨[(d, .sv (.one (.val (.pointer (some ⟨b, off', none⟩)))))], [], []⟩ :=
  LOK.value fun σ' ha C ι a w hr => by
    have h1 : a.eval x = _ := hr.ev ((ha.ev (x := x) (by simp [Op.operands])).trans hx)
    subst ho
    unfold fieldOf at hf
    cases hu : P.underlying s with
    | none => simp [hu] at hf
    | some dd =>
      cases dd <;> simp only [hu] at hf <;> try (simp at hf; done)
      rename_i fs
      cases hfi : fs[i]? with
      | none => simp [hfi] at hf
      | some f =>
        cases hin : P.info? f.type with
        | none => simp [hfi, hin] at hf
        | some inf =>
          simp only [hfi, hin, Option.map_some, Option.some.injEq, Prod.mk.injEq] at hf
          obtain ⟨e1, e2⟩ := hf
          refine ⟨_, ?_, rfl⟩
          simp [execOp, Instr.fieldAt, run_underlying hu, hfi, Instr.sureAddr, h1, fieldPlace, sizeOf, typeInfo, hin, e2, addr_add, e1]
theorem K.fieldAddrX {d : Nat} {t : TypeId} {x : Operand} {ty : TypeId} {pos : String} {after : Array Edge} {g : Option (Nat × Bool)} {i b off o m : Nat} [f : FieldT P t i o m] (hx : (⟨s, bx, X⟩ : St).ev x = some (.sv (.one (.val (.pointer (some ⟨b, off, none⟩)))))) {off' : Nat} (ho : Nat.add off o = off') (hw : Want ops s g)
    (kont : RunK P n ops os ⟨(d, .sv (.one (.val (.pointer (some ⟨b, off', none⟩))))) :: s, bx, X⟩ (⟨[(d, .sv (.one (.val (.pointer (some ⟨b, off', none⟩)))))], [], []⟩ :: acc) K) :
    RunK P n ops (⟨some d, .fieldAddr t x i, ty, pos, after, g⟩ :: os) ⟨s, bx, X⟩ acc K := RunK.g1 (LOK.fieldAddrX hx f.h ho) hw kont
end
end Go.Lg
end
section
namespace Go.Lg
open Go Go.RowKit
section
variable {P : Program} {n : Nat} {ops os : List Oper} {acc : List Eff} {K : List Eff → St → Prop} {s : List (Nat × LV)} {bx : List (Nat × Option Box)} {X : Nat → Option Obj} {σ : St}
end
end Go.Lg
end
section
namespace Go.Lg
open Go Go.RowKit
section
variable {P : Program} {n : Nat} {ops os : List Oper} {acc : List Eff} {K : List Eff → St → Prop} {s : List (Nat × LV)} {bx : List (Nat × Option Box)} {X : Nat → Option Obj} {σ : St}
theorem slcBuild_many {t e : TypeId} {m sz : Nat} {z : Array Value} (hu : P.underlying t = some (.slice e)) (hz : (P.info? e).map (fun i => (i.size, i.zero.map (fun z => z.cells))) = some (sz, some z)) (hs : z.size = sz) (hm : m * sz ≤ 16777216) :
    slcBuild P t m = some ((List.replicate m z.toList).flatten, sz, e) := by
  unfold slcBuild
  rw [hu]
  simp only
  cases hi : P.info? e with
  | none => rw [hi] at hz; cases hz
  | some ie =>
    rw [hi] at hz
    simp only [Option.map_some, Option.some.injEq, Prod.mk.injEq] at hz
    obtain ⟨h1, h2⟩ := hz
    cases hzz : ie.zero with
    | none => rw [hzz] at h2; cases h2
    | some zv =>
      rw [hzz] at h2
      simp only [Option.map_some, Option.some.injEq] at h2
      simp only [hzz, h1, h2]
      rw [if_neg (show ¬ m * sz > 2 ^ 24 by omega)]
      have key : ∀ m : Nat, ((List.range (m * sz)).map fun i => z[i % z.size]!) = (List.replicate m z.toList).flatten := by
        intro m
        induction m with
        | zero => simp
        | succ m ih =>
          rw [Nat.succ_mul, List.range_add, List.map_append, ih, List.replicate_succ', List.flatten_append]
          congr 1
          rw [List.map_map]
          simp only [List.flatten_cons, List.flatten_nil, List.append_nil]
          apply List.ext_getElem
          · simp [hs]
          · intro i h3 h4
            have hi : i < sz := by simpa [hs] using h4
            have h5 : i % sz = i := Nat.mod_eq_of_lt hi
            have h6 : i < z.size := by omega
            rw [List.getElem_map, Function.comp_apply, List.getElem_range, hs, Nat.mul_add_mod_self_right, h5, Array.getElem_toList]
            exact getElem!_pos z i h6
      rw [key]
theorem MSpec.plain {f : FuncId} {args : List LV} {r : LV} (h : MSpec P X f args [] r []) : PSpec P X f args r :=
  ⟨h.enters, fun w vals hX hargs => (h.out w vals (fun _ => (0, 0)) (fun _ _ => none) ⟨fun k b hk => (by simp [stOf, look] at hk), fun k b hk => (by simp [stOf, look] at hk), fun k k' b b' hk => (by simp [stOf, look] at hk), hX, ⟨fun k e cs R hk => (by simp [stOf, look] at hk), fun k b o ho => (by cases ho), fun k k' b h => absurd rfl h⟩⟩ hargs).mono fun e w' ⟨v, ι', _, he, hr, _, hp⟩ =>
    ⟨v, he, LV.rel_later (later_noS _ _ _) hr, ⟨hp.os, hp.tape, hp.output, hp.big, fun b hb => hp.frame b hb (fun hl => by
      rcases hl with ⟨k, b0, hk, _⟩ | ⟨k, hk⟩
      · simp [stOf, look] at hk
      · exact hk rfl)⟩⟩⟩
end
end Go.Lg
end
section
namespace Go.Lg
open Go Go.RowKit
def joinM (X H : Nat → Option Obj) : Nat → Option Obj := fun b => (H b).or (X b)
def cutM (H : Nat → Option Obj) (blk : Nat) : Nat → Option Obj := fun b => if b = blk then none else H b
theorem joinM_in {X H : Nat → Option Obj} {b : Nat} {o : Obj} (h : H b = some o) : joinM X H b = some o := by unfold joinM; rw [h]; rfl
theorem joinM_out {X H : Nat → Option Obj} {b : Nat} (h : H b = none) : joinM X H b = X b := by unfold joinM; rw [h]; rfl
theorem joinM_none {X H : Nat → Option Obj} {b : Nat} (h : joinM X H b = none) : H b = none ∧ X b = none := by
  unfold joinM at h
  cases hh : H b with
  | none => rw [hh] at h; exact ⟨rfl, h⟩
  | some o => rw [hh] at h; cases h
theorem cutM_at (H : Nat → Option Obj) (blk : Nat) : cutM H blk blk = none := if_pos rfl
theorem cutM_other {H : Nat → Option Obj} {blk b : Nat} (h : b ≠ blk) : cutM H blk b = H b := if_neg h
theorem cutM_some {H : Nat → Option Obj} {blk b : Nat} {o : Obj} (h : cutM H blk b = some o) : b ≠ blk ∧ H b = some o := by
  unfold cutM at h
  split at h
  · cases h
  · rename_i hne; exact ⟨hne, h⟩
structure OwnedM (C : Ctx) (X H : Nat → Option Obj) : Prop where
  own : ∀ b o, H b = some o → (C.own b ∨ C.w0.heap.size ≤ b) ∧ Loose o ∧ X b = none
theorem OwnedM.cut {C : Ctx} {X H : Nat → Option Obj} (h : OwnedM C X H) (blk : Nat) : OwnedM C X (cutM H blk) := ⟨fun b o hb => h.own b o (cutM_some hb).2⟩
theorem joinM_cut {X H : Nat → Option Obj} {blk : Nat} {o : Obj} (h : H blk = some o) : joinM X H = withBlock (joinM X (cutM H blk)) blk o := by
  funext b
  unfold withBlock
  by_cases e : b = blk
  · rw [if_pos e, e]; exact joinM_in h
  · rw [if_neg e]; unfold joinM; rw [cutM_other e]
theorem joinM_with {X H : Nat → Option Obj} {blk : Nat} {o : Obj} : withBlock (joinM X H) blk o = joinM X (withBlock H blk o) := by
  funext b
  unfold withBlock joinM
  by_cases e : b = blk
  · simp [e]
  · simp [e]
theorem joinM_nil (X : Nat → Option Obj) : joinM X (fun _ => none) = X := by funext b; rfl
theorem OwnedM.more {C : Ctx} {X H : Nat → Option Obj} (h : OwnedM C X H) {blk : Nat} {arr : Array Value} {el : TypeId} {fr : Nat × Nat} (hF : Frozen C blk arr fr) (hX : joinM X H blk = none) : OwnedM C X (withBlock H blk (.cells arr el fr)) := ⟨fun b o hb => by
  unfold withBlock at hb
  split at hb
  · rename_i e; subst e; cases hb; exact ⟨hF.own, hF.thaw, (joinM_none hX).2⟩
  · exact h.own b o hb⟩
theorem OwnedM.nil (C : Ctx) (X : Nat → Option Obj) : OwnedM C X (fun _ => none) := ⟨fun _ _ h => by cases h⟩
theorem OwnedM.frozen {C : Ctx} {X H : Nat → Option Obj} (h : OwnedM C X H) {blk : Nat} {arr : Array Value} {el : TypeId} {fr : Nat × Nat} (hb : H blk = some (.cells arr el fr)) : Frozen C blk arr fr := ⟨(h.own _ _ hb).1, (h.own _ _ hb).2.1⟩
section
variable {P : Program} {n : Nat} {C : Ctx} {c : Code} {Q : Exit → St → Prop} {X : Nat → Option Obj} {s : List (Nat × LV)} {bx : List (Nat × Option Box)} {k : Nat}
theorem stat_hd (b : Option Box) (j : Nat) : (⟨s, (k, b) :: bx, X⟩ : St).stat j = if j = k then some b else look j bx := stat_cons s bx X k j b
theorem later_same {S S' : Nat → Option (Option Box)} (ι : Nat → Nat × Nat) (h : ∀ j, S j ≠ none → S' j ≠ none ∧ ∀ b', S' j = some (some b') → ∃ b, S j = some (some b)) : Later S S' ι ι :=
  fun j hj => ⟨(h j hj).1, fun b' hb' => ⟨rfl, (h j hj).2 b' hb'⟩⟩
theorem later_hd (ι : Nat → Nat × Nat) (b b' : Box) (X X' : Nat → Option Obj) : Later (⟨s, (k, some b) :: bx, X⟩ : St).stat (⟨s, (k, some b') :: bx, X'⟩ : St).stat ι ι := later_same ι fun j hj => by
  rw [stat_hd] at hj ⊢
  rw [stat_hd]
  by_cases e : j = k
  · rw [if_pos e, if_pos e]; exact ⟨by simp, fun _ _ => ⟨b, rfl⟩⟩
  · rw [if_neg e] at hj ⊢
    rw [if_neg e]; exact ⟨hj, fun b1 hb1 => ⟨b1, hb1⟩⟩
theorem Rel.openRes {ι : Nat → Nat × Nat} {a : Act} {w : World} {e : TypeId} {cs : List CV} {R : Rsc} (hroot : ∀ ρ H, R.holds ρ H → ∃ vals el fr, H ρ.1 = some (.cells vals el fr) ∧ vals.size = ρ.2)
    (hr : Rel n C ι ⟨s, (k, some ⟨e, cs, .res R⟩) :: bx, X⟩ a w) :
    ∃ (ρ : Nat × Nat) (H : Nat → Option Obj) (vals : Array Value) (el : TypeId) (fr : Nat × Nat), R.holds ρ H ∧ H ρ.1 = some (.cells vals el fr) ∧ OwnedM C X H ∧
      Rel n C ι ⟨s, (k, some ⟨el, vals.toList.map .val, false⟩) :: bx, joinM X (cutM H ρ.1)⟩ a w := by
  obtain ⟨F, hF⟩ := hr.res
  have hk : (⟨s, (k, some ⟨e, cs, .res R⟩) :: bx, X⟩ : St).stat k = some (some ⟨e, cs, .res R⟩) := by rw [stat_hd, if_pos rfl]
  obtain ⟨hR, _⟩ := hF.holds k _ _ _ hk
  obtain ⟨vals, el, fr, hv, hsz⟩ := hroot _ _ hR
  refine ⟨ι k, F k, vals, el, fr, hR, hv, ⟨fun b o hb => let h := hF.mem k b o hb; ⟨h.2.2.2.1, h.2.2.1, h.2.2.2.2.1⟩⟩, ?_⟩
  have hlater := later_hd (s := s) (bx := bx) (k := k) ι ⟨e, cs, .res R⟩ ⟨el, vals.toList.map .val, false⟩ X (joinM X (cutM (F k) (ι k).1))
  have live : ∀ j b, (⟨s, (k, some ⟨el, vals.toList.map .val, false⟩) :: bx, joinM X (cutM (F k) (ι k).1)⟩ : St).stat j = some (some b) → ∃ b0, (⟨s, (k, some ⟨e, cs, .res R⟩) :: bx, X⟩ : St).stat j = some (some b0) ∧ (j ≠ k → b = b0) := fun j b hj => by
    rw [stat_hd] at hj ⊢
    by_cases e : j = k
    · rw [if_pos e]; exact ⟨_, rfl, fun h => absurd e h⟩
    · rw [if_neg e] at hj ⊢; exact ⟨b, hj, fun _ => rfl⟩
  have hnot : ∀ j b, (⟨s, (k, some ⟨e, cs, .res R⟩) :: bx, X⟩ : St).stat j = some (some b) → cutM (F k) (ι k).1 (ι j).1 = none := fun j b hj => by
    cases hc : cutM (F k) (ι k).1 (ι j).1 with
    | none => rfl
    | some o =>
      obtain ⟨h1, h2⟩ := cutM_some hc
      have := (hF.mem k _ o h2).2.2.2.2.2 j b hj rfl
      rw [this] at h1
      exact absurd rfl h1
  have hmv := hF.mem k _ _ hv
  exact {
    defers := hr.defers, size := hr.size
    slots := fun d lv hd => by
      obtain ⟨v, hv, hvr⟩ := hr.slots d lv hd
      exact ⟨v, hv, LV.rel_later hlater hvr⟩
    boxes := fun j b hj hbk => by
      by_cases ej : j = k
      · subst ej
        rw [stat_hd, if_pos rfl] at hj
        simp only [Option.some.injEq] at hj
        subst hj
        exact ⟨vals, fr, hmv.2.1, hmv.2.2.1, hsz, CVs.rel_map_val _⟩
      · obtain ⟨b0, h0, h1⟩ := live j b hj
        have := h1 ej
        subst this
        obtain ⟨arr, fr', g1, g2, g3, g4⟩ := hr.boxes j b h0 hbk
        exact ⟨arr, fr', g1, g2, g3, Box.rel_later hlater g4⟩
    own := fun j b hj => by
      obtain ⟨b0, h0, _⟩ := live j b hj
      obtain ⟨h1, h2⟩ := hr.own j b0 h0
      exact ⟨h1, (joinM_out (hnot j b0 h0)).trans h2⟩
    inj := fun i j bi bj hi hj he => by
      obtain ⟨b1, h1, _⟩ := live i bi hi
      obtain ⟨b2, h2, _⟩ := live j bj hj
      exact hr.inj i j b1 b2 h1 h2 he
    keep := fun j b hj hge => by obtain ⟨b0, h0, _⟩ := live j b hj; exact hr.keep j b0 h0 hge
    ext := fun b o hb => by
      have hb : joinM X (cutM (F k) (ι k).1) b = some o := hb
      cases hc : cutM (F k) (ι k).1 b with
      | none => rw [joinM_out hc] at hb; exact hr.ext b o hb
      | some o' =>
        rw [joinM_in hc] at hb
        cases hb
        exact (hF.mem k b o (cutM_some hc).2).2.1
    res := by
      have hold : ∀ j, isRes (⟨s, (k, some ⟨el, vals.toList.map .val, false⟩) :: bx, joinM X (cutM (F k) (ι k).1)⟩ : St).stat j ↔ (j ≠ k ∧ isRes (⟨s, (k, some ⟨e, cs, .res R⟩) :: bx, X⟩ : St).stat j) := fun j => by
        unfold isRes
        simp only [stat_hd]
        by_cases ej : j = k
        · rw [if_pos ej, if_pos ej]
          exact ⟨fun ⟨_, _, _, h⟩ => (by cases h), fun h => absurd ej h.1⟩
        · rw [if_neg ej, if_neg ej]
          exact ⟨fun h => ⟨ej, h⟩, fun h => h.2⟩
      refine ⟨fun j => open Classical in if j = k then fun _ => none else F j, fun j e' cs' R' hj => ?_, fun j b o ho => ?_, fun i j b h1 h2 => ?_⟩
      · rw [stat_hd] at hj
        by_cases ej : j = k
        · rw [if_pos ej] at hj; cases hj
        · rw [if_neg ej] at hj
          rw [if_neg ej]
          exact hF.holds j e' cs' R' (by rw [stat_hd, if_neg ej]; exact hj)
      · by_cases ej : j = k
        · rw [if_pos ej] at ho; cases ho
        · rw [if_neg ej] at ho
          obtain ⟨h1, h2, h3, h4, h5, h6⟩ := hF.mem j b o ho
          refine ⟨(hold j).2 ⟨ej, h1⟩, h2, h3, h4, ?_, fun i bi hi ei => ?_⟩
          · have hc : cutM (F k) (ι k).1 b = none := by
              cases hc : cutM (F k) (ι k).1 b with
              | none => rfl
              | some o' => exact absurd (hF.apart j k b (by rw [ho]; simp) (by rw [(cutM_some hc).2]; simp)) ej
            exact (joinM_out hc).trans h5
          · obtain ⟨b0, h0, _⟩ := live i bi hi
            exact h6 i b0 h0 ei
      · by_cases ei : i = k
        · rw [if_pos ei] at h1; exact absurd rfl h1
        · by_cases ej : j = k
          · rw [if_pos ej] at h2; exact absurd rfl h2
          · rw [if_neg ei] at h1
            rw [if_neg ej] at h2
            exact hF.apart i j b h1 h2
    frame := hr.frame, big := hr.big, os := hr.os, tape := hr.tape, output := hr.output }
theorem LWP.openRes {e : TypeId} {cs : List CV} {R : Rsc} (hroot : ∀ ρ H, R.holds ρ H → ∃ vals el fr, H ρ.1 = some (.cells vals el fr) ∧ vals.size = ρ.2)
    (h : ∀ (ρ : Nat × Nat) (H : Nat → Option Obj) (vals : Array Value) (el : TypeId) (fr : Nat × Nat), R.holds ρ H → H ρ.1 = some (.cells vals el fr) → OwnedM C X H → LWP P n C c Q ⟨s, (k, some ⟨el, vals.toList.map .val, false⟩) :: bx, joinM X (cutM H ρ.1)⟩) :
    LWP P n C c Q ⟨s, (k, some ⟨e, cs, .res R⟩) :: bx, X⟩ := by
  refine ⟨fun ι a w hr => ?_⟩
  obtain ⟨ρ, H, vals, el, fr, h1, h2, h3, h4⟩ := hr.openRes hroot
  exact (h ρ H vals el fr h1 h2 h3).out ι a w h4
theorem Rel.closeRes {ι : Nat → Nat × Nat} {a : Act} {w : World} {el : TypeId} {vals : List Value} {H : Nat → Option Obj} {R : Rsc} (hO : OwnedM C X H)
    (hR : ∀ (ρ : Nat × Nat) (fr : Nat × Nat), H ρ.1 = none → X ρ.1 = none → ρ.2 = vals.length → R.holds ρ (withBlock H ρ.1 (.cells vals.toArray el fr)))
    (hr : Rel n C ι ⟨s, (k, some ⟨el, vals.map .val, false⟩) :: bx, joinM X H⟩ a w) :
    Rel n C ι ⟨s, (k, some ⟨0, [], .res R⟩) :: bx, X⟩ a w := by
  obtain ⟨F, hF⟩ := hr.res
  have hk : (⟨s, (k, some ⟨el, vals.map .val, false⟩) :: bx, joinM X H⟩ : St).stat k = some (some ⟨el, vals.map .val, false⟩) := by rw [stat_hd, if_pos rfl]
  obtain ⟨arr, fr, harr, hth, hsz, hbr⟩ := hr.boxes k _ hk rfl
  have hav : arr.toList = vals := rel_vals hbr
  have hav2 : arr = vals.toArray := by rw [← hav]
  obtain ⟨hkown, hkX⟩ := hr.own k _ hk
  obtain ⟨hkH, hkX⟩ := joinM_none hkX
  have hlater := later_hd (s := s) (bx := bx) (k := k) ι ⟨el, vals.map .val, false⟩ ⟨0, [], .res R⟩ (joinM X H) X
  have live : ∀ j b, (⟨s, (k, some ⟨0, [], .res R⟩) :: bx, X⟩ : St).stat j = some (some b) → ∃ b0, (⟨s, (k, some ⟨el, vals.map .val, false⟩) :: bx, joinM X H⟩ : St).stat j = some (some b0) ∧ (j ≠ k → b = b0) := fun j b hj => by
    rw [stat_hd] at hj ⊢
    by_cases e : j = k
    · rw [if_pos e]; exact ⟨_, rfl, fun h => absurd e h⟩
    · rw [if_neg e] at hj ⊢; exact ⟨b, hj, fun _ => rfl⟩
  have hroots : ∀ j b, (⟨s, (k, some ⟨el, vals.map .val, false⟩) :: bx, joinM X H⟩ : St).stat j = some (some b) → H (ι j).1 = none ∧ X (ι j).1 = none := fun j b hj => joinM_none (hr.own j b hj).2
  exact {
    defers := hr.defers, size := hr.size
    slots := fun d lv hd => by
      obtain ⟨v, hv, hvr⟩ := hr.slots d lv hd
      exact ⟨v, hv, LV.rel_later hlater hvr⟩
    boxes := fun j b hj hbk => by
      by_cases ej : j = k
      · subst ej
        rw [stat_hd, if_pos rfl] at hj
        simp only [Option.some.injEq] at hj
        subst hj
        cases hbk
      · obtain ⟨b0, h0, h1⟩ := live j b hj
        have := h1 ej
        subst this
        obtain ⟨arr', fr', g1, g2, g3, g4⟩ := hr.boxes j b h0 hbk
        exact ⟨arr', fr', g1, g2, g3, Box.rel_later hlater g4⟩
    own := fun j b hj => by
      obtain ⟨b0, h0, _⟩ := live j b hj
      exact ⟨(hr.own j b0 h0).1, (hroots j b0 h0).2⟩
    inj := fun i j bi bj hi hj he => by
      obtain ⟨b1, h1, _⟩ := live i bi hi
      obtain ⟨b2, h2, _⟩ := live j bj hj
      exact hr.inj i j b1 b2 h1 h2 he
    keep := fun j b hj hge => by obtain ⟨b0, h0, _⟩ := live j b hj; exact hr.keep j b0 h0 hge
    ext := fun b o hb => by
      have hb : X b = some o := hb
      have hH : H b = none := by
        cases hc : H b with
        | none => rfl
        | some o' => have := (hO.own b o' hc).2.2; rw [hb] at this; cases this
      exact hr.ext b o ((joinM_out hH).trans hb)
    res := by
      have hG : ∀ b o, withBlock H (ι k).1 (.cells vals.toArray el fr) b = some o → w.heap[b]? = some o ∧ Loose o ∧ (C.own b ∨ C.w0.heap.size ≤ b) ∧ X b = none ∧ (b = (ι k).1 ∨ H b = some o) := fun b o hb => by
        unfold withBlock at hb
        split at hb
        · rename_i e
          cases hb
          subst e
          refine ⟨by rw [← hav2]; exact harr, by rw [← hav2]; exact hth, hkown, hkX, .inl rfl⟩
        · obtain ⟨h1, h2, h3⟩ := hO.own b o hb
          exact ⟨hr.ext b o (joinM_in hb), h2, h1, h3, .inr hb⟩
      have hFX : ∀ j b, F j b ≠ none → H b = none ∧ X b = none ∧ b ≠ (ι k).1 := fun j b hb => by
        cases ho : F j b with
        | none => exact absurd ho hb
        | some o =>
          obtain ⟨h1, _, _, _, h5, h6⟩ := hF.mem j b o ho
          obtain ⟨h7, h8⟩ := joinM_none h5
          refine ⟨h7, h8, fun e => ?_⟩
          have := h6 k _ hk e.symm
          subst this
          obtain ⟨_, _, _, h9⟩ := h1
          rw [hk] at h9
          cases h9
      refine ⟨fun j => open Classical in if j = k then withBlock H (ι k).1 (.cells vals.toArray el fr) else F j, fun j e' cs' R' hj => ?_, fun j b o ho => ?_, fun i j b h1 h2 => ?_⟩
      · rw [stat_hd] at hj
        by_cases ej : j = k
        · rw [if_pos ej] at hj
          cases hj
          rw [if_pos ej, ej]
          exact ⟨hR (ι k) fr hkH hkX (by rw [← hsz, ← Array.length_toList, hav]), by rw [withBlock_at]; simp⟩
        · rw [if_neg ej] at hj
          rw [if_neg ej]
          exact hF.holds j e' cs' R' (by rw [stat_hd, if_neg ej]; exact hj)
      · by_cases ej : j = k
        · rw [if_pos ej] at ho
          obtain ⟨h1, h2, h3, h4, h5⟩ := hG b o ho
          refine ⟨⟨0, [], R, by rw [stat_hd, if_pos ej]⟩, h1, h2, h3, h4, fun i bi hi ei => ?_⟩
          obtain ⟨b0, h0, _⟩ := live i bi hi
          rw [ej]
          rcases h5 with h5 | h5
          · exact hr.inj i k b0 _ h0 hk (by rw [ei, h5])
          · have := (hroots i b0 h0).1; rw [ei, h5] at this; cases this
        · rw [if_neg ej] at ho
          obtain ⟨⟨e1, cs1, R1, h1⟩, h2, h3, h4, h5, h6⟩ := hF.mem j b o ho
          refine ⟨⟨e1, cs1, R1, by rw [stat_hd, if_neg ej]; rw [stat_hd, if_neg ej] at h1; exact h1⟩, h2, h3, h4, (joinM_none h5).2, fun i bi hi ei => ?_⟩
          obtain ⟨b0, h0, _⟩ := live i bi hi
          exact h6 i b0 h0 ei
      · by_cases ei : i = k
        · by_cases ej : j = k
          · rw [ei, ej]
          · rw [if_pos ei] at h1
            rw [if_neg ej] at h2
            obtain ⟨h3, _, h5⟩ := hFX j b h2
            cases ho : withBlock H (ι k).1 (.cells vals.toArray el fr) b with
            | none => exact absurd ho h1
            | some o =>
              rcases (hG b o ho).2.2.2.2 with h6 | h6
              · exact absurd h6 h5
              · rw [h3] at h6; cases h6
        · by_cases ej : j = k
          · rw [if_neg ei] at h1
            rw [if_pos ej] at h2
            obtain ⟨h3, _, h5⟩ := hFX i b h1
            cases ho : withBlock H (ι k).1 (.cells vals.toArray el fr) b with
            | none => exact absurd ho h2
            | some o =>
              rcases (hG b o ho).2.2.2.2 with h6 | h6
              · exact absurd h6 h5
              · rw [h3] at h6; cases h6
          · rw [if_neg ei] at h1
            rw [if_neg ej] at h2
            exact hF.apart i j b h1 h2
    frame := hr.frame, big := hr.big, os := hr.os, tape := hr.tape, output := hr.output }
theorem LWP.closeRes {el : TypeId} {vals : List Value} {H : Nat → Option Obj} {R : Rsc} (hO : OwnedM C X H)
    (hR : ∀ (ρ : Nat × Nat) (fr : Nat × Nat), H ρ.1 = none → X ρ.1 = none → ρ.2 = vals.length → R.holds ρ (withBlock H ρ.1 (.cells vals.toArray el fr)))
    (h : LWP P n C c Q ⟨s, (k, some ⟨0, [], .res R⟩) :: bx, X⟩) : LWP P n C c Q ⟨s, (k, some ⟨el, vals.map .val, false⟩) :: bx, joinM X H⟩ :=
  ⟨fun ι a w hr => h.out ι a w (hr.closeRes hO hR)⟩
theorem Leads.closeRes {Mid : St → Prop} {el : TypeId} {vals : List Value} {H : Nat → Option Obj} {R : Rsc} (hO : OwnedM C X H)
    (hR : ∀ (ρ : Nat × Nat) (fr : Nat × Nat), H ρ.1 = none → X ρ.1 = none → ρ.2 = vals.length → R.holds ρ (withBlock H ρ.1 (.cells vals.toArray el fr)))
    (h : Leads n C Mid ⟨s, (k, some ⟨0, [], .res R⟩) :: bx, X⟩) : Leads n C Mid ⟨s, (k, some ⟨el, vals.map .val, false⟩) :: bx, joinM X H⟩ :=
  ⟨fun ι a w hr => h.out ι a w (hr.closeRes hO hR)⟩
theorem LWP.ends (h : LWP P n C c (fun e σ => Leads n C (fun σ' => Q e σ') σ) ⟨s, bx, X⟩) : LWP P n C c Q ⟨s, bx, X⟩ :=
  ⟨fun ι a w hr => wp_mono (h.out ι a w hr) fun _ a' w' ⟨ι', σ', hl, hr'⟩ => by
    obtain ⟨ι2, σ2, hq, hr2⟩ := hl.out ι' a' w' hr'
    exact ⟨ι2, σ2, hq, hr2⟩⟩
end
end Go.Lg
end
section
namespace Go.Lg
open Go Go.RowKit
section
variable {P : Program} {n : Nat} {C : Ctx} {c : Code} {Q : Exit → St → Prop} {X : Nat → Option Obj} {s : List (Nat × LV)} {bx : List (Nat × Option Box)}
theorem Rel.thawName {ι : Nat → Nat × Nat} {a : Act} {w : World} {k blk : Nat} {el : TypeId} {vals : List Value} {arr : Array Value} {fr : Nat × Nat}
    (hX : X blk = none) (hF : Frozen C blk arr fr) (hsp : ∃ sp, arr.toList = vals ++ sp)
    (hs : s.all (fun p => p.2.inUse bx) = true) (hb : bx.all (fun p => match p.2 with | some b => b.cells.all (CV.inUse bx) | none => true) = true) (hk : look k bx = none) (hlt : k < 1000000)
    (hr : Rel n C ι ⟨s, bx, withBlock X blk (.cells arr el fr)⟩ a w) :
    Rel n C (put1 ι k (blk, arr.size)) ⟨s, (k, some ⟨el, vals.map .val, true⟩) :: bx, X⟩ a w := by
  have hlk : ∀ k' x, look k' bx = some x → k' ≠ k := fun k' x h' e => by rw [e, hk] at h'; cases h'
  have hι : ∀ k', k' ≠ k → put1 ι k (blk, arr.size) k' = ι k' := fun k' e => by unfold put1; rw [if_neg e]
  have hιk : put1 ι k (blk, arr.size) k = (blk, arr.size) := by unfold put1; rw [if_pos rfl]
  have hst : ∀ k' b, (⟨s, (k, some ⟨el, vals.map .val, true⟩) :: bx, X⟩ : St).stat k' = some (some b) → (k' = k ∧ b = ⟨el, vals.map .val, true⟩) ∨ (k' ≠ k ∧ look k' bx = some (some b)) := fun k' b h' => by
    rw [stat_hd] at h'
    by_cases e : k' = k
    · rw [if_pos e] at h'
      simp only [Option.some.injEq] at h'
      exact .inl ⟨e, h'.symm⟩
    · rw [if_neg e] at h'; exact .inr ⟨e, h'⟩
  have hon : SameOn bx (⟨s, bx, withBlock X blk (.cells arr el fr)⟩ : St).stat (⟨s, (k, some ⟨el, vals.map .val, true⟩) :: bx, X⟩ : St).stat := fun k' x h' => by
    rw [stat_hd, if_neg (hlk k' x h')]; rfl
  have hmean : ∀ {b : Box} {us : List Value}, b.rel (⟨s, (k, some ⟨el, vals.map .val, true⟩) :: bx, X⟩ : St).stat ι us → b.cells.all (CV.inUse bx) = true → b.rel (⟨s, (k, some ⟨el, vals.map .val, true⟩) :: bx, X⟩ : St).stat (put1 ι k (blk, arr.size)) us := fun {b us} h1 h2 => by
    unfold Box.rel at h1 ⊢
    cases hrow : b.row with
    | res R => rw [hrow] at h1; exact h1.elim
    | bool r =>
      cases r with
      | false => rw [hrow] at h1; exact CVs.rel_means (fun k' hk' => hι k' (by obtain ⟨x, hx⟩ := Option.isSome_iff_exists.1 hk'; exact hlk k' x hx)) h2 h1
      | true =>
        rw [hrow] at h1
        obtain ⟨us', sp, e, hl⟩ := h1
        exact ⟨us', sp, e, CVs.rel_means (fun k' hk' => hι k' (by obtain ⟨x, hx⟩ := Option.isSome_iff_exists.1 hk'; exact hlk k' x hx)) h2 hl⟩
  exact {
    defers := hr.defers, size := hr.size
    slots := fun d' lv hd => by
      obtain ⟨v', hv', hr'⟩ := hr.slots d' lv hd
      have hu := List.all_eq_true.1 hs _ (look_mem hd)
      exact ⟨v', hv', LV.rel_means (fun k' hk' => hι k' (by obtain ⟨x, hx⟩ := Option.isSome_iff_exists.1 hk'; exact hlk k' x hx)) hu (LV.rel_on hon hu hr')⟩
    res := by
      obtain ⟨F, hG⟩ := hr.res
      refine hG.keep (fun j e cs R hj => ?_) (fun _ _ _ _ _ hj => hj) (fun _ _ ho => ho) (fun b _ hx _ _ => ?_) (fun j bj hj => ?_)
      · rcases hst j _ hj with ⟨_, h2⟩ | ⟨hne, h2⟩
        · cases h2
        · exact ⟨h2, hι j hne⟩
      · have hx : withBlock X blk (.cells arr el fr) b = none := hx
        unfold withBlock at hx
        split at hx
        · cases hx
        · exact hx
      · rcases hst j bj hj with ⟨rfl, _⟩ | ⟨hne, h2⟩
        · rw [hιk]
          refine .inr (.inr (.inr ?_))
          show withBlock X blk (.cells arr el fr) blk ≠ none
          rw [withBlock_at]; simp
        · exact .inl ⟨bj, h2, by rw [hι j hne]⟩
    boxes := fun k' b hb' hbk => by
      rcases hst k' b hb' with ⟨rfl, rfl⟩ | ⟨hne, hb''⟩
      · rw [hιk]
        obtain ⟨sp, hsp⟩ := hsp
        exact ⟨arr, fr, hr.ext blk _ (withBlock_at _ _ _), hF.thaw, rfl, vals, sp, hsp, CVs.rel_map_val vals⟩
      · rw [hι k' hne]
        obtain ⟨arr', fr', h1, h2, h3, h4⟩ := hr.boxes k' b hb'' hbk
        have hu : b.cells.all (CV.inUse bx) = true := by simpa using List.all_eq_true.1 hb _ (look_mem hb'')
        exact ⟨arr', fr', h1, h2, h3, hmean (Box.rel_on hon hu h4) hu⟩
    own := fun k' b hb' => by
      rcases hst k' b hb' with ⟨rfl, rfl⟩ | ⟨hne, hb''⟩
      · rw [hιk]; exact ⟨hF.own, hX⟩
      · rw [hι k' hne]
        obtain ⟨h1, h2⟩ := hr.own k' b hb''
        refine ⟨h1, ?_⟩
        have h2 : withBlock X blk (.cells arr el fr) (ι k').1 = none := h2
        unfold withBlock at h2
        split at h2
        · cases h2
        · exact h2
    inj := fun k1 k2 b1 b2 h1 h2 he => by
      have hne : ∀ k' b, look k' bx = some (some b) → (ι k').1 ≠ blk := fun k' b hb' e => by
        have h2 : withBlock X blk (.cells arr el fr) (ι k').1 = none := (hr.own k' b hb').2
        rw [e, withBlock_at] at h2
        cases h2
      rcases hst k1 b1 h1 with ⟨e1, _⟩ | ⟨n1, h1'⟩ <;> rcases hst k2 b2 h2 with ⟨e2, _⟩ | ⟨n2, h2'⟩
      · rw [e1, e2]
      · rw [e1, hιk, hι k2 n2] at he; exact absurd he.symm (hne k2 b2 h2')
      · rw [e2, hιk, hι k1 n1] at he; exact absurd he (hne k1 b1 h1')
      · rw [hι k1 n1, hι k2 n2] at he; exact hr.inj k1 k2 b1 b2 h1' h2' he
    keep := fun k' b hb' hge => by
      rcases hst k' b hb' with ⟨e, _⟩ | ⟨hne, hb''⟩
      · omega
      · rw [hι k' hne]; exact hr.keep k' b hb'' hge
    ext := fun b o hbo => hr.ext b o (withBlock_old hX b o hbo)
    frame := hr.frame, big := hr.big, os := hr.os, tape := hr.tape, output := hr.output }
theorem rel_swap {S : Nat → Option (Option Box)} {ι : Nat → Nat × Nat} {c' : CV} {v : Value} (hc : c'.rel S ι v) : ∀ {A B : List CV} {vs : List Value}, CVs.rel S ι (A ++ .val v :: B) vs → CVs.rel S ι (A ++ c' :: B) vs
  | [], _, u :: _, h => ⟨by have := h.1; simp only [CV.rel] at this; rw [this]; exact hc, h.2⟩
  | [], _, [], h => h.elim
  | _ :: A, _, _ :: _, h => ⟨h.1, rel_swap hc (A := A) h.2⟩
  | _ :: _, _, [], h => h.elim
theorem Rel.recell {ι : Nat → Nat × Nat} {a : Act} {w : World} {j : Nat} {el2 : TypeId} {A B : List CV} {v : Value} {c' : CV} {row2 : Bool}
    (hc : c'.rel (⟨s, (j, some ⟨el2, A ++ c' :: B, row2⟩) :: bx, X⟩ : St).stat ι v)
    (hr : Rel n C ι ⟨s, (j, some ⟨el2, A ++ .val v :: B, row2⟩) :: bx, X⟩ a w) : Rel n C ι ⟨s, (j, some ⟨el2, A ++ c' :: B, row2⟩) :: bx, X⟩ a w := by
  have hlater := later_hd (s := s) (bx := bx) (k := j) ι ⟨el2, A ++ .val v :: B, row2⟩ ⟨el2, A ++ c' :: B, row2⟩ X X
  have live : ∀ i b, (⟨s, (j, some ⟨el2, A ++ c' :: B, row2⟩) :: bx, X⟩ : St).stat i = some (some b) → ∃ b0, (⟨s, (j, some ⟨el2, A ++ .val v :: B, row2⟩) :: bx, X⟩ : St).stat i = some (some b0) ∧ (i ≠ j → b = b0) := fun i b hi => by
    rw [stat_hd] at hi ⊢
    by_cases e : i = j
    · rw [if_pos e]; exact ⟨_, rfl, fun h => absurd e h⟩
    · rw [if_neg e] at hi ⊢; exact ⟨b, hi, fun _ => rfl⟩
  exact {
    defers := hr.defers, size := hr.size
    slots := fun d lv hd => by
      obtain ⟨v, hv, hvr⟩ := hr.slots d lv hd
      exact ⟨v, hv, LV.rel_later hlater hvr⟩
    boxes := fun i b hi hbk => by
      by_cases e : i = j
      · subst e
        rw [stat_hd, if_pos rfl] at hi
        simp only [Option.some.injEq] at hi
        subst hi
        obtain ⟨arr, fr, g1, g2, g3, g4⟩ := hr.boxes i ⟨el2, A ++ .val v :: B, row2⟩ (by rw [stat_hd, if_pos rfl]) rfl
        refine ⟨arr, fr, g1, g2, g3, ?_⟩
        have g5 := Box.rel_later hlater g4
        unfold Box.rel at g5 ⊢
        cases row2 with
        | false => exact rel_swap hc g5
        | true =>
          obtain ⟨us, sp, e, hl⟩ := g5
          exact ⟨us, sp, e, rel_swap hc hl⟩
      · obtain ⟨b0, h0, h1⟩ := live i b hi
        have := h1 e
        subst this
        obtain ⟨arr, fr, g1, g2, g3, g4⟩ := hr.boxes i b h0 hbk
        exact ⟨arr, fr, g1, g2, g3, Box.rel_later hlater g4⟩
    own := fun i b hi => by obtain ⟨b0, h0, _⟩ := live i b hi; exact hr.own i b0 h0
    inj := fun i i' bi bj hi hj he => by
      obtain ⟨b1, h1, _⟩ := live i bi hi
      obtain ⟨b2, h2, _⟩ := live i' bj hj
      exact hr.inj i i' b1 b2 h1 h2 he
    keep := fun i b hi hge => by obtain ⟨b0, h0, _⟩ := live i b hi; exact hr.keep i b0 h0 hge
    ext := hr.ext
    res := by
      obtain ⟨F, hG⟩ := hr.res
      refine hG.keep (fun i e cs R hi => ?_) (fun _ _ _ _ _ hi => hi) (fun _ _ ho => ho) (fun b _ hx _ _ => hx) (fun i bi hi => ?_)
      · rw [stat_hd] at hi ⊢
        by_cases e : i = j
        · rw [if_pos e] at hi; cases hi
        · rw [if_neg e] at hi ⊢; exact ⟨hi, rfl⟩
      · obtain ⟨b0, h0, _⟩ := live i bi hi
        exact .inl ⟨b0, h0, rfl⟩
    frame := hr.frame, big := hr.big, os := hr.os, tape := hr.tape, output := hr.output }
theorem LWP.thawCell {j k off len sz blk cap : Nat} {el el2 : TypeId} {A B : List CV} {row2 : Bool} {vals : List Value} {arr : Array Value} {fr : Nat × Nat}
    (hX : X blk = none) (hF : Frozen C blk arr fr) (hc : len ≤ cap) (hfit : off + cap * sz ≤ arr.size) (hsp : ∃ sp, arr.toList = vals ++ sp)
    (hs : s.all (fun p => p.2.inUse ((j, some ⟨el2, A ++ .val (.slice (some ⟨blk, off, none⟩) len cap) :: B, row2⟩) :: bx)) = true)
    (hb : ((j, some (⟨el2, A ++ .val (.slice (some ⟨blk, off, none⟩) len cap) :: B, row2⟩ : Box)) :: bx).all (fun p => match p.2 with | some b => b.cells.all (CV.inUse ((j, some ⟨el2, A ++ .val (.slice (some ⟨blk, off, none⟩) len cap) :: B, row2⟩) :: bx)) | none => true) = true)
    (hk : look k bx = none) (hjk : Nat.beq j k = false) (hlt : Nat.blt k 1000000 = true)
    (h : LWP P n C c Q ⟨s, (j, some ⟨el2, A ++ .slc k off len sz :: B, row2⟩) :: (k, some ⟨el, vals.map .val, true⟩) :: bx, X⟩) :
    LWP P n C c Q ⟨s, (j, some ⟨el2, A ++ .val (.slice (some ⟨blk, off, none⟩) len cap) :: B, row2⟩) :: bx, withBlock X blk (.cells arr el fr)⟩ := by
  have hjk' : k ≠ j := fun e => by rw [e, Nat.beq_refl] at hjk; cases hjk
  refine ⟨fun ι a w hr => ?_⟩
  have h1 := hr.thawName (k := k) hX hF hsp hs hb (by simp only [look, hjk, cond_false]; exact hk) (by rw [Nat.blt_eq] at hlt; exact hlt)
  have h2 : Rel n C (put1 ι k (blk, arr.size)) ⟨s, (j, some ⟨el2, A ++ .val (.slice (some ⟨blk, off, none⟩) len cap) :: B, row2⟩) :: (k, some ⟨el, vals.map .val, true⟩) :: bx, X⟩ a w := by
    refine h1.same ⟨fun _ => rfl, fun i => ?_, rfl⟩
    simp only [St.stat, look]
    cases e1 : Nat.beq j i with
    | false => rfl
    | true =>
      cases e2 : Nat.beq k i with
      | false => rfl
      | true => exact absurd ((Nat.eq_of_beq_eq_true e2).trans (Nat.eq_of_beq_eq_true e1).symm) hjk'
  refine h.out _ a w (h2.recell ?_)
  simp only [CV.rel]
  rw [stat_hd, if_neg hjk']
  simp only [look, show Nat.beq k k = true from Nat.beq_refl k, cond_true]
  unfold put1
  rw [if_pos rfl]
  exact ⟨cap, rfl, hc, hfit⟩
theorem LWP.freezeCell {j k off len sz : Nat} {el el2 : TypeId} {A B : List CV} {row2 : Bool} {vals : List Value} {row : Bool}
    (hs : s.all (fun p => p.2.inUse ((j, none) :: bx)) = true) (hA : A.all (CV.inUse ((j, none) :: bx)) = true) (hB : B.all (CV.inUse ((j, none) :: bx)) = true) (hb : bx.all (fun p => match p.2 with | some b => b.cells.all (CV.inUse ((j, none) :: bx)) | none => true) = true) (hk : look k bx = none) (hjk : Nat.beq j k = false)
    (h : ∀ (blk cap : Nat) (arr : Array Value) (fr : Nat × Nat), X blk = none → Frozen C blk arr fr → len ≤ cap → off + cap * sz ≤ arr.size → (∃ sp, arr.toList = vals ++ sp) →
      LWP P n C c Q ⟨s, (j, some ⟨el2, A ++ .val (.slice (some ⟨blk, off, none⟩) len cap) :: B, row2⟩) :: bx, withBlock X blk (.cells arr el fr)⟩) :
    LWP P n C c Q ⟨s, (j, some ⟨el2, A ++ .slc k off len sz :: B, row2⟩) :: (k, some ⟨el, vals.map .val, row⟩) :: bx, X⟩ := ⟨fun ι a w hr => by
  obtain ⟨blk, cap, arr, fr, h1, h2, h3, h4, h5, h6⟩ := hr.freezeCell hs hA hB hb hk hjk
  exact (h blk cap arr fr h1 h2 h3 h4 h5).out ι a w h6⟩
end
end Go.Lg
end
section
namespace Go.Lg
open Go Go.RowKit
section
variable {P : Program} {n : Nat} {ops os : List Oper} {acc : List Eff} {K : List Eff → St → Prop} {s : List (Nat × LV)} {bx : List (Nat × Option Box)} {X : Nat → Option Obj} {σ : St}
end
end Go.Lg
end
section
namespace Go.Lg
open Go Go.RowKit
def LeadsTo (H : Nat → Option Obj) (b : Nat) (v : Value) (el : TypeId) (sz : Nat) (vals : List Value) : Prop :=
  ∃ (len cap : Nat) (arr : Array Value) (fr : Nat × Nat), v = .slice (some ⟨b, 0, none⟩) len cap ∧ vals.length = len * sz ∧ len ≤ cap ∧ cap * sz ≤ arr.size ∧ H b = some (.cells arr el fr) ∧ ∃ sp, arr.toList = vals ++ sp
theorem LeadsTo.mono {H H' : Nat → Option Obj} {b : Nat} {v : Value} {el : TypeId} {sz : Nat} {vals : List Value} (h : LeadsTo H b v el sz vals) (he : H' b = H b) : LeadsTo H' b v el sz vals := by
  obtain ⟨len, cap, arr, fr, h1, h2, h3, h4, h5, h6⟩ := h
  exact ⟨len, cap, arr, fr, h1, h2, h3, h4, he.trans h5, h6⟩
theorem LeadsTo.cut {H : Nat → Option Obj} {b b' : Nat} {v : Value} {el : TypeId} {sz : Nat} {vals : List Value} (h : LeadsTo H b v el sz vals) (hne : b ≠ b') : LeadsTo (cutM H b') b v el sz vals := h.mono (cutM_other hne)
theorem LeadsTo.more {H : Nat → Option Obj} {b b' : Nat} {o : Obj} {v : Value} {el : TypeId} {sz : Nat} {vals : List Value} (h : LeadsTo H b v el sz vals) (hne : b ≠ b') : LeadsTo (withBlock H b' o) b v el sz vals := h.mono (by unfold withBlock; rw [if_neg hne])
theorem mid_inUse {bx : List (Nat × Option Box)} {l l' : List Value} {c : CV} (h : c.inUse bx = true) : (l.map CV.val ++ c :: l'.map CV.val).all (CV.inUse bx) = true := by
  rw [List.all_append, List.all_cons, vals_inUse, vals_inUse, h]; rfl
theorem Box.ren_mid {f : Nat → Nat} {e : TypeId} {l l' : List Value} {c c' : CV} {r : Bool} (h : c.ren f = c') : Box.ren f ⟨e, l.map CV.val ++ c :: l'.map CV.val, r⟩ = ⟨e, l.map CV.val ++ c' :: l'.map CV.val, r⟩ := by
  unfold Box.ren
  rw [List.map_append, List.map_cons, Go.Lg.ren_vals, Go.Lg.ren_vals, h]
section
variable {P : Program} {n : Nat} {C : Ctx} {c : Code} {Q : Exit → St → Prop} {X H : Nat → Option Obj} {s : List (Nat × LV)} {bx : List (Nat × Option Box)}
theorem LWP.openCell {j k sz b len : Nat} {v : Value} {el el2 : TypeId} {A B : List CV} {row2 : Bool} {vals : List Value}
    (hO : OwnedM C X H) (hv : LeadsTo H b v el sz vals) (hlen : vals.length = len * sz) (hsz : 0 < sz)
    (hs : s.all (fun p => p.2.inUse ((j, some ⟨el2, A ++ .val v :: B, row2⟩) :: bx)) = true)
    (hb : ((j, some (⟨el2, A ++ .val v :: B, row2⟩ : Box)) :: bx).all (fun p => match p.2 with | some b => b.cells.all (CV.inUse ((j, some ⟨el2, A ++ .val v :: B, row2⟩) :: bx)) | none => true) = true)
    (hk : look k bx = none) (hjk : Nat.beq j k = false) (hlt : Nat.blt k 1000000 = true)
    (h : LWP P n C c Q ⟨s, (j, some ⟨el2, A ++ .slc k 0 len sz :: B, row2⟩) :: (k, some ⟨el, vals.map .val, true⟩) :: bx, joinM X (cutM H b)⟩) :
    LWP P n C c Q ⟨s, (j, some ⟨el2, A ++ .val v :: B, row2⟩) :: bx, joinM X H⟩ := by
  obtain ⟨len', cap, arr, fr, rfl, h2, h3, h4, h5, h6⟩ := hv
  have e : len' = len := Nat.eq_of_mul_eq_mul_right hsz (h2.symm.trans hlen)
  subst e
  rw [joinM_cut h5]
  have hX : joinM X (cutM H b) b = none := by rw [joinM_out (cutM_at H b)]; exact (hO.own _ _ h5).2.2
  exact LWP.thawCell hX (hO.frozen h5) h3 (by omega) h6 hs hb hk hjk hlt h
theorem closed {blk len cap sz : Nat} {arr : Array Value} {fr : Nat × Nat} {el : TypeId} {vals : List Value} (hlen : vals.length = len * sz) (hX : joinM X H blk = none) (hO : OwnedM C X H) (hF : Frozen C blk arr fr) (hc : len ≤ cap) (hfit : 0 + cap * sz ≤ arr.size) (hsp : ∃ sp, arr.toList = vals ++ sp) :
    H blk = none ∧ OwnedM C X (withBlock H blk (.cells arr el fr)) ∧ LeadsTo (withBlock H blk (.cells arr el fr)) blk (.slice (some ⟨blk, 0, none⟩) len cap) el sz vals :=
  ⟨(joinM_none hX).1, hO.more hF hX, ⟨len, cap, arr, fr, rfl, hlen, hc, by omega, withBlock_at _ _ _, hsp⟩⟩
theorem LWP.closeCell {j k len sz : Nat} {el el2 : TypeId} {A B : List CV} {row2 : Bool} {vals : List Value} {row : Bool} (hO : OwnedM C X H) (hlen : vals.length = len * sz)
    (hs : s.all (fun p => p.2.inUse ((j, none) :: bx)) = true) (hA : A.all (CV.inUse ((j, none) :: bx)) = true) (hB : B.all (CV.inUse ((j, none) :: bx)) = true) (hb : bx.all (fun p => match p.2 with | some b => b.cells.all (CV.inUse ((j, none) :: bx)) | none => true) = true) (hk : look k bx = none) (hjk : Nat.beq j k = false)
    (h : ∀ (b : Nat) (o : Obj) (v : Value), H b = none → X b = none → OwnedM C X (withBlock H b o) → LeadsTo (withBlock H b o) b v el sz vals →
      LWP P n C c Q ⟨s, (j, some ⟨el2, A ++ .val v :: B, row2⟩) :: bx, joinM X (withBlock H b o)⟩) :
    LWP P n C c Q ⟨s, (j, some ⟨el2, A ++ .slc k 0 len sz :: B, row2⟩) :: (k, some ⟨el, vals.map .val, row⟩) :: bx, joinM X H⟩ := by
  refine LWP.freezeCell hs hA hB hb hk hjk fun blk cap arr fr h1 h2 h3 h4 h5 => ?_
  rw [joinM_with]
  obtain ⟨g1, g2, g3⟩ := closed (el := el) hlen h1 hO h2 h3 h4 h5
  exact h blk _ _ g1 (joinM_none h1).2 g2 g3
theorem LWP.loopL {c : Code} {σ : St} (I : Nat → St → Prop) (m : Nat) (h0 : Leads n C (I m) σ)
    (round : ∀ m σ, I m σ → LWP P n C c (thenQ (Leads n C (fun σ' => ∃ m', m' < m ∧ I m' σ')) Q) σ) : LWP P n C (.loop c) Q σ := by
  refine ⟨fun ι a w hr => ?_⟩
  have key : ∀ (m : Nat) (σ : St) (ι : Nat → Nat × Nat) (a : Act) (w : World), I m σ → Rel n C ι σ a w → Code.rounds P c (fun e a' w' => ∃ ι' σ', Q e σ' ∧ Rel n C ι' σ' a' w') (m + 1) a w := by
    intro m
    induction m using Nat.strongRecOn with
    | _ m ih =>
      intro σ ι a w hI hr
      rw [rounds_succ]
      refine wp_mono ((round m σ hI).out ι a w hr) ?_
      rintro e a' w' ⟨ι', σ', hq, hr'⟩
      cases e <;> try exact ⟨ι', σ', hq, hr'⟩
      obtain ⟨ι2, σ2, ⟨m', hlt, hI'⟩, hr2⟩ := hq.out ι' a' w' hr'
      exact rounds_le (by omega) (ih m' hlt σ2 ι2 a' w' hI' hr2)
  obtain ⟨ι2, σ2, hI, hr2⟩ := h0.out ι a w hr
  exact wp_loop_rounds (m + 1) (key m σ2 ι2 a w hI hr2)
theorem rel_front {S : Nat → Option (Option Box)} {ι : Nat → Nat × Nat} : ∀ {A B : List CV} {vs : List Value}, CVs.rel S ι (A ++ B) vs → ∃ va vb, vs = va ++ vb ∧ CVs.rel S ι A va
  | [], _, vs, _ => ⟨[], vs, rfl, trivial⟩
  | _ :: _, _, [], h => h.elim
  | _ :: A, B, v :: vs, h => by
    obtain ⟨va, vb, e, h1⟩ := rel_front (A := A) (B := B) h.2
    exact ⟨v :: va, vb, by rw [e]; rfl, h.1, h1⟩
theorem Rel.rebox {ι : Nat → Nat × Nat} {a : Act} {w : World} {j : Nat} {e : TypeId} {cs cs' : List CV} {r r' : Bool}
    (himp : ∀ vs, Box.rel (⟨s, (j, some ⟨e, cs', r'⟩) :: bx, X⟩ : St).stat ι ⟨e, cs, r⟩ vs → Box.rel (⟨s, (j, some ⟨e, cs', r'⟩) :: bx, X⟩ : St).stat ι ⟨e, cs', r'⟩ vs)
    (hr : Rel n C ι ⟨s, (j, some ⟨e, cs, r⟩) :: bx, X⟩ a w) : Rel n C ι ⟨s, (j, some ⟨e, cs', r'⟩) :: bx, X⟩ a w := by
  have hlater := later_hd (s := s) (bx := bx) (k := j) ι ⟨e, cs, r⟩ ⟨e, cs', r'⟩ X X
  have live : ∀ i b, (⟨s, (j, some ⟨e, cs', r'⟩) :: bx, X⟩ : St).stat i = some (some b) → ∃ b0, (⟨s, (j, some ⟨e, cs, r⟩) :: bx, X⟩ : St).stat i = some (some b0) ∧ (i ≠ j → b = b0) := fun i b hi => by
    rw [stat_hd] at hi ⊢
    by_cases e : i = j
    · rw [if_pos e]; exact ⟨_, rfl, fun h => absurd e h⟩
    · rw [if_neg e] at hi ⊢; exact ⟨b, hi, fun _ => rfl⟩
  exact {
    defers := hr.defers, size := hr.size
    slots := fun d lv hd => by
      obtain ⟨v, hv, hvr⟩ := hr.slots d lv hd
      exact ⟨v, hv, LV.rel_later hlater hvr⟩
    boxes := fun i b hi hbk => by
      by_cases ei : i = j
      · subst ei
        rw [stat_hd, if_pos rfl] at hi
        simp only [Option.some.injEq] at hi
        subst hi
        obtain ⟨arr, fr, g1, g2, g3, g4⟩ := hr.boxes i ⟨e, cs, r⟩ (by rw [stat_hd, if_pos rfl]) rfl
        exact ⟨arr, fr, g1, g2, g3, himp _ (Box.rel_later hlater g4)⟩
      · obtain ⟨b0, h0, h1⟩ := live i b hi
        have := h1 ei
        subst this
        obtain ⟨arr, fr, g1, g2, g3, g4⟩ := hr.boxes i b h0 hbk
        exact ⟨arr, fr, g1, g2, g3, Box.rel_later hlater g4⟩
    own := fun i b hi => by obtain ⟨b0, h0, _⟩ := live i b hi; exact hr.own i b0 h0
    inj := fun i i' bi bj hi hj he => by
      obtain ⟨b1, h1, _⟩ := live i bi hi
      obtain ⟨b2, h2, _⟩ := live i' bj hj
      exact hr.inj i i' b1 b2 h1 h2 he
    keep := fun i b hi hge => by obtain ⟨b0, h0, _⟩ := live i b hi; exact hr.keep i b0 h0 hge
    ext := hr.ext
    res := by
      obtain ⟨F, hG⟩ := hr.res
      refine hG.keep (fun i e cs R hi => ?_) (fun _ _ _ _ _ hi => hi) (fun _ _ ho => ho) (fun b _ hx _ _ => hx) (fun i bi hi => ?_)
      · rw [stat_hd] at hi ⊢
        by_cases e : i = j
        · rw [if_pos e] at hi; cases hi
        · rw [if_neg e] at hi ⊢; exact ⟨hi, rfl⟩
      · obtain ⟨b0, h0, _⟩ := live i bi hi
        exact .inl ⟨b0, h0, rfl⟩
    frame := hr.frame, big := hr.big, os := hr.os, tape := hr.tape, output := hr.output }
theorem Le.trim {j : Nat} {e : TypeId} {A B : List CV} {r : Bool} : Le n C ⟨s, (j, some ⟨e, A ++ B, r⟩) :: bx, X⟩ ⟨s, (j, some ⟨e, A, true⟩) :: bx, X⟩ := ⟨fun ι a w hr => ⟨ι, hr.rebox fun vs h => by
  unfold Box.rel at h ⊢
  cases r with
  | false =>
    obtain ⟨va, vb, e, h1⟩ := rel_front h
    exact ⟨va, vb, e, h1⟩
  | true =>
    obtain ⟨us, sp, e, hl⟩ := h
    obtain ⟨va, vb, e2, h1⟩ := rel_front hl
    exact ⟨va, vb ++ sp, by rw [e, e2, List.append_assoc], h1⟩⟩⟩
theorem Le.same {σ σ' : St} (h : Same σ σ') : Le n C σ σ' := ⟨fun ι _ _ hr => ⟨ι, hr.same h⟩⟩
theorem Leads.done {Mid : St → Prop} {σ : St} (h : Mid σ) : Leads n C Mid σ := ⟨fun ι a w hr => ⟨ι, σ, h, hr⟩⟩
theorem Leads.closeCell {Mid : St → Prop} {j k len sz : Nat} {el el2 : TypeId} {A B : List CV} {row2 : Bool} {vals : List Value} {row : Bool} (hO : OwnedM C X H) (hlen : vals.length = len * sz)
    (hs : s.all (fun p => p.2.inUse ((j, none) :: bx)) = true) (hA : A.all (CV.inUse ((j, none) :: bx)) = true) (hB : B.all (CV.inUse ((j, none) :: bx)) = true) (hb : bx.all (fun p => match p.2 with | some b => b.cells.all (CV.inUse ((j, none) :: bx)) | none => true) = true) (hk : look k bx = none) (hjk : Nat.beq j k = false)
    (h : ∀ (b : Nat) (o : Obj) (v : Value), H b = none → X b = none → OwnedM C X (withBlock H b o) → LeadsTo (withBlock H b o) b v el sz vals →
      Leads n C Mid ⟨s, (j, some ⟨el2, A ++ .val v :: B, row2⟩) :: bx, joinM X (withBlock H b o)⟩) :
    Leads n C Mid ⟨s, (j, some ⟨el2, A ++ .slc k 0 len sz :: B, row2⟩) :: (k, some ⟨el, vals.map .val, row⟩) :: bx, joinM X H⟩ := by
  refine Leads.freezeCell hs hA hB hb hk hjk fun blk cap arr fr h1 h2 h3 h4 h5 => ?_
  rw [joinM_with]
  obtain ⟨g1, g2, g3⟩ := closed (el := el) hlen h1 hO h2 h3 h4 h5
  exact h blk _ _ g1 (joinM_none h1).2 g2 g3
end
end Go.Lg
end
section
namespace Go.Lg
open Go Go.RowKit
def nilSlc : Value := .slice none 0 0
def blkOf : Value → Option Nat
  | .slice (some a) _ _ => some a.block
  | _ => none
theorem LeadsTo.blk {H : Nat → Option Obj} {b : Nat} {v : Value} {el : TypeId} {sz : Nat} {vals : List Value} (h : LeadsTo H b v el sz vals) : blkOf v = some b := by
  obtain ⟨len, cap, arr, fr, rfl, _⟩ := h
  rfl
def SliceTo (H : Nat → Option Obj) (v : Value) (el : TypeId) (vals : List Value) : Prop := ∃ b, LeadsTo H b v el 1 vals
theorem SliceTo.mono {H H' : Nat → Option Obj} {v : Value} {el : TypeId} {vals : List Value} (h : SliceTo H v el vals) (he : ∀ b, blkOf v = some b → H' b = H b) : SliceTo H' v el vals := by
  obtain ⟨b, h⟩ := h
  exact ⟨b, h.mono (he b h.blk)⟩
theorem SliceTo.some_of {H : Nat → Option Obj} {v : Value} {el : TypeId} {vals : List Value} (h : SliceTo H v el vals) {b : Nat} (hb : blkOf v = some b) : H b ≠ Option.none := by
  obtain ⟨b', h⟩ := h
  have := h.blk
  rw [this] at hb
  simp only [Option.some.injEq] at hb
  subst hb
  obtain ⟨_, _, _, _, _, _, _, _, h5, _⟩ := h
  rw [h5]; simp
theorem cut_with {H : Nat → Option Obj} {b : Nat} {o : Obj} (h : H b = none) : cutM (withBlock H b o) b = H := by
  funext i
  unfold cutM withBlock
  by_cases e : i = b
  · rw [if_pos e, e, h]
  · rw [if_neg e, if_neg e]
structure Cells (H : Nat → Option Obj) (el : TypeId) (op : List Nat) (cells : List Value) (chs : List (List Value)) : Prop where
  len : cells.length = chs.length
  at_ : ∀ (i : Nat) (c : Value) (x : List Value), i ∉ op → cells[i]? = some c → chs[i]? = some x → SliceTo H c el x
  apart : ∀ (i j : Nat) (c c' : Value) (b : Nat), i ∉ op → j ∉ op → cells[i]? = some c → cells[j]? = some c' → blkOf c = some b → blkOf c' = some b → i = j
theorem Cells.nil (H : Nat → Option Obj) (el : TypeId) (op : List Nat) : Cells H el op [] [] := ⟨rfl, fun i c x _ h => (by simp at h), fun i j c c' b _ _ h => (by simp at h)⟩
section
variable {H : Nat → Option Obj} {el : TypeId} {op : List Nat} {cells : List Value} {chs : List (List Value)}
theorem Cells.some_of (G : Cells H el op cells chs) {i : Nat} {c : Value} {b : Nat} (hi : i ∉ op) (hc : cells[i]? = some c) (hb : blkOf c = some b) : H b ≠ none := by
  obtain ⟨x, hx⟩ : ∃ x, chs[i]? = some x := ⟨_, List.getElem?_eq_getElem (by have := (List.getElem?_eq_some_iff.1 hc).1; have := G.len; omega)⟩
  exact (G.at_ i c x hi hc hx).some_of hb
theorem Cells.mono {H' : Nat → Option Obj} (G : Cells H el op cells chs) (h : ∀ (i : Nat) (c : Value) (b : Nat), i ∉ op → cells[i]? = some c → blkOf c = some b → H' b = H b) : Cells H' el op cells chs :=
  ⟨G.len, fun i c x hi hc hx => (G.at_ i c x hi hc hx).mono fun b hb => h i c b hi hc hb, G.apart⟩
theorem Cells.more (G : Cells H el op cells chs) {b : Nat} {o : Obj} (hb : H b = none) : Cells (withBlock H b o) el op cells chs := G.mono fun i c b' hi hc hb' => by
  unfold withBlock
  rw [if_neg (fun e => G.some_of hi hc hb' (by rw [e, hb]))]
theorem Cells.shutAt {p : Nat} (G : Cells H el (p :: op) cells chs) (hp : p < cells.length) {b : Nat} {o : Obj} {v : Value} {x : List Value} (hb : H b = none) (hv : LeadsTo (withBlock H b o) b v el 1 x) : Cells (withBlock H b o) el op (cells.set p v) (chs.set p x) := by
  have hno : ∀ (i : Nat), i ∉ op → i ≠ p → i ∉ p :: op := fun i hi hne h => by
    rcases List.mem_cons.1 h with h | h
    · exact hne h
    · exact hi h
  refine ⟨by rw [List.length_set, List.length_set]; exact G.len, fun i c x' hi hc hx => ?_, fun i j c c' β hi hj hc hc' hβ hβ' => ?_⟩
  · by_cases e : i = p
    · subst e
      rw [List.getElem?_set_self hp] at hc
      rw [List.getElem?_set_self (by have := G.len; omega)] at hx
      simp only [Option.some.injEq] at hc hx
      subst hc hx
      exact ⟨b, hv⟩
    · rw [List.getElem?_set_ne (fun e' => e e'.symm)] at hc hx
      exact (G.more hb).at_ i c x' (hno i hi e) hc hx
  · by_cases e : i = p
    · by_cases e2 : j = p
      · omega
      · exfalso
        subst e
        rw [List.getElem?_set_self hp] at hc
        simp only [Option.some.injEq] at hc
        subst hc
        rw [List.getElem?_set_ne (fun e' => e2 e'.symm)] at hc'
        rw [hv.blk] at hβ
        simp only [Option.some.injEq] at hβ
        exact G.some_of (hno j hj e2) hc' hβ' (by rw [← hβ, hb])
    · by_cases e2 : j = p
      · exfalso
        subst e2
        rw [List.getElem?_set_self hp] at hc'
        simp only [Option.some.injEq] at hc'
        subst hc'
        rw [List.getElem?_set_ne (fun e' => e e'.symm)] at hc
        rw [hv.blk] at hβ'
        simp only [Option.some.injEq] at hβ'
        exact G.some_of (hno i hi e) hc hβ (by rw [← hβ', hb])
      · rw [List.getElem?_set_ne (fun e' => e e'.symm)] at hc
        rw [List.getElem?_set_ne (fun e' => e2 e'.symm)] at hc'
        exact G.apart i j c c' β (hno i hi e) (hno j hj e2) hc hc' hβ hβ'
theorem Cells.snoc (G : Cells H el op cells chs) (c : Value) (x : List Value) : Cells H el (cells.length :: op) (cells ++ [c]) (chs ++ [x]) := by
  have hlt : ∀ (i : Nat) (ci : Value), i ∉ cells.length :: op → (cells ++ [c])[i]? = some ci → i ∉ op ∧ i < cells.length ∧ cells[i]? = some ci := fun i ci hi hci => by
    have h1 := (List.getElem?_eq_some_iff.1 hci).1
    rw [List.length_append] at h1
    have h2 : i ≠ cells.length := fun e => hi (by rw [e]; exact List.mem_cons_self ..)
    have h3 : i < cells.length := by simp at h1; omega
    rw [List.getElem?_append_left h3] at hci
    exact ⟨fun h => hi (List.mem_cons_of_mem _ h), h3, hci⟩
  refine ⟨by rw [List.length_append, List.length_append, G.len]; rfl, fun i ci xi hi hci hxi => ?_, fun i j ci cj β hi hj hci hcj hβ hβ' => ?_⟩
  · obtain ⟨h1, h2, h3⟩ := hlt i ci hi hci
    rw [List.getElem?_append_left (by have := G.len; omega)] at hxi
    exact G.at_ i ci xi h1 h3 hxi
  · obtain ⟨h1, _, h3⟩ := hlt i ci hi hci
    obtain ⟨g1, _, g3⟩ := hlt j cj hj hcj
    exact G.apart i j ci cj β h1 g1 h3 g3 hβ hβ'
theorem Cells.take (G : Cells H el op cells chs) (k : Nat) : Cells H el op (cells.take k) (chs.take k) := by
  have hlt : ∀ (i : Nat) (ci : Value), (cells.take k)[i]? = some ci → cells[i]? = some ci := fun i ci h => by
    rw [List.getElem?_take] at h
    split at h
    · exact h
    · cases h
  refine ⟨by rw [List.length_take, List.length_take, G.len], fun i ci xi hi hci hxi => G.at_ i ci xi hi (hlt i ci hci) ?_, fun i j ci cj β hi hj hci hcj => G.apart i j ci cj β hi hj (hlt i ci hci) (hlt j cj hcj)⟩
  rw [List.getElem?_take] at hxi
  split at hxi
  · exact hxi
  · cases hxi
end
def Grid (H : Nat → Option Obj) (st el : TypeId) (v : Value) (cells : List Value) (chs : List (List Value)) : Prop :=
  (∃ db, LeadsTo H db v st 1 cells ∧ Cells (cutM H db) el [] cells chs) ∨ (v = nilSlc ∧ cells = [] ∧ chs = [])
theorem Grid.empty (H : Nat → Option Obj) (st el : TypeId) : Grid H st el nilSlc [] [] := .inr ⟨rfl, rfl, rfl⟩
theorem Grid.shut {H : Nat → Option Obj} {st el : TypeId} {v : Value} {cells : List Value} {chs : List (List Value)} {d : Nat} {o : Obj} (G : Cells H el [] cells chs) (hd : H d = none) (hv : LeadsTo (withBlock H d o) d v st 1 cells) : Grid (withBlock H d o) st el v cells chs :=
  .inl ⟨d, hv, by rw [cut_with hd]; exact G⟩
theorem Grid.len {H : Nat → Option Obj} {st el : TypeId} {v : Value} {cells : List Value} {chs : List (List Value)} (G : Grid H st el v cells chs) : cells.length = chs.length := by
  rcases G with ⟨_, _, G⟩ | ⟨_, h1, h2⟩
  · exact G.len
  · rw [h1, h2]; rfl
end Go.Lg
end
section
namespace Go.Lg
open Go Go.RowKit
section
variable {P : Program} {n : Nat} {ops os : List Oper} {acc : List Eff} {K : List Eff → St → Prop} {s : List (Nat × LV)} {bx : List (Nat × Option Box)} {X : Nat → Option Obj} {σ : St}
theorem run_equal_slcNil {P : Program} (w : World) (t : TypeId) (a : Option Addr) (l c sz : Nat) (h : sliceOf P t = some sz) : (Op.equal t (.slice a l c) (.slice none 0 0)).run P w = .ok a.isNone w := by
  obtain ⟨e, hu, _⟩ := sliceOf_spec h
  have key : ∀ d, (Op.equalIn (d + 1) t (.slice a l c) (.slice none 0 0)).run P w = .ok a.isNone w := fun d => by
    cases a <;> simp [Op.equalIn, run_underlying hu]
  exact key 9999
theorem LOK.slcNil {d : Nat} {op : BinOp} {t t' : TypeId} {x : Operand} {ty : TypeId} {pos : String} {after_ : Array Edge} {g : Option (Nat × Bool)} {r : Bool} {ad : Option Addr} {len cap sz : Nat} (hx : σ.ev x = some (.sv (.one (.val (.slice ad len cap))))) (ht : sliceOf P t = some sz)
    (hop : (op = .eql ∧ r = ad.isNone) ∨ (op = .neq ∧ r = !ad.isNone)) :
    LOK P n ops ⟨some d, .binOp op t x (.const (.slice none 0 0)) t', ty, pos, after_, g⟩ σ ⟨[(d, .sv (.one (.val (.bool r))))], [], []⟩ :=
  LOK.value fun σ' ha C ι a w hr => by
    have hv : a.eval x = .slice ad len cap := hr.ev ((ha.ev (x := x) (by simp [Op.operands])).trans hx)
    have hc : a.eval (.const (.slice none 0 0)) = .slice none 0 0 := rfl
    have h1 := run_equal_slcNil w t ad len cap sz ht
    rcases hop with ⟨rfl, rfl⟩ | ⟨rfl, rfl⟩
    · exact ⟨_, by simp only [execOp, hv, hc, eqGuard, Sem.run_bind]; simp [binOp, h1], rfl⟩
    · exact ⟨_, by simp only [execOp, hv, hc, eqGuard, Sem.run_bind]; simp [binOp, h1], rfl⟩
theorem K.slcNil {d : Nat} {op : BinOp} {t t' : TypeId} {x : Operand} {ty : TypeId} {pos : String} {after_ : Array Edge} {g : Option (Nat × Bool)} {r : Bool} {ad : Option Addr} {len cap sz : Nat} (hx : (⟨s, bx, X⟩ : St).ev x = some (.sv (.one (.val (.slice ad len cap))))) (ht : sliceOf P t = some sz)
    (hop : (op = .eql ∧ r = ad.isNone) ∨ (op = .neq ∧ r = !ad.isNone)) (hw : Want ops s g) (kont : RunK P n ops os ⟨(d, .sv (.one (.val (.bool r)))) :: s, bx, X⟩ (⟨[(d, .sv (.one (.val (.bool r))))], [], []⟩ :: acc) K) :
    RunK P n ops (⟨some d, .binOp op t x (.const (.slice none 0 0)) t', ty, pos, after_, g⟩ :: os) ⟨s, bx, X⟩ acc K := RunK.g1 (LOK.slcNil hx ht hop) hw kont
end
end Go.Lg
end
section
namespace Go.Lg
open Go Go.RowKit
def LentBox (Y : Nat → Option Obj) (b : Box) (blk m : Nat) : Prop :=
  match b.row with
  | .bool _ => ∃ (arr : Array Value) (fr : Nat × Nat) (us sp : List Value), Y blk = some (.cells arr b.elem fr) ∧ arr.size = m ∧ arr.toList = us ++ sp ∧ ∀ vals : List Value, b.cells = vals.map .val → us = vals
  | .res R => ∃ H : Nat → Option Obj, R.holds (blk, m) H ∧ ∀ i o, H i = some o → Y i = some o
def LentC (S : Nat → Option (Option Box)) (Y : Nat → Option Obj) : CV → Value → Prop
  | .val v, u => u = v
  | .slc k off len sz, u => ∃ (b : Box) (blk cap m : Nat), S k = some (some b) ∧ u = .slice (some ⟨blk, off, none⟩) len cap ∧ len ≤ cap ∧ off + cap * sz ≤ m ∧ LentBox Y b blk m
  | _, _ => False
def LentCs (S : Nat → Option (Option Box)) (Y : Nat → Option Obj) : List CV → List Value → Prop
  | [], us => us = []
  | c :: l, us => ∃ u us', us = u :: us' ∧ LentC S Y c u ∧ LentCs S Y l us'
def LentL (S : Nat → Option (Option Box)) (Y : Nat → Option Obj) (lv : LV) (u : Value) : Prop :=
  match lv with
  | .sv (.one c) => LentC S Y c u
  | .sv (.agg cs) => ∃ us : List Value, u = .agg us.toArray ∧ LentCs S Y cs us
  | _ => False
def LentLs (S : Nat → Option (Option Box)) (Y : Nat → Option Obj) : List LV → List Value → Prop
  | [], us => us = []
  | lv :: l, us => ∃ u us', us = u :: us' ∧ LentL S Y lv u ∧ LentLs S Y l us'
def lendC (S : Nat → Option (Option Box)) (ks : List Nat) : CV → Bool
  | .val _ => true
  | .slc k _ _ _ => ks.contains k && (match S k with | some (some _) => true | _ => false)
  | _ => false
def lendL (S : Nat → Option (Option Box)) (ks : List Nat) : LV → Bool
  | .sv (.one c) => lendC S ks c
  | .sv (.agg cs) => cs.all (lendC S ks)
  | _ => false
section
variable {P : Program} {n : Nat} {ops os : List Oper} {acc : List Eff} {K : List Eff → St → Prop} {s : List (Nat × LV)} {bx : List (Nat × Option Box)} {X : Nat → Option Obj} {σ : St}
theorem lentBox_of {C : Ctx} {ι : Nat → Nat × Nat} {a : Act} {w : World} {σ' : St} (hr : Rel n C ι σ' a w) {k : Nat} {b : Box} (hst : σ'.stat k = some (some b)) : LentBox (fun i => w.heap[i]?) b (ι k).1 (ι k).2 := by
  obtain ⟨e, cs, row⟩ := b
  cases row with
  | bool r =>
    obtain ⟨arr, fr, harr, _, hsz, hbr⟩ := hr.boxes k _ hst rfl
    unfold Box.rel at hbr
    cases r with
    | false => exact ⟨arr, fr, arr.toList, [], harr, hsz, by simp, fun vals e => by simp only at e hbr; rw [e] at hbr; exact rel_vals hbr⟩
    | true =>
      obtain ⟨us, sp, e, hl⟩ := hbr
      exact ⟨arr, fr, us, sp, harr, hsz, e, fun vals e => by simp only at e hl; rw [e] at hl; exact rel_vals hl⟩
  | res R =>
    obtain ⟨F, hF⟩ := hr.res
    exact ⟨F k, (hF.holds k _ _ _ hst).1, fun i o h => (hF.mem k i o h).2.1⟩
theorem lentC_of {C : Ctx} {ι : Nat → Nat × Nat} {a : Act} {w : World} {σ' : St} (hr : Rel n C ι σ' a w) (ks : List Nat) (S : Nat → Option (Option Box)) (hS : ∀ k, k ∈ ks → σ'.stat k = S k) {c : CV} {u : Value} (hl : lendC S ks c = true) (h : c.rel σ'.stat ι u) : LentC S (fun i => w.heap[i]?) c u := by
  cases c with
  | val v => exact h
  | slc k off len sz =>
    simp only [lendC, Bool.and_eq_true] at hl
    have hk : k ∈ ks := by simpa using hl.1
    cases hs : S k with
    | none => rw [hs] at hl; exact absurd hl.2 (by simp)
    | some x =>
      cases x with
      | none => rw [hs] at hl; exact absurd hl.2 (by simp)
      | some b =>
        have hst : σ'.stat k = some (some b) := by rw [hS k hk, hs]
        simp only [CV.rel, hst] at h
        obtain ⟨cap, rfl, h3, h4⟩ := h
        exact ⟨b, _, cap, _, hs, rfl, h3, h4, lentBox_of hr hst⟩
  | ptr _ _ => cases hl
  | mp _ => cases hl
  | fn _ _ _ => cases hl
  | hang _ _ _ => cases hl
  | junk => cases hl
theorem lentCs_of {C : Ctx} {ι : Nat → Nat × Nat} {a : Act} {w : World} {σ' : St} (hr : Rel n C ι σ' a w) (ks : List Nat) (S : Nat → Option (Option Box)) (hS : ∀ k, k ∈ ks → σ'.stat k = S k) : ∀ {cs : List CV} {us : List Value}, cs.all (lendC S ks) = true → CVs.rel σ'.stat ι cs us → LentCs S (fun i => w.heap[i]?) cs us
  | [], [], _, _ => rfl
  | [], _ :: _, _, h => h.elim
  | _ :: _, [], _, h => h.elim
  | c :: l, u :: us, hl, h => by
    simp only [List.all_cons, Bool.and_eq_true] at hl
    exact ⟨u, us, rfl, lentC_of hr ks S hS hl.1 h.1, lentCs_of hr ks S hS hl.2 h.2⟩
theorem lentLs_of {C : Ctx} {ι : Nat → Nat × Nat} {a : Act} {w : World} {σ' : St} (hr : Rel n C ι σ' a w) (ks : List Nat) (S : Nat → Option (Option Box)) (hS : ∀ k, k ∈ ks → σ'.stat k = S k) : ∀ {lvs : List LV} {us : List Value}, lvs.all (lendL S ks) = true → LVs.rel σ'.stat ι lvs us → LentLs S (fun i => w.heap[i]?) lvs us
  | [], [], _, _ => rfl
  | [], _ :: _, _, h => h.elim
  | _ :: _, [], _, h => h.elim
  | lv :: l, u :: us, hl, h => by
    simp only [List.all_cons, Bool.and_eq_true] at hl
    refine ⟨u, us, rfl, ?_, lentLs_of hr ks S hS hl.2 h.2⟩
    have h1 := h.1
    have h2 := hl.1
    match lv with
    | .sv (.one c) => exact lentC_of hr ks S hS h2 h1
    | .sv (.agg cs) =>
      obtain ⟨arr, rfl, hl'⟩ := h1
      exact ⟨arr.toList, by simp, lentCs_of hr ks S hS h2 hl'⟩
    | .tup _ => cases h2
theorem LOK.callL {d : Nat} {f : FuncId} {args : List Operand} {tys : Array TypeId} {ty : TypeId} {pos : String} {after_ : Array Edge} {g : Option (Nat × Bool)} {lvs : List LV} {r : LV} (ks : List Nat) (hargs : evs σ args = some lvs) (hl : lvs.all (lendL σ.stat ks) = true) (hent : Program.enters P f = true)
    (hs : ∀ (Y : Nat → Option Obj) (us : List Value), (∀ b o, σ.X b = some o → Y b = some o) → LentLs σ.stat Y lvs us → PSpec P Y f (us.map toLV) r) :
    LOK P n ops ⟨some d, .call ⟨.value (.func f), args.toArray, tys⟩, ty, pos, after_, g⟩ σ ⟨[(d, r)], ks, []⟩ := by
  refine ⟨fun σ' ha C ι a w hr hd next Q hn => ?_⟩
  have hargs' : evs σ' args = some lvs := by
    rw [evs_agree fun x hx => ha.ev (by simp [Op.operands, Call.operands, hx])]
    exact hargs
  have hrel := evs_rel hr hargs'
  have hlent := lentLs_of hr ks σ.stat (fun k hk => ha.stat k (.inl hk)) hl hrel
  have hc := (hs (fun b => w.heap[b]?) _ (fun b o hb => hr.ext b o (by rw [ha.X]; exact hb)) hlent).out w (args.toArray.map a.eval) (fun b o hb => hb) (by rw [Array.toList_map, List.toList_toArray]; exact args_rel _)
  unfold Oper.wp
  have hrun : (execOp a.eval ⟨some d, .call ⟨.value (.func f), args.toArray, tys⟩, ty, pos, after_, g⟩).run P w = .ok (.enter f (args.toArray.map a.eval)) w := by
    simp only [execOp, resolve, Act.eval, Deferred.ofValue, invoke, Sem.run_bind, Sem.run_pure, Result.andThen_ok]
    simp [run_enter hent]
  rw [hrun]
  refine hc.mono ?_
  rintro e w' ⟨v, rfl, hv, hb⟩
  exact hn ι _ w' ((hr.below hb).put (hd d rfl) (LV.rel_later (later_noS _ _ _) hv))
theorem K.callL {d : Nat} {f : FuncId} {args : List Operand} {tys : Array TypeId} {ty : TypeId} {pos : String} {after_ : Array Edge} {g : Option (Nat × Bool)} {lvs : List LV} {r : LV} (ks : List Nat) (hargs : evs ⟨s, bx, X⟩ args = some lvs) (hl : lvs.all (lendL (fun k => look k bx) ks) = true) (hent : Program.enters P f = true)
    (hs : ∀ (Y : Nat → Option Obj) (us : List Value), (∀ b o, X b = some o → Y b = some o) → LentLs (fun k => look k bx) Y lvs us → PSpec P Y f (us.map toLV) r) (hw : Want ops s g)
    (kont : RunK P n ops os ⟨(d, r) :: s, bx, X⟩ (⟨[(d, r)], ks, []⟩ :: acc) K) :
    RunK P n ops (⟨some d, .call ⟨.value (.func f), args.toArray, tys⟩, ty, pos, after_, g⟩ :: os) ⟨s, bx, X⟩ acc K := RunK.gen hw (LOK.callL ks hargs hl hent hs) kont
end
end Go.Lg
end
section
namespace Go.Lg
open Go Go.RowKit
def blkZ : Value → Option Nat
  | .slice (some a) (_ + 1) _ => some a.block
  | _ => none
theorem LeadsTo.blkZ {H : Nat → Option Obj} {b : Nat} {v : Value} {el : TypeId} {sz : Nat} {vals : List Value} (h : LeadsTo H b v el sz vals) (h0 : vals ≠ []) : Go.Lg.blkZ v = some b := by
  obtain ⟨len, cap, arr, fr, rfl, h2, _⟩ := h
  cases len with
  | zero => exact absurd (List.eq_nil_of_length_eq_zero (by omega)) h0
  | succ n => rfl
def SliceZ (H : Nat → Option Obj) (v : Value) (el : TypeId) (sz : Nat) (vals : List Value) : Prop := (vals = [] ∧ ∃ ad cap, v = .slice ad 0 cap) ∨ ∃ b, LeadsTo H b v el sz vals ∧ vals ≠ []
theorem SliceZ.mono {H H' : Nat → Option Obj} {v : Value} {el : TypeId} {sz : Nat} {vals : List Value} (h : SliceZ H v el sz vals) (he : ∀ b, blkZ v = some b → H' b = H b) : SliceZ H' v el sz vals := by
  rcases h with h | ⟨b, h, h0⟩
  · exact .inl h
  · exact .inr ⟨b, h.mono (he b (h.blkZ h0)), h0⟩
theorem SliceZ.some_of {H : Nat → Option Obj} {v : Value} {el : TypeId} {sz : Nat} {vals : List Value} (h : SliceZ H v el sz vals) {b : Nat} (hb : blkZ v = some b) : H b ≠ Option.none := by
  rcases h with ⟨_, ad, cap, rfl⟩ | ⟨b', h, h0⟩
  · simp [blkZ] at hb
  · have := h.blkZ h0
    rw [this] at hb
    simp only [Option.some.injEq] at hb
    subst hb
    obtain ⟨_, _, _, _, _, _, _, _, h5, _⟩ := h
    rw [h5]; simp
structure Twigs (H : Nat → Option Obj) (el : TypeId) (sz : Nat) (op : List Nat) (cells : List Value) (chs : List (List Value)) : Prop where
  len : cells.length = chs.length
  at_ : ∀ (i : Nat) (c : Value) (x : List Value), i ∉ op → cells[i]? = some c → chs[i]? = some x → SliceZ H c el sz x
  apart : ∀ (i j : Nat) (c c' : Value) (b : Nat), i ∉ op → j ∉ op → cells[i]? = some c → cells[j]? = some c' → blkZ c = some b → blkZ c' = some b → i = j
theorem Twigs.nil (H : Nat → Option Obj) (el : TypeId) (sz : Nat) (op : List Nat) : Twigs H el sz op [] [] := ⟨rfl, fun i c x _ h => (by simp at h), fun i j c c' b _ _ h => (by simp at h)⟩
section
variable {H : Nat → Option Obj} {el : TypeId} {sz : Nat} {op : List Nat} {cells : List Value} {chs : List (List Value)}
theorem Twigs.some_of (G : Twigs H el sz op cells chs) {i : Nat} {c : Value} {b : Nat} (hi : i ∉ op) (hc : cells[i]? = some c) (hb : blkZ c = some b) : H b ≠ none := by
  obtain ⟨x, hx⟩ : ∃ x, chs[i]? = some x := ⟨_, List.getElem?_eq_getElem (by have := (List.getElem?_eq_some_iff.1 hc).1; have := G.len; omega)⟩
  exact (G.at_ i c x hi hc hx).some_of hb
theorem Twigs.mono {H' : Nat → Option Obj} (G : Twigs H el sz op cells chs) (h : ∀ (i : Nat) (c : Value) (b : Nat), i ∉ op → cells[i]? = some c → blkZ c = some b → H' b = H b) : Twigs H' el sz op cells chs :=
  ⟨G.len, fun i c x hi hc hx => (G.at_ i c x hi hc hx).mono fun b hb => h i c b hi hc hb, G.apart⟩
theorem Twigs.more (G : Twigs H el sz op cells chs) {b : Nat} {o : Obj} (hb : H b = none) : Twigs (withBlock H b o) el sz op cells chs := G.mono fun i c b' hi hc hb' => by
  unfold withBlock
  rw [if_neg (fun e => G.some_of hi hc hb' (by rw [e, hb]))]
theorem Twigs.shutAt {p : Nat} (G : Twigs H el sz (p :: op) cells chs) (hp : p < cells.length) {b : Nat} {o : Obj} {v : Value} {x : List Value} (hb : H b = none) (hv : LeadsTo (withBlock H b o) b v el sz x) (hx0 : x ≠ []) : Twigs (withBlock H b o) el sz op (cells.set p v) (chs.set p x) := by
  have hno : ∀ (i : Nat), i ∉ op → i ≠ p → i ∉ p :: op := fun i hi hne h => by
    rcases List.mem_cons.1 h with h | h
    · exact hne h
    · exact hi h
  refine ⟨by rw [List.length_set, List.length_set]; exact G.len, fun i c x' hi hc hx => ?_, fun i j c c' β hi hj hc hc' hβ hβ' => ?_⟩
  · by_cases e : i = p
    · subst e
      rw [List.getElem?_set_self hp] at hc
      rw [List.getElem?_set_self (by have := G.len; omega)] at hx
      simp only [Option.some.injEq] at hc hx
      subst hc hx
      exact .inr ⟨b, hv, hx0⟩
    · rw [List.getElem?_set_ne (fun e' => e e'.symm)] at hc hx
      exact (G.more hb).at_ i c x' (hno i hi e) hc hx
  · by_cases e : i = p
    · by_cases e2 : j = p
      · omega
      · exfalso
        subst e
        rw [List.getElem?_set_self hp] at hc
        simp only [Option.some.injEq] at hc
        subst hc
        rw [List.getElem?_set_ne (fun e' => e2 e'.symm)] at hc'
        rw [hv.blkZ hx0] at hβ
        simp only [Option.some.injEq] at hβ
        exact G.some_of (hno j hj e2) hc' hβ' (by rw [← hβ, hb])
    · by_cases e2 : j = p
      · exfalso
        subst e2
        rw [List.getElem?_set_self hp] at hc'
        simp only [Option.some.injEq] at hc'
        subst hc'
        rw [List.getElem?_set_ne (fun e' => e e'.symm)] at hc
        rw [hv.blkZ hx0] at hβ'
        simp only [Option.some.injEq] at hβ'
        exact G.some_of (hno i hi e) hc hβ (by rw [← hβ', hb])
      · rw [List.getElem?_set_ne (fun e' => e e'.symm)] at hc
        rw [List.getElem?_set_ne (fun e' => e2 e'.symm)] at hc'
        exact G.apart i j c c' β (hno i hi e) (hno j hj e2) hc hc' hβ hβ'
theorem Twigs.snoc (G : Twigs H el sz op cells chs) (c : Value) (x : List Value) : Twigs H el sz (cells.length :: op) (cells ++ [c]) (chs ++ [x]) := by
  have hlt : ∀ (i : Nat) (ci : Value), i ∉ cells.length :: op → (cells ++ [c])[i]? = some ci → i ∉ op ∧ i < cells.length ∧ cells[i]? = some ci := fun i ci hi hci => by
    have h1 := (List.getElem?_eq_some_iff.1 hci).1
    rw [List.length_append] at h1
    have h2 : i ≠ cells.length := fun e => hi (by rw [e]; exact List.mem_cons_self ..)
    have h3 : i < cells.length := by simp at h1; omega
    rw [List.getElem?_append_left h3] at hci
    exact ⟨fun h => hi (List.mem_cons_of_mem _ h), h3, hci⟩
  refine ⟨by rw [List.length_append, List.length_append, G.len]; rfl, fun i ci xi hi hci hxi => ?_, fun i j ci cj β hi hj hci hcj hβ hβ' => ?_⟩
  · obtain ⟨h1, h2, h3⟩ := hlt i ci hi hci
    rw [List.getElem?_append_left (by have := G.len; omega)] at hxi
    exact G.at_ i ci xi h1 h3 hxi
  · obtain ⟨h1, _, h3⟩ := hlt i ci hi hci
    obtain ⟨g1, _, g3⟩ := hlt j cj hj hcj
    exact G.apart i j ci cj β h1 g1 h3 g3 hβ hβ'
theorem Twigs.take (G : Twigs H el sz op cells chs) (k : Nat) : Twigs H el sz op (cells.take k) (chs.take k) := by
  have hlt : ∀ (i : Nat) (ci : Value), (cells.take k)[i]? = some ci → cells[i]? = some ci := fun i ci h => by
    rw [List.getElem?_take] at h
    split at h
    · exact h
    · cases h
  refine ⟨by rw [List.length_take, List.length_take, G.len], fun i ci xi hi hci hxi => G.at_ i ci xi hi (hlt i ci hci) ?_, fun i j ci cj β hi hj hci hcj => G.apart i j ci cj β hi hj (hlt i ci hci) (hlt j cj hcj)⟩
  rw [List.getElem?_take] at hxi
  split at hxi
  · exact hxi
  · cases hxi
end
end Go.Lg
end
section
namespace Go.Lg
open Go Go.RowKit
section
variable {P : Program} {n : Nat} {ops os : List Oper} {acc : List Eff} {K : List Eff → St → Prop} {s : List (Nat × LV)} {bx : List (Nat × Option Box)} {X : Nat → Option Obj} {σ : St}
end
end Go.Lg
end
section
namespace Go.Lg
open Go Go.RowKit
section
variable {P : Program} {n : Nat} {C : Ctx} {c : Code} {Q : Exit → St → Prop} {X H : Nat → Option Obj} {s : List (Nat × LV)} {bx : List (Nat × Option Box)}
theorem Rel.rebox2 {ι : Nat → Nat × Nat} {a : Act} {w : World} {j : Nat} {e : TypeId} {cs cs' : List CV} {r r' : Bool}
    (himp : ∀ vs, (∃ (arr : Array Value) (fr : Nat × Nat), w.heap[(ι j).1]? = some (.cells arr e fr) ∧ arr.toList = vs) → Box.rel (⟨s, (j, some ⟨e, cs', r'⟩) :: bx, X⟩ : St).stat ι ⟨e, cs, r⟩ vs → Box.rel (⟨s, (j, some ⟨e, cs', r'⟩) :: bx, X⟩ : St).stat ι ⟨e, cs', r'⟩ vs)
    (hr : Rel n C ι ⟨s, (j, some ⟨e, cs, r⟩) :: bx, X⟩ a w) : Rel n C ι ⟨s, (j, some ⟨e, cs', r'⟩) :: bx, X⟩ a w := by
  have hlater := later_hd (s := s) (bx := bx) (k := j) ι ⟨e, cs, r⟩ ⟨e, cs', r'⟩ X X
  have live : ∀ i b, (⟨s, (j, some ⟨e, cs', r'⟩) :: bx, X⟩ : St).stat i = some (some b) → ∃ b0, (⟨s, (j, some ⟨e, cs, r⟩) :: bx, X⟩ : St).stat i = some (some b0) ∧ (i ≠ j → b = b0) := fun i b hi => by
    rw [stat_hd] at hi ⊢
    by_cases e : i = j
    · rw [if_pos e]; exact ⟨_, rfl, fun h => absurd e h⟩
    · rw [if_neg e] at hi ⊢; exact ⟨b, hi, fun _ => rfl⟩
  exact {
    defers := hr.defers, size := hr.size
    slots := fun d lv hd => by
      obtain ⟨v, hv, hvr⟩ := hr.slots d lv hd
      exact ⟨v, hv, LV.rel_later hlater hvr⟩
    boxes := fun i b hi hbk => by
      by_cases ei : i = j
      · subst ei
        rw [stat_hd, if_pos rfl] at hi
        simp only [Option.some.injEq] at hi
        subst hi
        obtain ⟨arr, fr, g1, g2, g3, g4⟩ := hr.boxes i ⟨e, cs, r⟩ (by rw [stat_hd, if_pos rfl]) rfl
        exact ⟨arr, fr, g1, g2, g3, himp _ ⟨arr, fr, g1, rfl⟩ (Box.rel_later hlater g4)⟩
      · obtain ⟨b0, h0, h1⟩ := live i b hi
        have := h1 ei
        subst this
        obtain ⟨arr, fr, g1, g2, g3, g4⟩ := hr.boxes i b h0 hbk
        exact ⟨arr, fr, g1, g2, g3, Box.rel_later hlater g4⟩
    own := fun i b hi => by obtain ⟨b0, h0, _⟩ := live i b hi; exact hr.own i b0 h0
    inj := fun i i' bi bj hi hj he => by
      obtain ⟨b1, h1, _⟩ := live i bi hi
      obtain ⟨b2, h2, _⟩ := live i' bj hj
      exact hr.inj i i' b1 b2 h1 h2 he
    keep := fun i b hi hge => by obtain ⟨b0, h0, _⟩ := live i b hi; exact hr.keep i b0 h0 hge
    ext := hr.ext
    res := by
      obtain ⟨F, hG⟩ := hr.res
      refine hG.keep (fun i e cs R hi => ?_) (fun _ _ _ _ _ hi => hi) (fun _ _ ho => ho) (fun b _ hx _ _ => hx) (fun i bi hi => ?_)
      · rw [stat_hd] at hi ⊢
        by_cases e : i = j
        · rw [if_pos e] at hi; cases hi
        · rw [if_neg e] at hi ⊢; exact ⟨hi, rfl⟩
      · obtain ⟨b0, h0, _⟩ := live i bi hi
        exact .inl ⟨b0, h0, rfl⟩
    frame := hr.frame, big := hr.big, os := hr.os, tape := hr.tape, output := hr.output }
theorem Rel.spare {ι : Nat → Nat × Nat} {a : Act} {w : World} {j : Nat} {e : TypeId} {vals : List Value} (hr : Rel n C ι ⟨s, (j, some ⟨e, vals.map .val, true⟩) :: bx, X⟩ a w) : ∃ sp : List Value, Rel n C ι ⟨s, (j, some ⟨e, (vals ++ sp).map .val, false⟩) :: bx, X⟩ a w := by
  obtain ⟨arr, fr, g1, _, _, g4⟩ := hr.boxes j ⟨e, vals.map .val, true⟩ (by rw [stat_hd, if_pos rfl]) rfl
  obtain ⟨us, sp, e1, hl⟩ := g4
  have hu := rel_vals hl
  subst hu
  refine ⟨sp, hr.rebox2 fun vs hv _ => ?_⟩
  obtain ⟨arr', fr', h1, h2⟩ := hv
  rw [g1] at h1
  simp only [Option.some.injEq, Obj.cells.injEq] at h1
  obtain ⟨rfl, _⟩ := h1
  rw [← h2, e1]
  exact CVs.rel_map_val (us ++ sp)
theorem LWP.spare {j : Nat} {e : TypeId} {vals : List Value} (h : ∀ sp : List Value, LWP P n C c Q ⟨s, (j, some ⟨e, (vals ++ sp).map .val, false⟩) :: bx, X⟩) : LWP P n C c Q ⟨s, (j, some ⟨e, vals.map .val, true⟩) :: bx, X⟩ := ⟨fun ι a w hr => by
  obtain ⟨sp, hr'⟩ := hr.spare
  exact (h sp).out ι a w hr'⟩
theorem Leads.spare {Mid : St → Prop} {j : Nat} {e : TypeId} {vals : List Value} (h : ∀ sp : List Value, Leads n C Mid ⟨s, (j, some ⟨e, (vals ++ sp).map .val, false⟩) :: bx, X⟩) : Leads n C Mid ⟨s, (j, some ⟨e, vals.map .val, true⟩) :: bx, X⟩ := ⟨fun ι a w hr => by
  obtain ⟨sp, hr'⟩ := hr.spare
  exact (h sp).out ι a w hr'⟩
end
section
variable {H : Nat → Option Obj} {el : TypeId} {sz : Nat} {cells : List Value} {chs : List (List Value)}
theorem Twigs.push (G : Twigs H el sz [] cells chs) {b : Nat} {o : Obj} {v : Value} {x : List Value} (hb : H b = none) (hv : LeadsTo (withBlock H b o) b v el sz x) (hx : x ≠ []) : Twigs (withBlock H b o) el sz [] (cells ++ [v]) (chs ++ [x]) := by
  have G3 := (G.snoc nilSlc []).shutAt (by rw [List.length_append]; simp) hb hv hx
  have e1 : (cells ++ [nilSlc]).set cells.length v = cells ++ [v] := by rw [List.set_append_right _ _ (Nat.le_refl _), Nat.sub_self]; rfl
  have e2 : (chs ++ [([] : List Value)]).set cells.length x = chs ++ [x] := by rw [G.len, List.set_append_right _ _ (Nat.le_refl _), Nat.sub_self]; rfl
  rw [e1, e2] at G3
  exact G3
end
end Go.Lg
end
section
namespace Go.Lg
open Go Go.RowKit
section
variable {n : Nat} {C : Ctx} {X Y : Nat → Option Obj} {s : List (Nat × LV)} {bx : List (Nat × Option Box)}
theorem Le.drop (hXY : ∀ b o, X b = some o → Y b = some o) : Le n C ⟨s, bx, Y⟩ ⟨s, bx, X⟩ := ⟨fun ι a w hr => ⟨ι, by
  have hn : ∀ b, Y b = none → X b = none := fun b hb => by
    cases hx : X b with
    | none => rfl
    | some o => rw [hXY b o hx] at hb; cases hb
  exact {
    defers := hr.defers, size := hr.size, slots := hr.slots, boxes := hr.boxes
    own := fun k b hk => ⟨(hr.own k b hk).1, hn _ (hr.own k b hk).2⟩
    inj := hr.inj, keep := hr.keep
    ext := fun b o hb => hr.ext b o (hXY b o hb)
    res := by
      obtain ⟨F, hF⟩ := hr.res
      exact ⟨F, hF.holds, fun k b o h => by
        obtain ⟨h1, h2, h3, h4, h5, h6⟩ := hF.mem k b o h
        exact ⟨h1, h2, h3, h4, hn _ h5, h6⟩, hF.apart⟩
    frame := hr.frame, big := hr.big, os := hr.os, tape := hr.tape, output := hr.output }⟩⟩
end
end Go.Lg
end
section
namespace Go.Lg
open Go Go.RowKit
section
variable {n : Nat} {C : Ctx} {σ : St} {ι : Nat → Nat × Nat} {a : Act} {w : World}
theorem Rel.resStep (hr : Rel n C ι σ a w) {k : Nat} {e : TypeId} {cs : List CV} {R : Rsc} (hk : σ.stat k = some (some ⟨e, cs, .res R⟩)) :
    ∃ H, R.holds (ι k) H ∧ (∀ b o, H b = some o → w.heap[b]? = some o) ∧ H (ι k).1 ≠ none ∧
      ∀ (w' : World) (H' : Nat → Option Obj) (R' : Rsc), (∀ b, H b = none → b < w.heap.size → w'.heap[b]? = w.heap[b]?) → (∀ b o, H' b = some o → w'.heap[b]? = some o ∧ Loose o) → (∀ b, H' b ≠ none → H b ≠ none) → H' (ι k).1 ≠ none → R'.holds (ι k) H' →
        w.heap.size ≤ w'.heap.size → w'.os = w.os → w'.tape = w.tape → w'.output = w.output → Rel n C ι ⟨σ.slots, (k, some ⟨0, [], .res R'⟩) :: σ.boxes, σ.X⟩ a w' := by
  obtain ⟨F, hF⟩ := hr.res
  refine ⟨F k, (hF.holds k _ _ _ hk).1, fun b o ho => (hF.mem k b o ho).2.1, (hF.holds k _ _ _ hk).2, fun w' H' R' hw hH' hsub hroot hR' hsz hos htp hou => ?_⟩
  have hst : ∀ j, (⟨σ.slots, (k, some ⟨0, [], .res R'⟩) :: σ.boxes, σ.X⟩ : St).stat j = if j = k then some (some ⟨0, [], .res R'⟩) else σ.stat j := fun j => stat_cons _ _ _ _ j _
  have live : ∀ j b, (⟨σ.slots, (k, some ⟨0, [], .res R'⟩) :: σ.boxes, σ.X⟩ : St).stat j = some (some b) → ∃ b0, σ.stat j = some (some b0) ∧ (j ≠ k → b = b0) := fun j b hj => by
    rw [hst] at hj
    by_cases e : j = k
    · exact ⟨_, by rw [e]; exact hk, fun h => absurd e h⟩
    · rw [if_neg e] at hj; exact ⟨b, hj, fun _ => rfl⟩
  have hlater : Later σ.stat (⟨σ.slots, (k, some ⟨0, [], .res R'⟩) :: σ.boxes, σ.X⟩ : St).stat ι ι := later_same ι fun j hj => by
    rw [hst]
    by_cases e : j = k
    · rw [if_pos e, e]; exact ⟨by simp, fun _ _ => ⟨_, hk⟩⟩
    · rw [if_neg e]; exact ⟨hj, fun b1 hb1 => ⟨b1, hb1⟩⟩
  have hout : ∀ b o, F k b = none → w.heap[b]? = some o → w'.heap[b]? = some o := fun b o h1 h2 => by rw [hw b h1 (Array.getElem?_eq_some_iff.1 h2).1]; exact h2
  have hnot : ∀ b, (∀ o, F k b = some o → False) → F k b = none := fun b h => by
    cases ho : F k b with
    | none => rfl
    | some o => exact (h o ho).elim
  exact {
    defers := hr.defers, size := hr.size
    slots := fun d lv hd => by
      obtain ⟨v, hv, hvr⟩ := hr.slots d lv hd
      exact ⟨v, hv, LV.rel_later hlater hvr⟩
    boxes := fun j b hj hbk => by
      by_cases ej : j = k
      · rw [hst, if_pos ej] at hj
        simp only [Option.some.injEq] at hj
        subst hj
        cases hbk
      · obtain ⟨b0, h0, h1⟩ := live j b hj
        have := h1 ej
        subst this
        obtain ⟨arr, fr, g1, g2, g3, g4⟩ := hr.boxes j b h0 hbk
        exact ⟨arr, fr, hout _ _ (hnot _ fun o ho => ej ((hF.mem k _ o ho).2.2.2.2.2 j b h0 rfl)) g1, g2, g3, Box.rel_later hlater g4⟩
    own := fun j b hj => by obtain ⟨b0, h0, _⟩ := live j b hj; exact hr.own j b0 h0
    inj := fun i j bi bj hi hj he => by
      obtain ⟨b1, h1, _⟩ := live i bi hi
      obtain ⟨b2, h2, _⟩ := live j bj hj
      exact hr.inj i j b1 b2 h1 h2 he
    keep := fun j b hj hge => by obtain ⟨b0, h0, _⟩ := live j b hj; exact hr.keep j b0 h0 hge
    ext := fun b o hb => hout b o (hnot _ fun o' ho => by
      have := (hF.mem k b o' ho).2.2.2.2.1
      have hb : σ.X b = some o := hb
      rw [hb] at this; cases this) (hr.ext b o hb)
    res := by
      refine ⟨fun j => open Classical in if j = k then H' else F j, fun j e' cs' R1 hj => ?_, fun j b o ho => ?_, fun i j b h1 h2 => ?_⟩
      · rw [hst] at hj
        by_cases ej : j = k
        · rw [if_pos ej] at hj
          cases hj
          rw [if_pos ej, ej]
          exact ⟨hR', hroot⟩
        · rw [if_neg ej] at hj
          rw [if_neg ej]
          exact hF.holds j e' cs' R1 hj
      · by_cases ej : j = k
        · rw [if_pos ej] at ho
          cases ho2 : F k b with
          | none => exact absurd ho2 (hsub b (by rw [ho]; simp))
          | some o2 =>
            obtain ⟨_, h2, _, h4, h5, h6⟩ := hF.mem k b o2 ho2
            refine ⟨⟨0, [], R', by rw [hst, if_pos ej]⟩, (hH' b o ho).1, (hH' b o ho).2, h4, h5, fun i bi hi ei => ?_⟩
            obtain ⟨b0, h0, _⟩ := live i bi hi
            rw [ej]; exact h6 i b0 h0 ei
        · rw [if_neg ej] at ho
          obtain ⟨⟨e1, cs1, R1, h1⟩, h2, h3, h4, h5, h6⟩ := hF.mem j b o ho
          refine ⟨⟨e1, cs1, R1, by rw [hst, if_neg ej]; exact h1⟩, hout b o (hnot _ fun o' ho' => ej (hF.apart j k b (by rw [ho]; simp) (by rw [ho']; simp))) h2, h3, h4, h5, fun i bi hi ei => ?_⟩
          obtain ⟨b0, h0, _⟩ := live i bi hi
          exact h6 i b0 h0 ei
      · by_cases ei : i = k
        · by_cases ej : j = k
          · rw [ei, ej]
          · rw [if_pos ei] at h1
            rw [if_neg ej] at h2
            rw [ei]; exact hF.apart k j b (hsub b h1) h2
        · by_cases ej : j = k
          · rw [if_neg ei] at h1
            rw [if_pos ej] at h2
            rw [ej]; exact hF.apart i k b h1 (hsub b h2)
          · rw [if_neg ei] at h1
            rw [if_neg ej] at h2
            exact hF.apart i j b h1 h2
    frame := fun b hb hn => by
      rw [← hr.frame b hb hn]
      refine hw b (hnot _ fun o ho => ?_) (Nat.lt_of_lt_of_le hb hr.big)
      rcases (hF.mem k b o ho).2.2.2.1 with h1 | h1
      · exact hn h1
      · omega
    big := Nat.le_trans hr.big hsz
    os := hos.trans hr.os, tape := htp.trans hr.tape, output := hou.trans hr.output }
theorem Rel.resNew (hr : Rel n C ι σ a w) {k m : Nat} {o : Obj} {R : Rsc} (hlt : k < 1000000) (hk : σ.stat k = none) (ho : Loose o) (hR : ∀ b, R.holds (b, m) (withBlock (fun _ => none) b o)) :
    Rel n C (put1 ι k (w.heap.size, m)) ⟨σ.slots, (k, some ⟨0, [], .res R⟩) :: σ.boxes, σ.X⟩ a (w.alloc o) := by
  obtain ⟨F, hF⟩ := hr.res
  have hst : ∀ j, (⟨σ.slots, (k, some ⟨0, [], .res R⟩) :: σ.boxes, σ.X⟩ : St).stat j = if j = k then some (some ⟨0, [], .res R⟩) else σ.stat j := fun j => stat_cons _ _ _ _ j _
  have hlater : Later σ.stat (⟨σ.slots, (k, some ⟨0, [], .res R⟩) :: σ.boxes, σ.X⟩ : St).stat ι (put1 ι k (w.heap.size, m)) := by
    intro j hj
    have hne : j ≠ k := by rintro rfl; exact hj hk
    rw [hst, if_neg hne]
    exact ⟨hj, fun b' hb' => ⟨by simp [put1, hne], b', hb'⟩⟩
  have hXlt : ∀ j o, σ.X j = some o → j < w.heap.size := fun j o hj => (Array.getElem?_eq_some_iff.1 (hr.ext j o hj)).1
  have hFlt : ∀ j b, F j b ≠ none → b < w.heap.size := fun j b hb => by
    cases h : F j b with
    | none => exact absurd h hb
    | some o => exact (Array.getElem?_eq_some_iff.1 (hF.mem j b o h).2.1).1
  have hnew : (w.alloc o).heap[w.heap.size]? = some o := heap_alloc_new w _
  exact {
    defers := hr.defers, size := hr.size
    slots := fun d lv hd => by
      obtain ⟨v, hv, hvr⟩ := hr.slots d lv hd
      exact ⟨v, hv, LV.rel_later hlater hvr⟩
    boxes := fun j b hj hbk => by
      rw [hst] at hj
      by_cases e : j = k
      · rw [if_pos e] at hj
        simp only [Option.some.injEq] at hj
        subst hj
        cases hbk
      · rw [if_neg e] at hj
        obtain ⟨arr, fr, g1, g2, g3, g4⟩ := hr.boxes j b hj hbk
        refine ⟨arr, fr, ?_, g2, by simp only [put1, e, if_false]; exact g3, Box.rel_later hlater g4⟩
        simp only [put1, e, if_false]
        rw [heap_alloc_lt (hr.blocklt hj)]
        exact g1
    own := fun j b hj => by
      rw [hst] at hj
      by_cases e : j = k
      · subst e
        simp only [put1, if_true]
        refine ⟨.inr hr.big, ?_⟩
        show σ.X w.heap.size = none
        cases hx : σ.X w.heap.size with
        | none => rfl
        | some o => exact absurd (hXlt _ o hx) (by omega)
      · rw [if_neg e] at hj
        simp only [put1, e, if_false]
        exact hr.own j b hj
    inj := fun i j bi bj hi hj heq => by
      rw [hst] at hi hj
      by_cases ei : i = k
      · by_cases ej : j = k
        · rw [ei, ej]
        · rw [if_neg ej] at hj
          have := hr.blocklt hj
          simp only [put1, ei, if_true, ej, if_false] at heq
          omega
      · rw [if_neg ei] at hi
        by_cases ej : j = k
        · have := hr.blocklt hi
          simp only [put1, ej, if_true, ei, if_false] at heq
          omega
        · rw [if_neg ej] at hj
          simp only [put1, ei, ej, if_false] at heq
          exact hr.inj i j bi bj hi hj heq
    keep := fun j b hj hge => by
      rw [hst] at hj
      have e : j ≠ k := by omega
      rw [if_neg e] at hj
      simp only [put1, e, if_false]
      exact hr.keep j b hj hge
    ext := fun j o hj => by rw [heap_alloc_lt (hXlt j o hj)]; exact hr.ext j o hj
    res := by
      refine ⟨fun j => open Classical in if j = k then withBlock (fun _ => none) w.heap.size o else F j, fun j e' cs' R1 hj => ?_, fun j b ob hob => ?_, fun i j b h1 h2 => ?_⟩
      · rw [hst] at hj
        by_cases ej : j = k
        · rw [if_pos ej] at hj
          cases hj
          rw [if_pos ej]
          simp only [put1, ej, if_true]
          exact ⟨hR _, by rw [withBlock_at]; simp⟩
        · rw [if_neg ej] at hj
          rw [if_neg ej]
          simp only [put1, ej, if_false]
          exact hF.holds j e' cs' R1 hj
      · by_cases ej : j = k
        · rw [if_pos ej] at hob
          unfold withBlock at hob
          split at hob
          · rename_i eb
            cases hob
            subst eb
            refine ⟨⟨0, [], R, by rw [hst, if_pos ej]⟩, hnew, ho, .inr hr.big, ?_, fun i bi hi ei => ?_⟩
            · cases hx : σ.X w.heap.size with
              | none => rfl
              | some o' => exact absurd (hXlt _ o' hx) (by omega)
            · rw [hst] at hi
              by_cases e : i = k
              · rw [e, ej]
              · rw [if_neg e] at hi
                simp only [put1, e, if_false] at ei
                have := hr.blocklt hi
                omega
          · cases hob
        · rw [if_neg ej] at hob
          obtain ⟨⟨e1, cs1, R1, h1⟩, h2, h3, h4, h5, h6⟩ := hF.mem j b ob hob
          have hlt := (Array.getElem?_eq_some_iff.1 h2).1
          refine ⟨⟨e1, cs1, R1, by rw [hst, if_neg ej]; exact h1⟩, by rw [heap_alloc_lt hlt]; exact h2, h3, h4, h5, fun i bi hi ei => ?_⟩
          rw [hst] at hi
          by_cases e : i = k
          · simp only [put1, e, if_true] at ei
            omega
          · rw [if_neg e] at hi
            simp only [put1, e, if_false] at ei
            exact h6 i bi hi ei
      · have hb : ∀ i, i ≠ k → F i b ≠ none → withBlock (fun _ => none) w.heap.size o b = none := fun i _ h => by
          have := hFlt i b h
          unfold withBlock
          rw [if_neg (by omega)]
        by_cases ei : i = k
        · by_cases ej : j = k
          · rw [ei, ej]
          · rw [if_pos ei] at h1
            rw [if_neg ej] at h2
            exact absurd (hb j ej h2) h1
        · by_cases ej : j = k
          · rw [if_neg ei] at h1
            rw [if_pos ej] at h2
            exact absurd (hb i ei h1) h2
          · rw [if_neg ei] at h1
            rw [if_neg ej] at h2
            exact hF.apart i j b h1 h2
    frame := fun j hj hn => by rw [heap_alloc_lt (Nat.lt_of_lt_of_le hj hr.big)]; exact hr.frame j hj hn
    big := by simp; exact Nat.le_succ_of_le hr.big
    os := hr.os, tape := hr.tape, output := hr.output }
end
structure KL (P : Program) (k : TypeId) : Prop where
  check : ∀ (w : World) (em : Bool) {v : Value} {l : Lit}, Go.keyOf P k v = some l → (Instr.checkKey em 10000 k v).run P w = .ok () w
  find : ∀ (w : World) {x : Value} {lx : Lit}, Go.keyOf P k x = some lx → ∀ es : List MapEntry, (∀ e ∈ es, ∃ l, Go.keyOf P k e.key = some l) →
    ((Instr.findKey k x es).run P w = .ok none w ∧ ∀ e ∈ es, e.key ≠ x) ∨ ∃ j e, (Instr.findKey k x es).run P w = .ok (some (j, e.val)) w ∧ es[j]? = some e ∧ e.key = x
  stays : ∀ (w : World) {v : Value} {l : Lit}, Go.keyOf P k v = some l → (Instr.keyThatStays v v).run P w = .ok v w
theorem KL.of {P : Program} {k : TypeId} (L : WideMaps.KeyLaw P k) : KL P k := ⟨L.check, L.find, L.stays⟩
theorem keyOf_int {P : Program} {k : TypeId} {q : IntKind} (hk : P.underlying k = some (.int q)) {v : Value} : Go.keyOf P k v = mapKey P k v := by unfold Go.keyOf; simp only [hk]
theorem int_of_keyOf {P : Program} {k : TypeId} {q : IntKind} (hk : P.underlying k = some (.int q)) {v : Value} {l : Lit} (h : Go.keyOf P k v = some l) : ∃ n, v = .int q n := by
  rw [keyOf_int hk] at h
  unfold mapKey at h
  cases v <;> simp [hk] at h
  rename_i q' n
  exact ⟨n, by rw [h.1.1]⟩
open Go.MapKept Go.WideShapes Go.WideMaps in
theorem KL.int {P : Program} {k : TypeId} {q : IntKind} (hk : P.underlying k = some (.int q)) : KL P k where
  check w em _ _ h := by
    obtain ⟨n, rfl⟩ := int_of_keyOf hk h
    exact run_checkKey hk (d := .int q) (k := .int q n) rfl em 9999
  find w _ _ hx es hes := by
    obtain ⟨n, rfl⟩ := int_of_keyOf hk hx
    have hks : ∀ x ∈ es, IsKey (.int q) x.key := fun x hxm => by
      obtain ⟨l, hl⟩ := hes x hxm
      obtain ⟨n', e⟩ := int_of_keyOf hk hl
      rw [e]
      exact rfl
    rcases findNow_spec (d := .int q) (k := .int q n) rfl es 0 hks with ⟨h1, h2⟩ | ⟨j, e0, h1, h2, h3⟩
    · exact Or.inl ⟨run_findKey hk h1, h2⟩
    · exact Or.inr ⟨j, e0, by simpa using run_findKey hk h1, h2, h3⟩
  stays w _ _ h := by
    obtain ⟨n, rfl⟩ := int_of_keyOf hk h
    exact run_keyThatStays (d := .int q) (k := .int q n) rfl
def mapR (P : Program) (kt : TypeId) (m : List (Value × Value)) : Rsc := ⟨fun ρ H => ∃ es clock, H = withBlock (fun _ => none) ρ.1 (.map es clock) ∧ es.toList.map (fun x : MapEntry => (x.key, x.val)) = m ∧ (m.map (·.1)).Nodup ∧ ∀ p ∈ m, ∃ l, Go.keyOf P kt p.1 = some l⟩
def At (m : List (Value × Value)) (key v z : Value) : Prop := (key, v) ∈ m ∨ ((∀ p ∈ m, p.1 ≠ key) ∧ v = z)
def Put (m : List (Value × Value)) (key v : Value) (m' : List (Value × Value)) : Prop := (∃ i old, m[i]? = some (key, old) ∧ m' = m.set i (key, v)) ∨ ((∀ p ∈ m, p.1 ≠ key) ∧ m' = m ++ [(key, v)])
theorem same_ix {m : List (Value × Value)} (hnd : (m.map (·.1)).Nodup) {i j : Nat} {key v u : Value} (hi : m[i]? = some (key, v)) (hj : m[j]? = some (key, u)) : i = j := by
  have hpi : (m.map (·.1))[i]? = some key := by rw [List.getElem?_map, hi]; rfl
  have hpj : (m.map (·.1))[j]? = some key := by rw [List.getElem?_map, hj]; rfl
  obtain ⟨hi, hie⟩ := List.getElem?_eq_some_iff.1 hpi
  obtain ⟨hjj, hje⟩ := List.getElem?_eq_some_iff.1 hpj
  have hp := List.pairwise_iff_getElem.1 hnd
  rcases Nat.lt_trichotomy i j with h | h | h
  · exact absurd (hie.trans hje.symm) (hp i j hi hjj h)
  · exact h
  · exact absurd (hje.trans hie.symm) (hp j i hjj hi h)
theorem same_at {m : List (Value × Value)} (hnd : (m.map (·.1)).Nodup) {i j : Nat} {key v u : Value} (hi : m[i]? = some (key, v)) (hj : m[j]? = some (key, u)) : v = u := by
  have e := same_ix hnd hi hj
  subst e
  rw [hi] at hj
  simp only [Option.some.injEq, Prod.mk.injEq] at hj
  exact hj.2
def mapOf (P : Program) (t : TypeId) : Option (TypeId × TypeId) := match P.underlying t with | some (.map k e) => some (k, e) | _ => none
theorem mapOf_spec {P : Program} {t k e : TypeId} (h : mapOf P t = some (k, e)) : P.underlying t = some (.map k e) := by
  unfold mapOf at h
  split at h
  · rename_i h1; cases h; exact h1
  · cases h
section
variable {P : Program} {n : Nat} {ops os : List Oper} {acc : List Eff} {K : List Eff → St → Prop} {s : List (Nat × LV)} {bx : List (Nat × Option Box)} {X : Nat → Option Obj} {σ : St}
theorem LOK.makeMap {d k : Nat} {t kt : TypeId} {ty : TypeId} {pos : String} {after_ : Array Edge} {g : Option (Nat × Bool)} (hk : σ.fresh k = true) :
    LOK P n ops ⟨some d, .makeMap t none, ty, pos, after_, g⟩ σ ⟨[(d, .sv (.one (.mp k)))], [], [(k, some ⟨0, [], .res (mapR P kt [])⟩)]⟩ :=
  LOK.make fun σ' ha C ι a w hr => by
    have hk' : σ'.stat k = none := (ha.stat k (.inr (by simp))).trans (St.fresh_none hk)
    have hlt := St.fresh_lt hk
    have hrun := run_makeMap_plain (P := P) (w := w) t
    refine ⟨.map (some w.heap.size), w.alloc (.map #[] 0), put1 ι k (w.heap.size, 0), ?_, ?_, ?_⟩
    · simp only [execOp, Option.map_none, Sem.run_bind, hrun, Result.andThen_ok, Sem.run_pure]
    · exact hr.resNew hlt hk' trivial fun b => ⟨#[], 0, rfl, rfl, List.nodup_nil, fun _ h => by cases h⟩
    · simp [LV.rel, SV.rel, CV.rel, stat_cons, put1]
theorem K.makeMap {d : Nat} {t : TypeId} (kt : TypeId) {ty : TypeId} {pos : String} {after_ : Array Edge} {g : Option (Nat × Bool)} (hk : (⟨s, bx, X⟩ : St).fresh d = true) (hw : Want ops s g)
    (kont : RunK P n ops os ⟨(d, .sv (.one (.mp d))) :: s, (d, some ⟨0, [], .res (mapR P kt [])⟩) :: bx, X⟩ (⟨[(d, .sv (.one (.mp d)))], [], [(d, some ⟨0, [], .res (mapR P kt [])⟩)]⟩ :: acc) K) :
    RunK P n ops (⟨some d, .makeMap t none, ty, pos, after_, g⟩ :: os) ⟨s, bx, X⟩ acc K := RunK.g2 (LOK.makeMap hk) hw kont
theorem LOK.lookup {d k : Nat} {t kt et : TypeId} {x y : Operand} {ty : TypeId} {pos : String} {after_ : Array Edge} {g : Option (Nat × Bool)} {m : List (Value × Value)} {e : TypeId} {cs : List CV} {key v z : Value} {l : Lit}
    (hx : σ.ev x = some (.sv (.one (.mp k)))) (hy : σ.ev y = some (.sv (.one (.val key)))) (hk : σ.stat k = some (some ⟨e, cs, .res (mapR P kt m)⟩)) (hm : mapOf P t = some (kt, et)) (L : KL P kt) (hkey : Go.keyOf P kt key = some l) (hz : (P.info? et).bind (·.zero) = some z) (hat : At m key v z) :
    LOK P n ops ⟨some d, .lookup t x y false, ty, pos, after_, g⟩ σ ⟨[(d, .sv (.one (.val v)))], [k], []⟩ :=
  LOK.value fun σ' ha C ι a w hr => by
    have hk' := (ha.stat k (.inl (by simp))).trans hk
    have hv := hr.ev ((ha.ev (x := x) (by simp [Op.operands])).trans hx)
    have hkv : a.eval y = key := hr.ev ((ha.ev (x := y) (by simp [Op.operands])).trans hy)
    simp only [LV.rel, SV.rel, CV.rel, hk'] at hv
    obtain ⟨H, ⟨es, clock, rfl, he, hnd, hkeys⟩, hH, _⟩ := hr.resStep hk'
    have hb := hH (ι k).1 _ (withBlock_at _ _ _)
    have ht := mapOf_spec hm
    have hzr : (zeroValue et).run P w = .ok z w := by
      cases hi : P.info? et with
      | none => rw [hi] at hz; cases hz
      | some i => rw [hi] at hz; have hz : i.zero = some z := hz; simp [zeroValue, typeInfo, hi, hz]
    have hall : ∀ x ∈ es.toList, ∃ l, Go.keyOf P kt x.key = some l := fun x hx => by
      refine hkeys (x.key, x.val) ?_
      rw [← he]
      exact List.mem_map.2 ⟨x, hx, rfl⟩
    have hrun : (Instr.lookup t (.map (some (ι k).1)) key false).run P w = .ok v w := by
      rcases L.find w hkey es.toList hall with ⟨h1, h2⟩ | ⟨j, e0, h1, h2, h3⟩
      · have hvz : v = z := by
          rcases hat with h4 | ⟨_, h4⟩
          · rw [← he] at h4
            obtain ⟨x, hx, hxe⟩ := List.mem_map.1 h4
            cases hxe
            exact absurd rfl (h2 x hx)
          · exact h4
        simp [Instr.lookup, run_underlying ht, MapKept.run_getObj_map hb, L.check w _ hkey, h1, hzr, Result.andThen, hvz]
      · have hmem : e0 ∈ es.toList := List.mem_of_getElem? h2
        have hv0 : e0.val = v := by
          rcases hat with h4 | ⟨h4, _⟩
          · obtain ⟨i, hi⟩ := List.getElem?_of_mem h4
            have hmj : m[j]? = some (key, e0.val) := by rw [← he, List.getElem?_map, h2, ← h3]; rfl
            exact (same_at hnd hmj hi)
          · refine absurd h3 (h4 (e0.key, e0.val) ?_)
            rw [← he]
            exact List.mem_map.2 ⟨e0, hmem, rfl⟩
        simp [Instr.lookup, run_underlying ht, MapKept.run_getObj_map hb, L.check w _ hkey, h1, Result.andThen, hv0]
    exact ⟨v, by simp only [execOp, hv, hkv, Sem.run_bind, hrun, Result.andThen_ok, Sem.run_pure], rfl⟩
theorem K.lookup {d k : Nat} {t kt et : TypeId} {x y : Operand} {ty : TypeId} {pos : String} {after_ : Array Edge} {g : Option (Nat × Bool)} {m : List (Value × Value)} {e : TypeId} {cs : List CV} {key v z : Value} {l : Lit}
    (hx : (⟨s, bx, X⟩ : St).ev x = some (.sv (.one (.mp k)))) (hy : (⟨s, bx, X⟩ : St).ev y = some (.sv (.one (.val key)))) (hk : (⟨s, bx, X⟩ : St).stat k = some (some ⟨e, cs, .res (mapR P kt m)⟩)) (hm : mapOf P t = some (kt, et)) (L : KL P kt) (hkey : Go.keyOf P kt key = some l) (hz : (P.info? et).bind (·.zero) = some z) (hat : At m key v z) (hw : Want ops s g)
    (kont : RunK P n ops os ⟨(d, .sv (.one (.val v))) :: s, bx, X⟩ (⟨[(d, .sv (.one (.val v)))], [k], []⟩ :: acc) K) :
    RunK P n ops (⟨some d, .lookup t x y false, ty, pos, after_, g⟩ :: os) ⟨s, bx, X⟩ acc K := RunK.g1 (LOK.lookup hx hy hk hm L hkey hz hat) hw kont
theorem LOK.mapUpdate {k : Nat} {t kt et : TypeId} {x y u : Operand} {ty : TypeId} {pos : String} {after_ : Array Edge} {g : Option (Nat × Bool)} {m m' : List (Value × Value)} {e : TypeId} {cs : List CV} {key v : Value} {l : Lit} {lv : LV}
    (hx : σ.ev x = some (.sv (.one (.mp k)))) (hy : σ.ev y = some (.sv (.one (.val key)))) (hu : σ.ev u = some lv) (hlv : ∀ (S : Nat → Option (Option Box)) (ι : Nat → Nat × Nat) (w : Value), lv.rel S ι w → w = v) (hk : σ.stat k = some (some ⟨e, cs, .res (mapR P kt m)⟩)) (hm : mapOf P t = some (kt, et)) (L : KL P kt) (hkey : Go.keyOf P kt key = some l) (hput : Put m key v m') :
    LOK P n ops ⟨none, .mapUpdate t x y u, ty, pos, after_, g⟩ σ ⟨[], [], [(k, some ⟨0, [], .res (mapR P kt m')⟩)]⟩ :=
  LOK.act fun σ' ha C ι a w hr => by
    have hk' := (ha.stat k (.inr (by simp))).trans hk
    have hv := hr.ev ((ha.ev (x := x) (by simp [Op.operands])).trans hx)
    have hkv : a.eval y = key := hr.ev ((ha.ev (x := y) (by simp [Op.operands])).trans hy)
    have huv : a.eval u = v := hlv _ _ _ (hr.ev ((ha.ev (x := u) (by simp [Op.operands])).trans hu))
    simp only [LV.rel, SV.rel, CV.rel, hk'] at hv
    obtain ⟨H, ⟨es, clock, hHe, he, hnd, hkeys⟩, hH, _, hstep⟩ := hr.resStep hk'
    have hb := hH (ι k).1 (.map es clock) (by rw [hHe]; exact withBlock_at _ _ _)
    have ht := mapOf_spec hm
    have hall : ∀ x ∈ es.toList, ∃ l, Go.keyOf P kt x.key = some l := fun x hx => by
      refine hkeys (x.key, x.val) ?_
      rw [← he]
      exact List.mem_map.2 ⟨x, hx, rfl⟩
    have hset := fun (o' : Obj) => MapKept.heap_set (o' := o') hb
    have hmain : ∃ es' clock', (Instr.mapUpdate t (.map (some (ι k).1)) key v).run P w = .ok () { w with heap := w.heap.setIfInBounds (ι k).1 (.map es' clock') } ∧ es'.toList.map (fun x : MapEntry => (x.key, x.val)) = m' ∧ (m'.map (·.1)).Nodup ∧ ∀ p ∈ m', ∃ l, Go.keyOf P kt p.1 = some l := by
      rcases L.find w hkey es.toList hall with ⟨h1, h2⟩ | ⟨j, e0, h1, h2, h3⟩
      · have hno : ∀ p ∈ m, p.1 ≠ key := fun p hp => by
          rw [← he] at hp
          obtain ⟨x, hx, rfl⟩ := List.mem_map.1 hp
          exact h2 x hx
        have hm' : m' = m ++ [(key, v)] := by
          rcases hput with ⟨i, old, h4, _⟩ | ⟨_, h4⟩
          · exact absurd rfl (hno _ (List.mem_of_getElem? h4))
          · exact h4
        refine ⟨es.push { key := key, val := v, born := clock }, clock + 1, ?_, by rw [hm', Array.toList_push, List.map_append, he]; rfl, ?_, ?_⟩
        · simp [Instr.mapUpdate, run_underlying ht, MapKept.run_getObj_map hb, L.check w _ hkey, h1, MapKept.run_setObj_map _ hb, Result.andThen]
        · rw [hm', List.map_append]
          refine List.nodup_append.2 ⟨hnd, by simp, fun x hx y hy e => ?_⟩
          obtain ⟨p, hp, rfl⟩ := List.mem_map.1 hx
          simp at hy
          rw [hy] at e
          exact hno p hp e
        · intro p hp
          rw [hm'] at hp
          rcases List.mem_append.1 hp with hp | hp
          · exact hkeys p hp
          · simp at hp; subst hp; exact ⟨l, hkey⟩
      · have hj : es[j]? = some e0 := by simpa using h2
        have hmj : m[j]? = some (key, e0.val) := by rw [← he, List.getElem?_map, h2, ← h3]; rfl
        have hm' : m' = m.set j (key, v) := by
          rcases hput with ⟨i, old, h4, h5⟩ | ⟨h4, _⟩
          · have hij : i = j := same_ix hnd h4 hmj
            rw [h5, hij]
          · exact absurd rfl (h4 _ (List.mem_of_getElem? hmj))
        refine ⟨es.modify j fun x => { x with key := key, val := v }, clock, ?_, ?_, ?_, ?_⟩
        · have hst := L.stays w hkey
          have hks : ((es[j]?).map (·.key)).getD key = key := by rw [hj]; exact h3
          simp [Instr.mapUpdate, run_underlying ht, MapKept.run_getObj_map hb, L.check w _ hkey, h1, hj, h3, hst, MapKept.run_setObj_map _ hb, Result.andThen]
        · rw [hm', ← he]
          apply List.ext_getElem?
          intro i
          rw [List.getElem?_map, Array.getElem?_toList, Array.getElem?_modify, List.getElem?_set, List.getElem?_map, Array.getElem?_toList]
          by_cases hij : j = i
          · subst hij
            simp [hj]
            have := (Array.getElem?_eq_some_iff.1 hj).1
            omega
          · simp [hij]
        · rw [hm', List.map_set]
          have : (m.map (·.1)).set j key = m.map (·.1) := by
            apply List.ext_getElem?
            intro i
            rw [List.getElem?_set]
            by_cases hij : j = i
            · subst hij
              rw [if_pos rfl, List.getElem?_map, hmj]
              have := (List.getElem?_eq_some_iff.1 hmj).1
              simp [this]
            · rw [if_neg hij]
          rw [this]; exact hnd
        · intro p hp
          rw [hm'] at hp
          rcases List.mem_or_eq_of_mem_set hp with hp | rfl
          · exact hkeys p hp
          · exact ⟨l, hkey⟩
    obtain ⟨es', clock', hrun, he', hnd', hkeys'⟩ := hmain
    refine ⟨{ w with heap := w.heap.setIfInBounds (ι k).1 (.map es' clock') }, ι, by simp only [execOp, hv, hkv, huv, Sem.run_bind, hrun, Result.andThen_ok, Sem.run_pure], ?_⟩
    refine hstep _ (withBlock (fun _ => none) (ι k).1 (.map es' clock')) _ (fun b hb2 _ => ?_) (fun b o ho => ?_) (fun b h => ?_) (by rw [withBlock_at]; simp) ⟨es', clock', rfl, he', hnd', hkeys'⟩ (by simp) rfl rfl rfl
    · refine (hset _).2 b fun e => ?_
      rw [hHe, e, withBlock_at] at hb2
      cases hb2
    · unfold withBlock at ho
      split at ho
      · rename_i e; cases ho; subst e
        exact ⟨(hset _).1, trivial⟩
      · cases ho
    · rw [hHe]
      unfold withBlock at h ⊢
      split
      · simp
      · rename_i hne; rw [if_neg hne] at h; exact h
theorem K.mapUpdate {k : Nat} {t kt et : TypeId} {x y u : Operand} {ty : TypeId} {pos : String} {after_ : Array Edge} {g : Option (Nat × Bool)} {m : List (Value × Value)} (m' : List (Value × Value)) {e : TypeId} {cs : List CV} {key v : Value} {l : Lit}
    (hx : (⟨s, bx, X⟩ : St).ev x = some (.sv (.one (.mp k)))) (hy : (⟨s, bx, X⟩ : St).ev y = some (.sv (.one (.val key)))) (hu : (⟨s, bx, X⟩ : St).ev u = some (.sv (.one (.val v)))) (hk : (⟨s, bx, X⟩ : St).stat k = some (some ⟨e, cs, .res (mapR P kt m)⟩)) (hm : mapOf P t = some (kt, et)) (L : KL P kt) (hkey : Go.keyOf P kt key = some l) (hput : Put m key v m') (hw : Want ops s g)
    (kont : RunK P n ops os ⟨s, (k, some ⟨0, [], .res (mapR P kt m')⟩) :: bx, X⟩ (⟨[], [], [(k, some ⟨0, [], .res (mapR P kt m')⟩)]⟩ :: acc) K) :
    RunK P n ops (⟨none, .mapUpdate t x y u, ty, pos, after_, g⟩ :: os) ⟨s, bx, X⟩ acc K := RunK.g3 (LOK.mapUpdate hx hy hu (fun _ _ _ h => h) hk hm L hkey hput) hw kont
end
end Go.Lg
end
section
namespace Go.Lg
open Go Go.RowKit
section
variable {P : Program} {n : Nat} {C : Ctx} {c : Code} {Q : Exit → St → Prop} {X : Nat → Option Obj}
end
section
variable {P : Program} {n : Nat} {ops os : List Oper} {acc : List Eff} {K : List Eff → St → Prop} {s : List (Nat × LV)} {bx : List (Nat × Option Box)} {X : Nat → Option Obj} {σ : St}
end
theorem Le.trans {n : Nat} {C : Ctx} {σ1 σ2 σ3 : St} (h : Le n C σ1 σ2) (h' : Le n C σ2 σ3) : Le n C σ1 σ3 := ⟨fun ι a w hr => by
  obtain ⟨ι1, h1⟩ := h.out ι a w hr
  exact h'.out ι1 a w h1⟩
end Go.Lg
end
section
namespace Go.Lg
open Go Go.RowKit
section
variable {P : Program} {n : Nat} {ops os : List Oper} {acc : List Eff} {K : List Eff → St → Prop} {s : List (Nat × LV)} {bx : List (Nat × Option Box)} {X : Nat → Option Obj} {σ : St}
end
section
variable {P : Program} {n : Nat} {C : Ctx} {c : Code} {Q : Exit → St → Prop} {X : Nat → Option Obj}
end
end Go.Lg
end
section
namespace Go.Lg
open Go Go.RowKit
section
variable {P : Program} {n : Nat} {ops os : List Oper} {acc : List Eff} {K : List Eff → St → Prop} {s : List (Nat × LV)} {bx : List (Nat × Option Box)} {X : Nat → Option Obj} {σ : St}
end
theorem LWP.meetB {P : Program} {n : Nat} {C : Ctx} {c y : Code} {id : Nat} {Q Q2 : Exit → St → Prop} {σ : St} (Mid : St → Prop)
    (h : LWP P n C c (blockQ id (thenQ (Leads n C Mid) (fun _ _ => False))) σ) (hm : ∀ σ, Mid σ → LWP P n C y Q σ) : LWP P n C c (blockQ id (thenQ (LWP P n C y Q) Q2)) σ := by
  refine h.mono ?_
  intro e σ' hq
  cases e with
  | exit id' =>
    simp only [blockQ] at hq ⊢
    cases hb : Nat.beq id' id with
    | true =>
      rw [hb] at hq
      exact LWP.ofLeads hq hm
    | false => rw [hb] at hq; exact hq.elim
  | normal => exact LWP.ofLeads hq hm
  | goto l => exact hq.elim
  | ret => exact hq.elim
  | panic c => exact hq.elim
  | outgrown => exact hq.elim
end Go.Lg
end
section
namespace Go.Lg
open Go Go.RowKit
section
variable {S T : Nat → Option (Option Box)} {ι : Nat → Nat × Nat} {B : List (Nat × Option Box)} {k : Nat}
end
section
variable {P : Program} {n : Nat} {C : Ctx} {c : Code} {Q : Exit → St → Prop} {X : Nat → Option Obj}
end
section
variable {P : Program} {n : Nat} {ops os : List Oper} {acc : List Eff} {K : List Eff → St → Prop} {s : List (Nat × LV)} {bx : List (Nat × Option Box)} {X : Nat → Option Obj} {σ : St}
end
section
variable {P : Program} {n : Nat} {ops os : List Oper} {acc : List Eff} {K : List Eff → St → Prop} {s : List (Nat × LV)} {bx : List (Nat × Option Box)} {X : Nat → Option Obj} {σ : St}
end
end Go.Lg
end
section
namespace Go.Lg
open Go Go.RowKit
section
variable {P : Program} {n : Nat} {ops os : List Oper} {acc : List Eff} {K : List Eff → St → Prop} {s : List (Nat × LV)} {bx : List (Nat × Option Box)} {X : Nat → Option Obj} {σ : St}
end
end Go.Lg
end
section
namespace Go.Lg
open Go Go.RowKit
section
variable {P : Program} {n : Nat} {C : Ctx} {c : Code} {Q : Exit → St → Prop} {X : Nat → Option Obj}
end
end Go.Lg
end
section
namespace Go.Lg
open Go Go.RowKit
section
variable {P : Program} {X : Nat → Option Obj} {pre : List (Nat × Option Box)} {ι : Nat → Nat × Nat} {H : Nat → Nat → Option Obj} {w : World}
theorem Box.rel_means {bx : List (Nat × Option Box)} {S : Nat → Option (Option Box)} {κ : Nat → Nat × Nat} (h : ∀ k, (look k bx).isSome = true → κ k = ι k) {b : Box} (hu : b.cells.all (CV.inUse bx) = true) {vs : List Value} (hr : b.rel S ι vs) : b.rel S κ vs := by
  unfold Box.rel at hr ⊢
  cases hb : b.row with
  | res R => rw [hb] at hr; exact hr.elim
  | bool r =>
    cases r with
    | false => rw [hb] at hr; exact CVs.rel_means h hu hr
    | true =>
      rw [hb] at hr
      obtain ⟨us, sp, e, hl⟩ := hr
      exact ⟨us, sp, e, CVs.rel_means h hu hl⟩
end
end Go.Lg
end
section
namespace Go.Lg
open Go
section
variable {P : Program} {n : Nat} {C : Ctx} {c y : Code} {Q : Exit → St → Prop} {Q2 : Exit → St → Prop} {σ : St}
end
end Go.Lg
end
section
namespace Go.Lg
open Go Go.RowKit
section
variable {P : Program} {n : Nat} {ops os : List Oper} {acc : List Eff} {K : List Eff → St → Prop} {s : List (Nat × LV)} {bx : List (Nat × Option Box)} {X : Nat → Option Obj} {σ : St}
structure MadeOf (P : Program) (t : TypeId) (e : TypeId) (sz bytes : Nat) (z : List Value) : Prop where
  under : P.underlying t = some (.slice e)
  info : (P.info? e).map (fun i => (i.size, i.zero.map (fun z => z.cells), i.bytes)) = some (sz, some z.toArray, bytes)
  len : z.length = sz
end
end Go.Lg
end
section
namespace Go.Lg
open Go Go.RowKit
abbrev ifcP (t : TypeId) (k off : Nat) : CV := .hang (fun b => .iface t (.pointer (some ⟨b, off, none⟩))) (fun _ => rfl) k
section
variable {P : Program} {n : Nat} {ops os : List Oper} {acc : List Eff} {K : List Eff → St → Prop} {s : List (Nat × LV)} {bx : List (Nat × Option Box)} {X : Nat → Option Obj} {σ : St}
def methOf (P : Program) (t : TypeId) (name : String) : Option (Nat × Option (FuncId × Bool)) := ((P.info? t).bind fun i => i.methods.find? (·.name == name)).map fun m => (m.path.size, m.func)
theorem run_methV {P : Program} {t e : TypeId} {name : String} {f : FuncId} (hm : methOf P t name = some (0, some (f, false))) (hu : P.underlying t = some (.pointer e)) (a : Addr) (w : World) (v : Value) (h : (loadVar e a).run P w = .ok v w) :
    (method (P.types.size + Made.depth) t (.pointer (some a)) name).run P w = .ok (f, v) w := by
  unfold methOf at hm
  cases hi : P.info? t with
  | none => rw [hi] at hm; cases hm
  | some i =>
    rw [hi] at hm
    cases hf : i.methods.find? (·.name == name) with
    | none => simp [hf] at hm
    | some m =>
      simp only [Option.bind_some, hf, Option.map_some, Option.some.injEq, Prod.mk.injEq] at hm
      obtain ⟨h1, h2⟩ := hm
      have hp : m.path = #[] := Array.eq_empty_of_size_eq_zero h1
      have hti : (typeInfo t).run P w = .ok i w := by simp [typeInfo, Sem.run_bind, run_program, hi]
      show (method (P.types.size + 99 + 1) t (.pointer (some a)) name).run P w = _
      unfold method
      simp only [Sem.run_bind, hti, Result.andThen_ok, hf, hp, follow, Sem.run_pure, h2, receiverAt, run_underlying hu, Place.get]
      have hck : ∀ nm : String, Builtin.ssaWrapNilChk_ #[t] t #[.pointer (some a), strVal "", strVal nm] = pure (.pointer (some a)) := fun _ => rfl
      simp [hck, asAddr, Sem.run_bind, h]
theorem run_methP {P : Program} {t e : TypeId} {name : String} {f : FuncId} (hm : methOf P t name = some (0, some (f, true))) (hu : P.underlying t = some (.pointer e)) (a : Addr) (w : World) :
    (method (P.types.size + Made.depth) t (.pointer (some a)) name).run P w = .ok (f, .pointer (some a)) w := by
  unfold methOf at hm
  cases hi : P.info? t with
  | none => rw [hi] at hm; cases hm
  | some i =>
    rw [hi] at hm
    cases hf : i.methods.find? (·.name == name) with
    | none => simp [hf] at hm
    | some m =>
      simp only [Option.bind_some, hf, Option.map_some, Option.some.injEq, Prod.mk.injEq] at hm
      obtain ⟨h1, h2⟩ := hm
      have hp : m.path = #[] := Array.eq_empty_of_size_eq_zero h1
      have hti : (typeInfo t).run P w = .ok i w := by simp [typeInfo, Sem.run_bind, run_program, hi]
      show (method (P.types.size + 99 + 1) t (.pointer (some a)) name).run P w = _
      unfold method
      simp only [Sem.run_bind, hti, Result.andThen_ok, hf, hp, follow, Sem.run_pure, h2, receiverAt, run_underlying hu, Place.get]
def concrete (P : Program) (t : TypeId) : Bool := match P.underlying t with | some (.interface _) => false | some _ => true | none => false
theorem run_mkIface {t : TypeId} (ht : concrete P t = true) (v : Value) (w : World) : (Instr.makeInterface t v).run P w = .ok (.iface t v) w := by
  unfold concrete at ht
  cases hu : P.underlying t with
  | none => rw [hu] at ht; cases ht
  | some u =>
    rw [hu] at ht
    unfold Instr.makeInterface
    cases u <;> first | cases (show false = true from ht) | simp [Sem.run_bind, run_underlying hu]
theorem LOK.mkIface {d : Nat} {t : TypeId} {x : Operand} {ty : TypeId} {pos : String} {after_ : Array Edge} {g : Option (Nat × Bool)} {v : Value} (hx : σ.ev x = some (.sv (.one (.val v)))) (ht : concrete P t = true) :
    LOK P n ops ⟨some d, .makeInterface t x, ty, pos, after_, g⟩ σ ⟨[(d, .sv (.one (.val (.iface t v))))], [], []⟩ :=
  LOK.value fun σ' ha C ι a w hr => by
    have hv : a.eval x = _ := hr.ev ((ha.ev (x := x) (by simp [Op.operands])).trans hx)
    exact ⟨.iface t v, by simp [execOp, hv, run_mkIface ht], rfl⟩
theorem LOK.mkIfaceP {d k off : Nat} {t : TypeId} {x : Operand} {ty : TypeId} {pos : String} {after_ : Array Edge} {g : Option (Nat × Bool)} (hx : σ.ev x = some (.sv (.one (.ptr k off)))) (ht : concrete P t = true) :
    LOK P n ops ⟨some d, .makeInterface t x, ty, pos, after_, g⟩ σ ⟨[(d, .sv (.one (ifcP t k off)))], [k], []⟩ :=
  LOK.value fun σ' ha C ι a w hr => by
    have hv := hr.ev ((ha.ev (x := x) (by simp [Op.operands])).trans hx)
    refine ⟨.iface t (a.eval x), by simp [execOp, run_mkIface ht], ?_⟩
    simp only [LV.rel, SV.rel, CV.rel] at hv ⊢
    cases hS : σ'.stat k with
    | none => rw [hS] at hv; exact hv.elim
    | some y =>
      rw [hS] at hv
      cases y with
      | none => obtain ⟨b, e⟩ := hv; exact ⟨b, by rw [e]⟩
      | some b => show Value.iface t (a.eval x) = _; rw [hv]
theorem LOK.assertV {d : Nat} {t xt : TypeId} {x : Operand} {ty : TypeId} {pos : String} {after_ : Array Edge} {g : Option (Nat × Bool)} {v : Value} (hx : σ.ev x = some (.sv (.one (.val (.iface t v))))) (ht : concrete P t = true) :
    LOK P n ops ⟨some d, .typeAssert x xt t false, ty, pos, after_, g⟩ σ ⟨[(d, .sv (.one (.val v)))], [], []⟩ :=
  LOK.value fun σ' ha C ι a w hr => by
    have hv : a.eval x = _ := hr.ev ((ha.ev (x := x) (by simp [Op.operands])).trans hx)
    refine ⟨v, ?_, rfl⟩
    unfold concrete at ht
    cases hu : P.underlying t with
    | none => rw [hu] at ht; cases ht
    | some u =>
      rw [hu] at ht
      cases u <;> first | cases (show false = true from ht) | simp [execOp, hv, Instr.typeAssert, Sem.run_bind, run_underlying hu]
theorem K.mkIface {d : Nat} {t : TypeId} {x : Operand} {ty : TypeId} {pos : String} {after_ : Array Edge} {g : Option (Nat × Bool)} {v : Value} (hx : (⟨s, bx, X⟩ : St).ev x = some (.sv (.one (.val v)))) (ht : concrete P t = true) (hw : Want ops s g)
    (kont : RunK P n ops os ⟨(d, .sv (.one (.val (.iface t v)))) :: s, bx, X⟩ (⟨[(d, .sv (.one (.val (.iface t v))))], [], []⟩ :: acc) K) :
    RunK P n ops (⟨some d, .makeInterface t x, ty, pos, after_, g⟩ :: os) ⟨s, bx, X⟩ acc K := RunK.g1 (LOK.mkIface hx ht) hw kont
theorem K.mkIfaceP {d k off : Nat} {t : TypeId} {x : Operand} {ty : TypeId} {pos : String} {after_ : Array Edge} {g : Option (Nat × Bool)} (hx : (⟨s, bx, X⟩ : St).ev x = some (.sv (.one (.ptr k off)))) (ht : concrete P t = true) (hw : Want ops s g)
    (kont : RunK P n ops os ⟨(d, .sv (.one (ifcP t k off))) :: s, bx, X⟩ (⟨[(d, .sv (.one (ifcP t k off)))], [k], []⟩ :: acc) K) :
    RunK P n ops (⟨some d, .makeInterface t x, ty, pos, after_, g⟩ :: os) ⟨s, bx, X⟩ acc K := RunK.g1 (LOK.mkIfaceP hx ht) hw kont
theorem K.assertV {d : Nat} {t xt : TypeId} {x : Operand} {ty : TypeId} {pos : String} {after_ : Array Edge} {g : Option (Nat × Bool)} {v : Value} (hx : (⟨s, bx, X⟩ : St).ev x = some (.sv (.one (.val (.iface t v))))) (ht : concrete P t = true) (hw : Want ops s g)
    (kont : RunK P n ops os ⟨(d, .sv (.one (.val v))) :: s, bx, X⟩ (⟨[(d, .sv (.one (.val v)))], [], []⟩ :: acc) K) :
    RunK P n ops (⟨some d, .typeAssert x xt t false, ty, pos, after_, g⟩ :: os) ⟨s, bx, X⟩ acc K := RunK.g1 (LOK.assertV hx ht) hw kont
theorem LOK.enterM {o : Oper} {d : Nat} {f : FuncId} {lvs : List LV} {r : LV} {pre post : List (Nat × Option Box)} (ρ : List (Nat × Nat)) (ft0 : List Nat) (ho : o.dst = some d)
    (hs : MSpec P σ.X f lvs pre r post)
    (hent : ∀ σ', Agree ops o ⟨[(d, r.ren (rn ρ))], ft0 ++ pre.map (fun p => rn ρ p.1), callPost ρ post⟩ σ σ' → ∀ (C : Ctx) (ι : Nat → Nat × Nat) (a : Act) (w : World), Rel n C ι σ' a w → ∃ argv : Array Value, (execOp a.eval o).run P w = .ok (.enter f argv) w ∧ LVs.rel σ'.stat ι (lvs.map (LV.ren (rn ρ))) argv.toList)
    (hu : lvs.all (LV.inUse pre) = true) (hpre : boxesAt σ (rn ρ) pre)
    (hub : pre.all (fun p => match p.2 with | some b => b.cells.all (CV.inUse pre) | none => true) = true) (hi : injOn (rn ρ) (post.map (·.1)) = true)
    (hsub : pre.all (fun p => (look p.1 post).isSome) = true) (hnew : post.all (fun p => (look p.1 pre).isSome || σ.fresh (rn ρ p.1)) = true) :
    LOK P n ops o σ ⟨[(d, r.ren (rn ρ))], ft0 ++ pre.map (fun p => rn ρ p.1), callPost ρ post⟩ := by
  refine ⟨fun σ' ha C ι a w hr hd next Q hn => ?_⟩
  obtain ⟨argv, hrun, hargv⟩ := hent σ' ha C ι a w hr
  clear hent
  generalize hF : rn ρ = F at *
  have hpm : ∀ k x, look k pre = some x → k ∈ pre.map (·.1) := fun k x h => look_key h
  have hsub' : ∀ k, k ∈ pre.map (·.1) → k ∈ post.map (·.1) := fun k hk => by
    obtain ⟨p, hp, rfl⟩ := List.mem_map.1 hk
    obtain ⟨x, hx⟩ := Option.isSome_iff_exists.1 (List.all_eq_true.1 hsub p hp)
    exact look_key hx
  have hst : ∀ k x, look k pre = some x → σ'.stat (F k) = σ.stat (F k) := fun k x hk => ha.stat (F k) (.inl (by
    obtain ⟨p, hp, e⟩ := List.mem_map.1 (hpm k x hk)
    exact List.mem_append_right _ (List.mem_map.2 ⟨p, hp, by rw [e]⟩)))
  have hat : ∀ k x, look k pre = some x → (∀ b, x = some b → σ'.stat (F k) = some (some (b.ren F))) ∧ ∃ y, σ'.stat (F k) = some y := fun k x hk => by
    obtain ⟨h1, h2, -⟩ := boxesAt_look hpre k x hk
    rw [hst k x hk]
    exact ⟨h1, h2⟩
  have hmem : ∀ k x, look k pre = some x → (k, x) ∈ pre := fun k x hk => (boxesAt_look hpre k x hk).2.2
  have hback : Back pre σ'.stat F := fun k x hk => ⟨fun b e => ⟨_, (hat k x hk).1 b e⟩, (hat k x hk).2⟩
  have hrel := LVs.rel_back hback hu hargv
  obtain ⟨H, hH⟩ := hr.res
  have hH0 := hH.move (S' := stOf pre) (own' := fun _ => True) (ι' := fun k => ι (F k)) (X' := σ.X) (w' := w) F (fun k e cs R hk => ⟨⟨e, cs.map (CV.ren F), (hat k _ hk).1 _ rfl⟩, rfl⟩) (fun k k' ⟨_, _, _, h1⟩ ⟨_, _, _, h2⟩ e => injOn_spec hi k k' (hsub' k (hpm k _ h1)) (hsub' k' (hpm k' _ h2)) e) (fun _ _ _ _ _ hj => hj) (fun _ _ _ => trivial) (fun b _ hx _ _ => by rw [← ha.X]; exact hx)
    (fun j bj hj => .inl ⟨F j, _, (hat j _ hj).1 _ rfl, rfl, fun k ⟨_, _, _, h1⟩ e => (injOn_spec hi k j (hsub' k (hpm k _ h1)) (hsub' j (hpm j _ hj)) e).symm⟩)
  have hHF : ∀ k b, (open Classical in if isRes (stOf pre) k then H (F k) else fun _ => none) b ≠ none → isRes (stOf pre) k ∧ H (F k) b ≠ none := fun k b h => by
    split at h
    · rename_i h1; exact ⟨h1, h⟩
    · exact absurd rfl h
  generalize hH0e : (fun k => open Classical in if isRes (stOf pre) k then H (F k) else fun _ => none) = H0 at hH0
  have hHF : ∀ k b, H0 k b ≠ none → isRes (stOf pre) k ∧ H (F k) b ≠ none := fun k b h => by
    rw [← hH0e] at h
    exact hHF k b h
  have hM : MemOf σ.X (fun k => ι (F k)) H0 pre w := by
    refine ⟨fun k b hk hbk => ?_, fun k b hk => ?_, fun k k' b b' hk hk' he => ?_, fun b o hb => hr.ext b o (by rw [ha.X]; exact hb), hH0⟩
    · obtain ⟨arr, fr, harr, ht, hsz, hbr⟩ := hr.boxes _ _ ((hat k _ hk).1 b rfl) (by unfold Box.blk at hbk ⊢; exact hbk)
      exact ⟨arr, fr, harr, ht, hsz, Box.rel_back hback (by simpa using List.all_eq_true.1 hub _ (hmem k _ hk)) hbr⟩
    · rw [← ha.X]; exact (hr.own _ _ ((hat k _ hk).1 b rfl)).2
    · have := hr.inj _ _ _ _ ((hat k _ hk).1 b rfl) ((hat k' _ hk').1 b' rfl) he
      exact injOn_spec hi k k' (hsub' k (hpm k _ hk)) (hsub' k' (hpm k' _ hk')) this
  have hc := hs.out w argv _ H0 hM (by simpa using hrel)
  unfold Oper.wp
  rw [hrun]
  refine hc.mono ?_
  rintro e w' ⟨v, ι', H', rfl, hv, hM', hP⟩
  have hcp : callPost ρ post = post.map fun p => (F p.1, p.2.map (Box.ren F)) := by unfold callPost; rw [hF]
  rw [hcp] at hn ha
  have hτ : ∀ (sl : List (Nat × LV)) j, (⟨sl, (post.map fun p => (F p.1, p.2.map (Box.ren F))) ++ σ'.boxes, σ'.X⟩ : St).stat j = (look j (post.map fun p => (F p.1, p.2.map (Box.ren F)))).or (σ'.stat j) := fun sl j => look_append _ _ _
  have hin : ∀ (sl : List (Nat × LV)) k x, look k post = some x → (⟨sl, (post.map fun p => (F p.1, p.2.map (Box.ren F))) ++ σ'.boxes, σ'.X⟩ : St).stat (F k) = some (x.map (Box.ren F)) := fun sl k x hk => by
    rw [hτ, look_map (g := fun o => o.map (Box.ren F)) hi hk]; rfl
  have hout : ∀ (sl : List (Nat × LV)) j, (¬∃ k, k ∈ post.map (·.1) ∧ F k = j) → (⟨sl, (post.map fun p => (F p.1, p.2.map (Box.ren F))) ++ σ'.boxes, σ'.X⟩ : St).stat j = σ'.stat j := fun sl j h => by
    rw [hτ]
    cases hl : look j (post.map fun p => (F p.1, p.2.map (Box.ren F))) with
    | none => rfl
    | some y => exact absurd (look_unmap (g := fun o => o.map (Box.ren F)) hl) h
  have hfresh : ∀ k x, look k post = some x → look k pre = none → σ'.stat (F k) = none ∧ F k < 1000000 := fun k x hk hp => by
    have hm : ∃ p, p ∈ post ∧ p.1 = k := by
      obtain ⟨p, hp, e⟩ := List.mem_map.1 (look_key hk)
      exact ⟨p, hp, e⟩
    obtain ⟨p, hp1, rfl⟩ := hm
    have h1 := List.all_eq_true.1 hnew p hp1
    rw [hp] at h1
    simp at h1
    refine ⟨?_, St.fresh_lt h1⟩
    rw [ha.stat (F p.1) (.inr (List.mem_map.2 ⟨(F p.1, p.2.map (Box.ren F)), List.mem_map.2 ⟨p, hp1, rfl⟩, rfl⟩))]
    exact St.fresh_none h1
  have hlater : ∀ sl, Later σ'.stat (⟨sl, (post.map fun p => (F p.1, p.2.map (Box.ren F))) ++ σ'.boxes, σ'.X⟩ : St).stat ι (after F post ι ι') := by
    intro sl j hj
    by_cases h : ∃ k, k ∈ post.map (·.1) ∧ F k = j
    · obtain ⟨k, hk, rfl⟩ := h
      obtain ⟨x, hx⟩ := key_look hk
      rw [hin sl k x hx]
      refine ⟨by simp, fun b' hb' => ?_⟩
      cases x with
      | none => simp at hb'
      | some b =>
        have hpk : look k pre ≠ none := fun hn' => hj (hfresh k _ hx hn').1
        obtain ⟨⟨b0, hb0⟩, he⟩ := hP.old k b hx hpk
        rw [after_in hi hk]
        exact ⟨he, _, (hat k _ hb0).1 b0 rfl⟩
    · rw [hout sl j h, after_out h]
      exact ⟨hj, fun b' hb' => ⟨rfl, b', hb'⟩⟩
  have hmaps : ∀ sl, Maps (stOf post) (⟨sl, (post.map fun p => (F p.1, p.2.map (Box.ren F))) ++ σ'.boxes, σ'.X⟩ : St).stat ι' (after F post ι ι') F := by
    intro sl k hk
    cases hx : look k post with
    | none => exact absurd hx hk
    | some x =>
      rw [hin sl k x hx]
      refine ⟨by simp, fun b' hb' => ?_⟩
      cases x with
      | none => simp at hb'
      | some b => exact ⟨after_in hi (look_key hx), b, hx⟩
  have hlent : ∀ b, LentB pre (fun k => ι (F k)) H0 b → (C.own b ∨ C.w0.heap.size ≤ b) ∧ σ'.X b = none ∧ ∀ j bj, σ'.stat j = some (some bj) → (ι j).1 = b → ∃ k, k ∈ post.map (·.1) ∧ F k = j := fun b hb => by
    rcases hb with ⟨k, b0, hk, rfl⟩ | ⟨k, hk⟩
    · have h1 := (hat k _ hk).1 b0 rfl
      have h2 := hr.own _ _ h1
      exact ⟨h2.1, h2.2, fun j bj hj e => ⟨k, hsub' k (hpm k _ hk), hr.inj _ _ _ _ h1 hj e.symm⟩⟩
    · obtain ⟨⟨_, _, _, h1⟩, h2⟩ := hHF k b hk
      cases ho : H (F k) b with
      | none => exact absurd ho h2
      | some o =>
        obtain ⟨_, _, _, h3, h4, h5⟩ := hH.mem _ _ _ ho
        exact ⟨h3, h4, fun j bj hj e => ⟨k, hsub' k (hpm k _ h1), (h5 j bj hj e).symm⟩⟩
  have hother : ∀ j b, σ'.stat j = some (some b) → (¬∃ k, k ∈ post.map (·.1) ∧ F k = j) → (ι j).1 < w.heap.size ∧ ¬ LentB pre (fun k => ι (F k)) H0 (ι j).1 := fun j b hj h =>
    ⟨hr.blocklt hj, fun hl => h ((hlent _ hl).2.2 j b hj rfl)⟩
  have hXpre : ∀ b o, σ'.X b = some o → b < w.heap.size ∧ ¬ LentB pre (fun k => ι (F k)) H0 b := fun b o hb =>
    ⟨(Array.getElem?_eq_some_iff.1 (hr.ext b o hb)).1, fun hl => by rw [(hlent _ hl).2.1] at hb; cases hb⟩
  have hnewblk : ∀ k b, stOf post k = some (some b) → stOf pre k = none → w.heap.size ≤ (ι' k).1 ∨ LentB pre (fun k => ι (F k)) H0 (ι' k).1 := fun k b hk hp => hP.new k b hk hp
  have hHout : ∀ j b, (¬∃ k, k ∈ post.map (·.1) ∧ F k = j) → H j b ≠ none → b < w.heap.size ∧ ¬ LentB pre (fun k => ι (F k)) H0 b := fun j b hj hb => by
    cases ho : H j b with
    | none => exact absurd ho hb
    | some o =>
      obtain ⟨h1, h2, _, _, _, h5⟩ := hH.mem _ _ _ ho
      refine ⟨(Array.getElem?_eq_some_iff.1 h2).1, fun hl => ?_⟩
      rcases hl with ⟨k, b0, hk, e⟩ | ⟨k, hk⟩
      · exact hj ⟨k, hsub' k (hpm k _ hk), h5 _ _ ((hat k _ hk).1 b0 rfl) e⟩
      · obtain ⟨⟨_, _, _, h6⟩, h7⟩ := hHF k b hk
        exact hj ⟨k, hsub' k (hpm k _ h6), hH.apart _ _ b h7 hb⟩
  have hres : ∃ G, ResAt (fun b => C.own b ∨ C.w0.heap.size ≤ b) (after F post ι ι') G (⟨σ'.slots, (post.map fun p => (F p.1, p.2.map (Box.ren F))) ++ σ'.boxes, σ'.X⟩ : St).stat σ'.X w' := by
    have hG1 : ∀ k, k ∈ post.map (·.1) → (open Classical in if h : ∃ k', k' ∈ post.map (·.1) ∧ F k' = F k then H' (Classical.choose h) else H (F k)) = H' k := fun k hk => by
      have h : ∃ k', k' ∈ post.map (·.1) ∧ F k' = F k := ⟨k, hk, rfl⟩
      rw [dif_pos h]
      have := Classical.choose_spec h
      rw [injOn_spec hi _ _ this.1 hk this.2]
    have hG2 : ∀ j, (¬∃ k, k ∈ post.map (·.1) ∧ F k = j) → (open Classical in if h : ∃ k', k' ∈ post.map (·.1) ∧ F k' = j then H' (Classical.choose h) else H j) = H j := fun j h => dif_neg h
    refine ⟨fun j => open Classical in if h : ∃ k', k' ∈ post.map (·.1) ∧ F k' = j then H' (Classical.choose h) else H j, ?_⟩
    generalize hGe : (fun j => open Classical in if h : ∃ k', k' ∈ post.map (·.1) ∧ F k' = j then H' (Classical.choose h) else H j) = G
    have hG1 : ∀ k, k ∈ post.map (·.1) → G (F k) = H' k := fun k hk => by rw [← hGe]; exact hG1 k hk
    have hG2 : ∀ j, (¬∃ k, k ∈ post.map (·.1) ∧ F k = j) → G j = H j := fun j hj => by rw [← hGe]; exact hG2 j hj
    have hside : ∀ k b, k ∈ post.map (·.1) → H' k b ≠ none → w.heap.size ≤ b ∨ LentB pre (fun k => ι (F k)) H0 b := fun k b _ h => hP.newH k b h
    constructor
    · intro j e cs R hj
      by_cases h : ∃ k, k ∈ post.map (·.1) ∧ F k = j
      · obtain ⟨k, hk, rfl⟩ := h
        obtain ⟨x, hx⟩ := key_look hk
        rw [hin _ k x hx] at hj
        cases x with
        | none => simp at hj
        | some b1 =>
          obtain ⟨e1, cs1, r1⟩ := b1
          simp only [Option.map_some, Option.some.injEq, Box.ren, Box.mk.injEq] at hj
          obtain ⟨rfl, _, rfl⟩ := hj
          rw [after_in hi hk, hG1 k hk]
          exact hM'.res.holds k _ _ _ hx
      · rw [hout _ j h] at hj
        rw [after_out h, hG2 j h]
        exact hH.holds j _ _ _ hj
    · intro j b o ho
      by_cases h : ∃ k, k ∈ post.map (·.1) ∧ F k = j
      · obtain ⟨k, hk, rfl⟩ := h
        rw [hG1 k hk] at ho
        obtain ⟨⟨e, cs, R, h1⟩, h2, h3, _, h5, h6⟩ := hM'.res.mem k b o ho
        have hnl := hside k b hk (by rw [ho]; simp)
        refine ⟨⟨e, cs.map (CV.ren F), R, by rw [hin _ k _ h1]; rfl⟩, h2, h3, ?_, by rw [ha.X]; exact h5, fun j2 bj hj2 e2 => ?_⟩
        · rcases hnl with h7 | h7
          · exact .inr (Nat.le_trans hr.big h7)
          · exact (hlent b h7).1
        · by_cases h8 : ∃ k, k ∈ post.map (·.1) ∧ F k = j2
          · obtain ⟨k2, hk2, rfl⟩ := h8
            obtain ⟨x2, hx2⟩ := key_look hk2
            rw [hin _ k2 x2 hx2] at hj2
            cases x2 with
            | none => simp at hj2
            | some b2 => rw [after_in hi hk2] at e2; rw [h6 k2 b2 hx2 e2]
          · rw [hout _ j2 h8] at hj2
            rw [after_out h8] at e2
            obtain ⟨h9, h10⟩ := hother j2 bj hj2 h8
            rw [e2] at h9 h10
            rcases hnl with h7 | h7
            · omega
            · exact absurd h7 h10
      · rw [hG2 j h] at ho
        obtain ⟨⟨e, cs, R, h1⟩, h2, h3, h4, h5, h6⟩ := hH.mem j b o ho
        obtain ⟨h7, h8⟩ := hHout j b h (by rw [ho]; simp)
        refine ⟨⟨e, cs, R, by rw [hout _ j h]; exact h1⟩, (hP.frame b h7 h8).trans h2, h3, h4, h5, fun j2 bj hj2 e2 => ?_⟩
        by_cases h9 : ∃ k, k ∈ post.map (·.1) ∧ F k = j2
        · obtain ⟨k2, hk2, rfl⟩ := h9
          obtain ⟨x2, hx2⟩ := key_look hk2
          rw [hin _ k2 x2 hx2] at hj2
          cases x2 with
          | none => simp at hj2
          | some b2 =>
            rw [after_in hi hk2] at e2
            cases hp : stOf pre k2 with
            | none =>
              rcases hnewblk k2 b2 hx2 hp with h10 | h10
              · omega
              · rw [e2] at h10; exact absurd h10 h8
            | some y =>
              obtain ⟨⟨b0, hb0⟩, he⟩ := hP.old k2 b2 hx2 (by rw [hp]; simp)
              rw [he] at e2
              exact h6 _ _ ((hat k2 _ hb0).1 b0 rfl) e2
        · rw [hout _ j2 h9] at hj2
          rw [after_out h9] at e2
          exact h6 j2 bj hj2 e2
    · intro i j b h1 h2
      by_cases hi1 : ∃ k, k ∈ post.map (·.1) ∧ F k = i
      · obtain ⟨k, hk, rfl⟩ := hi1
        rw [hG1 k hk] at h1
        by_cases hj1 : ∃ k, k ∈ post.map (·.1) ∧ F k = j
        · obtain ⟨k2, hk2, rfl⟩ := hj1
          rw [hG1 k2 hk2] at h2
          rw [hM'.res.apart k k2 b h1 h2]
        · rw [hG2 j hj1] at h2
          obtain ⟨h7, h8⟩ := hHout j b hj1 h2
          rcases hside k b hk h1 with h9 | h9
          · omega
          · exact absurd h9 h8
      · rw [hG2 i hi1] at h1
        by_cases hj1 : ∃ k, k ∈ post.map (·.1) ∧ F k = j
        · obtain ⟨k2, hk2, rfl⟩ := hj1
          rw [hG1 k2 hk2] at h2
          obtain ⟨h7, h8⟩ := hHout i b hi1 h1
          rcases hside k2 b hk2 h2 with h9 | h9
          · omega
          · exact absurd h9 h8
        · rw [hG2 j hj1] at h2
          exact hH.apart i j b h1 h2
  have key : Rel n C (after F post ι ι') ⟨σ'.slots, (post.map fun p => (F p.1, p.2.map (Box.ren F))) ++ σ'.boxes, σ'.X⟩ a w' := {
    defers := hr.defers, size := hr.size
    slots := fun d lv hd => by
      obtain ⟨v, hv, hvr⟩ := hr.slots d lv hd
      exact ⟨v, hv, LV.rel_later (hlater _) hvr⟩
    res := hres
    boxes := fun j b hj hbk => by
      by_cases h : ∃ k, k ∈ post.map (·.1) ∧ F k = j
      · obtain ⟨k, hk, rfl⟩ := h
        obtain ⟨x, hx⟩ := key_look hk
        rw [hin _ k x hx] at hj
        cases x with
        | none => simp at hj
        | some b1 =>
          simp only [Option.map_some, Option.some.injEq] at hj
          subst hj
          obtain ⟨arr, fr, harr, ht, hsz, hbr⟩ := hM'.boxes k b1 hx (by unfold Box.blk at hbk ⊢; exact hbk)
          rw [after_in hi hk]
          exact ⟨arr, fr, harr, ht, hsz, Box.rel_maps (hmaps _) hbr⟩
      · rw [hout _ j h] at hj
        obtain ⟨arr, fr, harr, ht, hsz, hbr⟩ := hr.boxes j b hj hbk
        obtain ⟨h1, h2⟩ := hother j b hj h
        rw [after_out h]
        exact ⟨arr, fr, (hP.frame _ h1 h2).trans harr, ht, hsz, Box.rel_later (hlater _) hbr⟩
    own := fun j b hj => by
      by_cases h : ∃ k, k ∈ post.map (·.1) ∧ F k = j
      · obtain ⟨k, hk, rfl⟩ := h
        obtain ⟨x, hx⟩ := key_look hk
        rw [hin _ k x hx] at hj
        cases x with
        | none => simp at hj
        | some b1 =>
          rw [after_in hi hk]
          refine ⟨?_, by rw [ha.X]; exact hM'.apart k b1 hx⟩
          cases hp : stOf pre k with
          | none =>
            rcases hnewblk k b1 hx hp with h1 | h1
            · exact .inr (Nat.le_trans hr.big h1)
            · exact (hlent _ h1).1
          | some y =>
            obtain ⟨⟨b0, hb0⟩, he⟩ := hP.old k b1 hx (by rw [hp]; simp)
            rw [he]; exact (hr.own _ _ ((hat k _ hb0).1 b0 rfl)).1
      · rw [hout _ j h] at hj
        rw [after_out h]
        exact hr.own j b hj
    inj := fun i j bi bj hi' hj' heq => by
      have cross : ∀ i j bi bj, (∃ k, k ∈ post.map (·.1) ∧ F k = i) → (¬∃ k, k ∈ post.map (·.1) ∧ F k = j) → (⟨σ'.slots, (post.map fun p => (F p.1, p.2.map (Box.ren F))) ++ σ'.boxes, σ'.X⟩ : St).stat i = some (some bi) → σ'.stat j = some (some bj) → (after F post ι ι' i).1 ≠ (ι j).1 := by
        rintro i j bi bj ⟨k, hk, rfl⟩ h2 hi2 hj2 he
        obtain ⟨x, hx⟩ := key_look hk
        rw [hin _ k x hx] at hi2
        cases x with
        | none => simp at hi2
        | some b1 =>
          rw [after_in hi hk] at he
          obtain ⟨h3, h4⟩ := hother j bj hj2 h2
          cases hp : stOf pre k with
          | none =>
            rcases hnewblk k b1 hx hp with h1 | h1
            · omega
            · rw [he] at h1; exact h4 h1
          | some y =>
            obtain ⟨⟨b0, hb0⟩, he0⟩ := hP.old k b1 hx (by rw [hp]; simp)
            exact h4 (.inl ⟨k, b0, hb0, by rw [← he, he0]⟩)
      by_cases h1 : ∃ k, k ∈ post.map (·.1) ∧ F k = i
      · by_cases h2 : ∃ k, k ∈ post.map (·.1) ∧ F k = j
        · obtain ⟨k, hk, rfl⟩ := h1
          obtain ⟨k', hk', rfl⟩ := h2
          obtain ⟨x, hx⟩ := key_look hk
          obtain ⟨x', hx'⟩ := key_look hk'
          rw [hin _ k x hx] at hi'
          rw [hin _ k' x' hx'] at hj'
          cases x with
          | none => simp at hi'
          | some b1 =>
            cases x' with
            | none => simp at hj'
            | some b2 =>
              rw [after_in hi hk, after_in hi hk'] at heq
              rw [hM'.inj k k' b1 b2 hx hx' heq]
        · rw [hout _ j h2] at hj'
          rw [after_out h2] at heq
          exact absurd heq (cross i j bi bj h1 h2 hi' hj')
      · by_cases h2 : ∃ k, k ∈ post.map (·.1) ∧ F k = j
        · rw [hout _ i h1] at hi'
          rw [after_out h1] at heq
          exact absurd heq.symm (cross j i bj bi h2 h1 hj' hi')
        · rw [hout _ i h1] at hi'
          rw [hout _ j h2] at hj'
          rw [after_out h1, after_out h2] at heq
          exact hr.inj i j bi bj hi' hj' heq
    keep := fun j b hj hlt => by
      by_cases h : ∃ k, k ∈ post.map (·.1) ∧ F k = j
      · obtain ⟨k, hk, rfl⟩ := h
        obtain ⟨x, hx⟩ := key_look hk
        rw [hin _ k x hx] at hj
        cases x with
        | none => simp at hj
        | some b1 =>
          rw [after_in hi hk]
          cases hp : stOf pre k with
          | none => exact absurd (hfresh k _ hx hp).2 (Nat.not_lt.2 hlt)
          | some y =>
            obtain ⟨⟨b0, hb0⟩, he⟩ := hP.old k b1 hx (by rw [hp]; simp)
            rw [he]
            exact hr.keep _ _ ((hat k _ hb0).1 b0 rfl) hlt
      · rw [hout _ j h] at hj
        rw [after_out h]
        exact hr.keep j b hj hlt
    ext := fun b o hb => by
      obtain ⟨h1, h2⟩ := hXpre b o hb
      exact (hP.frame b h1 h2).trans (hr.ext b o hb)
    frame := fun b hb hnb => by
      refine (hP.frame b (Nat.lt_of_lt_of_le hb hr.big) fun hl => ?_).trans (hr.frame b hb hnb)
      rcases (hlent b hl).1 with h1 | h1
      · exact hnb h1
      · omega
    big := Nat.le_trans hr.big hP.big
    os := hP.os.trans hr.os, tape := hP.tape.trans hr.tape, output := hP.output.trans hr.output }
  rw [ho]
  exact hn _ _ w' (key.put (hd d ho) (LV.rel_maps (hmaps _) hv))
theorem LOK.invP {d k off : Nat} {t : TypeId} {x : Operand} {name : String} {f : FuncId} {args : List Operand} {tys : Array TypeId} {ty : TypeId} {pos : String} {after_ : Array Edge} {g : Option (Nat × Bool)} {lvs : List LV} {rest : List LV} {r : LV} {pre post : List (Nat × Option Box)} (ρ : List (Nat × Nat))
    (hx : σ.ev x = some (.sv (.one (ifcP t k off)))) (hm : ∀ (a : Addr) (w : World), (method (P.types.size + Made.depth) t (.pointer (some a)) name).run P w = .ok (f, .pointer (some a)) w)
    (hs : MSpec P σ.X f lvs pre r post) (hargs : evs σ args = some rest) (hlvs : lvs.map (LV.ren (rn ρ)) = .sv (.one (.ptr k off)) :: rest)
    (hu : lvs.all (LV.inUse pre) = true) (hpre : boxesAt σ (rn ρ) pre)
    (hub : pre.all (fun p => match p.2 with | some b => b.cells.all (CV.inUse pre) | none => true) = true) (hi : injOn (rn ρ) (post.map (·.1)) = true)
    (hsub : pre.all (fun p => (look p.1 post).isSome) = true) (hnew : post.all (fun p => (look p.1 pre).isSome || σ.fresh (rn ρ p.1)) = true) :
    LOK P n ops ⟨some d, .call ⟨.invoke x name, args.toArray, tys⟩, ty, pos, after_, g⟩ σ ⟨[(d, r.ren (rn ρ))], [] ++ pre.map (fun p => rn ρ p.1), callPost ρ post⟩ := by
  refine LOK.enterM ρ [] rfl hs (fun σ' ha C ι a w hr => ?_) hu hpre hub hi hsub hnew
  have hargs' : evs σ' args = some rest := by
    rw [evs_agree fun y hy => ha.ev (by simp [Op.operands, Call.operands, hy])]
    exact hargs
  have hv := hr.ev ((ha.ev (x := x) (by simp [Op.operands, Call.operands])).trans hx)
  obtain ⟨b, hb, hp⟩ : ∃ b, a.eval x = .iface t (.pointer (some ⟨b, off, none⟩)) ∧ CV.rel σ'.stat ι (.ptr k off) (.pointer (some ⟨b, off, none⟩)) := by
    simp only [LV.rel, SV.rel, CV.rel] at hv ⊢
    cases hS : σ'.stat k with
    | none => rw [hS] at hv; exact hv.elim
    | some y =>
      rw [hS] at hv
      cases y with
      | none => obtain ⟨b, e⟩ := hv; exact ⟨b, e, b, rfl⟩
      | some bb => exact ⟨_, hv, rfl⟩
  refine ⟨#[.pointer (some ⟨b, off, none⟩)] ++ args.toArray.map a.eval, ?_, ?_⟩
  · simp only [execOp, resolve, invoke, Sem.run_bind, Sem.run_pure, Result.andThen_ok]
    simp [hb, callMethod, Sem.run_bind, run_program, hm, run_enter hs.enters, List.take_of_length_le]
  · rw [hlvs]
    have := evs_rel hr hargs'
    simp only [Array.toList_append]
    exact ⟨hp, by simpa using this⟩
theorem LOK.invV {d k off : Nat} {t e el : TypeId} {x : Operand} {name : String} {f : FuncId} {args : List Operand} {tys : Array TypeId} {ty : TypeId} {pos : String} {after_ : Array Edge} {g : Option (Nat × Bool)} {lvs : List LV} {rest : List LV} {r : LV} {pre post : List (Nat × Option Box)} {cs : List CV} {row : Bool} {c : CV} (ρ : List (Nat × Nat))
    (hx : σ.ev x = some (.sv (.one (ifcP t k off)))) (hm : ∀ (a : Addr) (w : World) (v : Value), (loadVar e a).run P w = .ok v w → (method (P.types.size + Made.depth) t (.pointer (some a)) name).run P w = .ok (f, v) w)
    (hk : σ.stat k = some (some ⟨el, cs, row⟩)) (h1 : oneType P e = true) (hc : cs[off]? = some c)
    (hs : MSpec P σ.X f lvs pre r post) (hargs : evs σ args = some rest) (hlvs : lvs.map (LV.ren (rn ρ)) = .sv (.one c) :: rest)
    (hu : lvs.all (LV.inUse pre) = true) (hpre : boxesAt σ (rn ρ) pre)
    (hub : pre.all (fun p => match p.2 with | some b => b.cells.all (CV.inUse pre) | none => true) = true) (hi : injOn (rn ρ) (post.map (·.1)) = true)
    (hsub : pre.all (fun p => (look p.1 post).isSome) = true) (hnew : post.all (fun p => (look p.1 pre).isSome || σ.fresh (rn ρ p.1)) = true) :
    LOK P n ops ⟨some d, .call ⟨.invoke x name, args.toArray, tys⟩, ty, pos, after_, g⟩ σ ⟨[(d, r.ren (rn ρ))], [k] ++ pre.map (fun p => rn ρ p.1), callPost ρ post⟩ := by
  refine LOK.enterM ρ [k] rfl hs (fun σ' ha C ι a w hr => ?_) hu hpre hub hi hsub hnew
  have hargs' : evs σ' args = some rest := by
    rw [evs_agree fun y hy => ha.ev (by simp [Op.operands, Call.operands, hy])]
    exact hargs
  have hk' := (ha.stat k (.inl (by simp))).trans hk
  have hv := hr.ev ((ha.ev (x := x) (by simp [Op.operands, Call.operands])).trans hx)
  simp only [LV.rel, SV.rel, CV.rel, hk'] at hv
  obtain ⟨arr, fr, harr, hthaw, hasz, hrel⟩ := hr.boxes k _ hk' rfl
  obtain ⟨v, hv', hcr⟩ := Box.rel_get hrel hc
  have hld := run_load_one h1 harr (v := v) (by simpa using hv')
  refine ⟨#[v] ++ args.toArray.map a.eval, ?_, ?_⟩
  · simp only [execOp, resolve, invoke, Sem.run_bind, Sem.run_pure, Result.andThen_ok]
    simp [hv, callMethod, Sem.run_bind, run_program, hm _ _ _ hld, run_enter hs.enters, List.take_of_length_le]
  · rw [hlvs]
    have := evs_rel hr hargs'
    simp only [Array.toList_append]
    exact ⟨hcr, by simpa using this⟩
theorem K.invP {d k off : Nat} {t : TypeId} {x : Operand} {name : String} {f : FuncId} {args : List Operand} {tys : Array TypeId} {ty : TypeId} {pos : String} {after_ : Array Edge} {g : Option (Nat × Bool)} {lvs : List LV} {rest : List LV} {r : LV} {pre post : List (Nat × Option Box)} (ρ : List (Nat × Nat)) (lv : LV) (pb : List (Nat × Option Box))
    (hs : MSpec P X f lvs pre r post) (hx : (⟨s, bx, X⟩ : St).ev x = some (.sv (.one (ifcP t k off)))) (hm : ∀ (a : Addr) (w : World), (method (P.types.size + Made.depth) t (.pointer (some a)) name).run P w = .ok (f, .pointer (some a)) w)
    (hargs : evs ⟨s, bx, X⟩ args = some rest) (hlvs : lvs.map (LV.ren (rn ρ)) = .sv (.one (.ptr k off)) :: rest)
    (hu : lvs.all (LV.inUse pre) = true) (hpre : boxesAt ⟨s, bx, X⟩ (rn ρ) pre)
    (hub : pre.all (fun p => match p.2 with | some b => b.cells.all (CV.inUse pre) | none => true) = true) (hi : injOn (rn ρ) (post.map (·.1)) = true)
    (hsub : pre.all (fun p => (look p.1 post).isSome) = true) (hnew : post.all (fun p => (look p.1 pre).isSome || (⟨s, bx, X⟩ : St).fresh (rn ρ p.1)) = true)
    (hlv : r.ren (rn ρ) = lv) (hpb : PostEq (rn ρ) post pb) (hw : Want ops s g)
    (kont : RunK P n ops os ⟨(d, lv) :: s, pb ++ bx, X⟩ (⟨[(d, lv)], pb.map (·.1), pb⟩ :: acc) K) :
    RunK P n ops (⟨some d, .call ⟨.invoke x name, args.toArray, tys⟩, ty, pos, after_, g⟩ :: os) ⟨s, bx, X⟩ acc K := by
  have e1 : callPost ρ post = pb := hpb.eq
  have h := LOK.invP (P := P) (n := n) (ops := ops) (σ := ⟨s, bx, X⟩) (d := d) (tys := tys) (ty := ty) (pos := pos) (after_ := after_) (g := g) ρ hx hm hs hargs hlvs hu hpre hub hi hsub hnew
  rw [e1, hlv] at h
  exact RunK.gen hw (h.more (fun k hk => by
    rw [List.mem_append] at hk
    rcases hk with hk | hk
    · cases hk
    obtain ⟨p, hp, rfl⟩ := List.mem_map.1 hk
    obtain ⟨x, hx⟩ := Option.isSome_iff_exists.1 (List.all_eq_true.1 hsub p hp)
    obtain ⟨q, hq, e⟩ := List.mem_map.1 (look_key hx)
    rw [← e1]
    exact id (List.mem_map.2 ⟨(rn ρ q.1, q.2.map (Box.ren (rn ρ))), List.mem_map.2 ⟨q, hq, rfl⟩, by rw [e]⟩))) kont
theorem K.invV {d k off : Nat} {t e el : TypeId} {x : Operand} {name : String} {f : FuncId} {args : List Operand} {tys : Array TypeId} {ty : TypeId} {pos : String} {after_ : Array Edge} {g : Option (Nat × Bool)} {lvs : List LV} {rest : List LV} {r : LV} {pre post : List (Nat × Option Box)} {cs : List CV} {row : Bool} {c : CV} (ρ : List (Nat × Nat)) (lv : LV) (pb : List (Nat × Option Box))
    (hs : MSpec P X f lvs pre r post) (hx : (⟨s, bx, X⟩ : St).ev x = some (.sv (.one (ifcP t k off)))) (hm : ∀ (a : Addr) (w : World) (v : Value), (loadVar e a).run P w = .ok v w → (method (P.types.size + Made.depth) t (.pointer (some a)) name).run P w = .ok (f, v) w) (hk : (⟨s, bx, X⟩ : St).stat k = some (some ⟨el, cs, row⟩)) (h1 : oneType P e = true) (hc : cs[off]? = some c)
    (hargs : evs ⟨s, bx, X⟩ args = some rest) (hlvs : lvs.map (LV.ren (rn ρ)) = .sv (.one c) :: rest)
    (hu : lvs.all (LV.inUse pre) = true) (hpre : boxesAt ⟨s, bx, X⟩ (rn ρ) pre)
    (hub : pre.all (fun p => match p.2 with | some b => b.cells.all (CV.inUse pre) | none => true) = true) (hi : injOn (rn ρ) (post.map (·.1)) = true)
    (hsub : pre.all (fun p => (look p.1 post).isSome) = true) (hnew : post.all (fun p => (look p.1 pre).isSome || (⟨s, bx, X⟩ : St).fresh (rn ρ p.1)) = true)
    (hlv : r.ren (rn ρ) = lv) (hpb : PostEq (rn ρ) post pb) (hw : Want ops s g)
    (kont : RunK P n ops os ⟨(d, lv) :: s, pb ++ bx, X⟩ (⟨[(d, lv)], k :: pb.map (·.1), pb⟩ :: acc) K) :
    RunK P n ops (⟨some d, .call ⟨.invoke x name, args.toArray, tys⟩, ty, pos, after_, g⟩ :: os) ⟨s, bx, X⟩ acc K := by
  have e1 : callPost ρ post = pb := hpb.eq
  have h := LOK.invV (P := P) (n := n) (ops := ops) (σ := ⟨s, bx, X⟩) (d := d) (tys := tys) (ty := ty) (pos := pos) (after_ := after_) (g := g) ρ hx hm hk h1 hc hs hargs hlvs hu hpre hub hi hsub hnew
  rw [e1, hlv] at h
  exact RunK.gen hw (h.more (fun k hk => by
    rw [List.mem_append] at hk
    rcases hk with hk | hk
    · rw [List.mem_singleton] at hk; subst hk; exact List.mem_cons_self
    obtain ⟨p, hp, rfl⟩ := List.mem_map.1 hk
    obtain ⟨x, hx⟩ := Option.isSome_iff_exists.1 (List.all_eq_true.1 hsub p hp)
    obtain ⟨q, hq, e⟩ := List.mem_map.1 (look_key hx)
    rw [← e1]
    exact List.mem_cons_of_mem _ (List.mem_map.2 ⟨(rn ρ q.1, q.2.map (Box.ren (rn ρ))), List.mem_map.2 ⟨q, hq, rfl⟩, by rw [e]⟩))) kont
end
end Go.Lg
end
section
namespace Go.Proofs.Ytkdbkgfdggbhkaa
open Go
section
variable {α : Type} (lt : α → α → Bool)
structure OrdL : Prop where
  asym : ∀ a b, lt a b = true → lt b a = false
  trans : ∀ a b c, lt b a = false → lt c b = false → lt c a = false
def swapV (v : Nat → α) (i j : Nat) : Nat → α := fun k => if k = i then v j else if k = j then v i else v k
def HeapFrom (v : Nat → α) (m s : Nat) : Prop := ∀ c, 0 < c → c < m → s ≤ (c - 1) / 2 → lt (v c) (v ((c - 1) / 2)) = false
def UpInv (v : Nat → α) (m j : Nat) : Prop := (∀ c, 0 < c → c < m → c ≠ j → lt (v c) (v ((c - 1) / 2)) = false) ∧ ∀ c, 0 < c → c < m → (c - 1) / 2 = j → 0 < j → lt (v c) (v ((j - 1) / 2)) = false
def DownInv (v : Nat → α) (m s i : Nat) : Prop := (∀ c, 0 < c → c < m → s ≤ (c - 1) / 2 → (c - 1) / 2 ≠ i → lt (v c) (v ((c - 1) / 2)) = false) ∧ ∀ c, 0 < c → c < m → (c - 1) / 2 = i → 0 < i → s ≤ (i - 1) / 2 → lt (v c) (v ((i - 1) / 2)) = false
variable {lt}
theorem OrdL.irr (h : OrdL lt) (a : α) : lt a a = false := by
  cases e : lt a a with
  | false => rfl
  | true => rw [h.asym a a e] at e; cases e
theorem up_root {v : Nat → α} {m : Nat} (h : UpInv lt v m 0) : HeapFrom lt v m 0 := fun c h0 hm _ => h.1 c h0 hm (by omega)
theorem up_stop {v : Nat → α} {m j : Nat} (h : UpInv lt v m j) (hj : lt (v j) (v ((j - 1) / 2)) = false) : HeapFrom lt v m 0 := fun c h0 hm _ => by
  by_cases e : c = j
  · subst e; exact hj
  · exact h.1 c h0 hm e
theorem up_step (ho : OrdL lt) {v : Nat → α} {m j : Nat} (h : UpInv lt v m j) (hm : j < m) (h0 : 0 < j) (hj : lt (v j) (v ((j - 1) / 2)) = true) : UpInv lt (swapV v ((j - 1) / 2) j) m ((j - 1) / 2) := by
  have hp : (j - 1) / 2 < j := by omega
  generalize hpe : (j - 1) / 2 = p at *
  refine ⟨fun c c0 cm cp => ?_, fun c c0 cm ce p0 => ?_⟩
  · unfold swapV
    by_cases e1 : c = j
    · subst e1
      rw [hpe, if_neg (by omega), if_pos rfl, if_pos rfl]
      exact ho.asym _ _ hj
    · rw [if_neg cp, if_neg e1]
      by_cases e2 : (c - 1) / 2 = p
      · rw [if_pos e2]
        have := h.1 c c0 cm e1
        rw [e2] at this
        exact ho.trans _ _ _ (ho.asym _ _ hj) this
      · rw [if_neg e2]
        by_cases e3 : (c - 1) / 2 = j
        · rw [if_pos e3, ← hpe]
          exact h.2 c c0 cm e3 h0
        · rw [if_neg e3]
          exact h.1 c c0 cm e1
  · unfold swapV
    have hpp : (p - 1) / 2 < p := by omega
    rw [if_neg (show (p - 1) / 2 ≠ p by omega), if_neg (show (p - 1) / 2 ≠ j by omega)]
    have hq := h.1 p p0 (by omega) (by omega)
    by_cases e1 : c = j
    · subst e1
      rw [if_neg (by omega), if_pos rfl]
      exact hq
    · rw [if_neg (by omega), if_neg e1]
      have := h.1 c c0 cm e1
      rw [ce] at this
      exact ho.trans _ _ _ hq this
theorem down_leaf {v : Nat → α} {m s i : Nat} (h : DownInv lt v m s i) (hl : m ≤ 2 * i + 1) : HeapFrom lt v m s := fun c h0 hm hs => h.1 c h0 hm hs (by omega)
theorem down_stop (ho : OrdL lt) {v : Nat → α} {m s i j : Nat} (h : DownInv lt v m s i) (hj : j = 2 * i + 1 ∨ j = 2 * i + 2) (hm : j < m) (hmin : ∀ c, c < m → c = 2 * i + 1 ∨ c = 2 * i + 2 → lt (v c) (v j) = false) (hle : lt (v j) (v i) = false) : HeapFrom lt v m s := fun c h0 cm hs => by
  by_cases e : (c - 1) / 2 = i
  · rw [e]
    exact ho.trans _ _ _ hle (hmin c cm (by omega))
  · exact h.1 c h0 cm hs e
theorem down_step (ho : OrdL lt) {v : Nat → α} {m s i j : Nat} (h : DownInv lt v m s i) (hs : s ≤ i) (hj : j = 2 * i + 1 ∨ j = 2 * i + 2) (hm : j < m) (hmin : ∀ c, c < m → c = 2 * i + 1 ∨ c = 2 * i + 2 → lt (v c) (v j) = false) (hlt : lt (v j) (v i) = true) : DownInv lt (swapV v i j) m s j := by
  have hpj : (j - 1) / 2 = i := by omega
  refine ⟨fun c c0 cm cs ce => ?_, fun c c0 cm ce j0 js => ?_⟩
  · unfold swapV
    by_cases e1 : c = i
    · subst e1
      rw [if_pos rfl, if_neg (by omega), if_neg (by omega)]
      exact h.2 j (by omega) hm hpj c0 cs
    · rw [if_neg e1]
      by_cases e2 : c = j
      · subst e2
        rw [if_pos rfl, if_pos hpj]
        exact ho.asym _ _ hlt
      · rw [if_neg e2]
        by_cases e3 : (c - 1) / 2 = i
        · rw [if_pos e3]
          exact hmin c cm (by omega)
        · rw [if_neg e3, if_neg ce]
          exact h.1 c c0 cm cs e3
  · unfold swapV
    rw [if_neg (by omega), if_neg (by omega), if_pos hpj]
    have := h.1 c c0 cm (by omega) (by omega)
    rw [ce] at this
    exact this
theorem up_start {v : Nat → α} {m : Nat} (h : HeapFrom lt v m 0) : UpInv lt v (m + 1) m := ⟨fun c c0 cm ce => h c c0 (by omega) (by omega), fun c c0 cm ce m0 => by omega⟩
theorem pop_start {v w : Nat → α} {m : Nat} (h : HeapFrom lt v (m + 1) 0) (hw : ∀ c, 0 < c → c < m → w c = v c) : DownInv lt w m 0 0 := ⟨fun c c0 cm _ ce => by
  rw [hw c c0 cm, hw ((c - 1) / 2) (by omega) (by omega)]
  exact h c c0 (by omega) (by omega), fun c c0 cm ce s0 _ => by omega⟩
theorem heap_root (ho : OrdL lt) {v : Nat → α} {m : Nat} (h : HeapFrom lt v m 0) : ∀ c, c < m → lt (v c) (v 0) = false := by
  intro c
  induction c using Nat.strongRecOn with
  | _ c ih =>
    intro cm
    by_cases c0 : c = 0
    · subst c0; exact ho.irr _
    · exact ho.trans _ _ _ (ih ((c - 1) / 2) (by omega) (by omega)) (h c (by omega) cm (Nat.zero_le _))
def listV (v : Nat → α) (m : Nat) : List α := (List.range m).map v
theorem listV_len (v : Nat → α) (m : Nat) : (listV v m).length = m := by unfold listV; rw [List.length_map, List.length_range]
theorem listV_at (v : Nat → α) {m i : Nat} (h : i < m) : (listV v m)[i]? = some (v i) := by unfold listV; rw [List.getElem?_map, List.getElem?_range h]; rfl
theorem listV_succ (v : Nat → α) (m : Nat) : listV v (m + 1) = listV v m ++ [v m] := by unfold listV; rw [List.range_succ, List.map_append]; rfl
theorem swapV_perm (v : Nat → α) {m i j : Nat} (hi : i < m) (hj : j < m) : (listV (swapV v i j) m).Perm (listV v m) := by
  let σ : Nat → Nat := fun k => if k = i then j else if k = j then i else k
  have e : listV (swapV v i j) m = ((List.range m).map σ).map v := by
    unfold listV
    rw [List.map_map]
    apply List.map_congr_left
    intro k _
    show swapV v i j k = v (if k = i then j else if k = j then i else k)
    unfold swapV
    by_cases h1 : k = i
    · rw [if_pos h1, if_pos h1]
    · rw [if_neg h1, if_neg h1]
      by_cases h2 : k = j
      · rw [if_pos h2, if_pos h2]
      · rw [if_neg h2, if_neg h2]
  have hinv : ∀ k, σ (σ k) = k := fun k => by
    show (if (if k = i then j else if k = j then i else k) = i then j else if (if k = i then j else if k = j then i else k) = j then i else (if k = i then j else if k = j then i else k)) = k
    by_cases h1 : k = i
    · subst h1
      rw [if_pos rfl]
      by_cases h2 : j = k
      · rw [if_pos h2]; exact h2
      · rw [if_neg h2, if_pos rfl]
    · rw [if_neg h1]
      by_cases h2 : k = j
      · rw [if_pos h2, if_pos rfl]; exact h2.symm
      · rw [if_neg h2, if_neg h1, if_neg h2]
  have hlt : ∀ k, k < m → σ k < m := fun k hk => by
    show (if k = i then j else if k = j then i else k) < m
    split
    · exact hj
    · split
      · exact hi
      · exact hk
  have hp : ((List.range m).map σ).Perm (List.range m) := by
    rw [List.perm_ext_iff_of_nodup]
    · intro k
      rw [List.mem_map, List.mem_range]
      constructor
      · rintro ⟨q, hq, rfl⟩
        exact hlt q (List.mem_range.1 hq)
      · intro hk
        exact ⟨σ k, List.mem_range.2 (hlt k hk), hinv k⟩
    · refine List.pairwise_map.2 ((List.nodup_range).imp fun {a b} hab h => hab ?_)
      have := congrArg σ h
      rwa [hinv, hinv] at this
    · exact List.nodup_range
  rw [e]
  exact hp.map v
def upF (lt : α → α → Bool) : Nat → (Nat → α) → Nat → Nat → α
  | 0, v, _ => v
  | n + 1, v, j => if j ≠ 0 ∧ lt (v j) (v ((j - 1) / 2)) = true then upF lt n (swapV v ((j - 1) / 2) j) ((j - 1) / 2) else v
def minC (lt : α → α → Bool) (v : Nat → α) (m i : Nat) : Nat := if 2 * i + 2 < m ∧ lt (v (2 * i + 2)) (v (2 * i + 1)) = true then 2 * i + 2 else 2 * i + 1
def downF (lt : α → α → Bool) (m : Nat) : Nat → (Nat → α) → Nat → Nat → α
  | 0, v, _ => v
  | n + 1, v, i => if 2 * i + 1 < m ∧ lt (v (minC lt v m i)) (v i) = true then downF lt m n (swapV v i (minC lt v m i)) (minC lt v m i) else v
theorem minC_or (lt : α → α → Bool) (v : Nat → α) (m i : Nat) : minC lt v m i = 2 * i + 1 ∨ minC lt v m i = 2 * i + 2 := by unfold minC; split <;> omega
theorem minC_lt {v : Nat → α} {m i : Nat} (h : 2 * i + 1 < m) : minC lt v m i < m := by unfold minC; split <;> omega
theorem minC_min (ho : OrdL lt) {v : Nat → α} {m i : Nat} : ∀ c, c < m → c = 2 * i + 1 ∨ c = 2 * i + 2 → lt (v c) (v (minC lt v m i)) = false := fun c cm hc => by
  unfold minC
  by_cases h : 2 * i + 2 < m ∧ lt (v (2 * i + 2)) (v (2 * i + 1)) = true
  · rw [if_pos h]
    rcases hc with rfl | rfl
    · exact ho.asym _ _ h.2
    · exact ho.irr _
  · rw [if_neg h]
    rcases hc with rfl | rfl
    · exact ho.irr _
    · cases e : lt (v (2 * i + 2)) (v (2 * i + 1)) with
      | false => rfl
      | true => exact absurd ⟨cm, e⟩ h
theorem upF_heap (ho : OrdL lt) {m : Nat} : ∀ {n : Nat} {v : Nat → α} {j : Nat}, UpInv lt v m j → j < m → j ≤ n → HeapFrom lt (upF lt n v j) m 0 ∧ (listV (upF lt n v j) m).Perm (listV v m)
  | 0, v, j, h, _, hn => by
    have e : j = 0 := by omega
    subst e
    exact ⟨up_root h, List.Perm.refl _⟩
  | n + 1, v, j, h, hm, hn => by
    unfold upF
    by_cases c : j ≠ 0 ∧ lt (v j) (v ((j - 1) / 2)) = true
    · rw [if_pos c]
      obtain ⟨h1, h2⟩ := upF_heap ho (n := n) (up_step ho h hm (by omega) c.2) (by omega) (by omega)
      exact ⟨h1, h2.trans (swapV_perm v (by omega) hm)⟩
    · rw [if_neg c]
      refine ⟨?_, List.Perm.refl _⟩
      by_cases j0 : j = 0
      · subst j0; exact up_root h
      · refine up_stop h ?_
        cases e : lt (v j) (v ((j - 1) / 2)) with
        | false => rfl
        | true => exact absurd ⟨j0, e⟩ c
theorem swapV_out (v : Nat → α) {i j k : Nat} (h1 : k ≠ i) (h2 : k ≠ j) : swapV v i j k = v k := by unfold swapV; rw [if_neg h1, if_neg h2]
theorem downF_heap (ho : OrdL lt) {m s : Nat} : ∀ {n : Nat} {v : Nat → α} {i : Nat}, DownInv lt v m s i → s ≤ i → m ≤ n + i → HeapFrom lt (downF lt m n v i) m s ∧ (listV (downF lt m n v i) m).Perm (listV v m) ∧ ∀ k, m ≤ k → downF lt m n v i k = v k
  | 0, v, i, h, _, hn => ⟨down_leaf h (by omega), List.Perm.refl _, fun _ _ => rfl⟩
  | n + 1, v, i, h, hs, hn => by
    unfold downF
    by_cases c : 2 * i + 1 < m ∧ lt (v (minC lt v m i)) (v i) = true
    · rw [if_pos c]
      have ho2 := minC_or lt v m i
      have hl := minC_lt (lt := lt) (v := v) c.1
      obtain ⟨h1, h2, h3⟩ := downF_heap ho (n := n) (down_step ho h hs ho2 hl (minC_min ho) c.2) (by omega) (by omega)
      exact ⟨h1, h2.trans (swapV_perm v (by omega) hl), fun k hk => by rw [h3 k hk, swapV_out v (by omega) (by omega)]⟩
    · rw [if_neg c]
      refine ⟨?_, List.Perm.refl _, fun _ _ => rfl⟩
      by_cases hl : 2 * i + 1 < m
      · refine down_stop ho h (minC_or lt v m i) (minC_lt hl) (minC_min ho) ?_
        cases e : lt (v (minC lt v m i)) (v i) with
        | false => rfl
        | true => exact absurd ⟨hl, e⟩ c
      · exact down_leaf h (by omega)
end
end Go.Proofs.Ytkdbkgfdggbhkaa
end
section
namespace Go.Lg
open Go Go.RowKit
section
variable {P : Program} {n : Nat} {ops os : List Oper} {acc : List Eff} {K : List Eff → St → Prop} {s : List (Nat × LV)} {bx : List (Nat × Option Box)} {X : Nat → Option Obj}
theorem kmv {d : Nat} {x : Operand} {ty : TypeId} {pos : String} {after : Array Edge} {lv : LV} (hx : (⟨s, bx, X⟩ : St).ev x = some lv) (kont : RunK P n ops os ⟨(d, lv) :: s, bx, X⟩ (⟨[(d, lv)], [], []⟩ :: acc) K) :
    RunK P n ops (⟨some d, .move x, ty, pos, after, none⟩ :: os) ⟨s, bx, X⟩ acc K := Go.Lg.K.move hx .plain kont
theorem gmv {d : Nat} {x : Operand} {ty : TypeId} {pos : String} {after : Array Edge} {lv : LV} (hx : (⟨s, bx, X⟩ : St).ev x = some lv) {gj gt : Nat} {gb : Bool} (g1 : (ops[gj]?).bind (·.dst) = some gt) (g2 : look gt s = some (.sv (.one (.val (.bool gb))))) (kont : RunK P n ops os ⟨(d, lv) :: s, bx, X⟩ (⟨[(d, lv)], [], []⟩ :: acc) K) :
    RunK P n ops (⟨some d, .move x, ty, pos, after, some (gj, gb)⟩ :: os) ⟨s, bx, X⟩ acc K := Go.Lg.K.move hx (.taken g1 g2) kont
theorem kas {d : Nat} {x : Operand} {ty : TypeId} {pos : String} {after : Array Edge} {lv : LV} (hx : (⟨s, bx, X⟩ : St).ev x = some lv) (kont : RunK P n ops os ⟨(d, lv) :: s, bx, X⟩ (⟨[(d, lv)], [], []⟩ :: acc) K) :
    RunK P n ops (⟨some d, .assign x, ty, pos, after, none⟩ :: os) ⟨s, bx, X⟩ acc K := Go.Lg.K.assign hx .plain kont
theorem kpt {d : Nat} {c x y : Operand} {ty : TypeId} {pos : String} {after : Array Edge} {lv : LV} (hc : (⟨s, bx, X⟩ : St).ev c = some (.sv (.one (.val (.bool true))))) (hx : (⟨s, bx, X⟩ : St).ev x = some lv) (kont : RunK P n ops os ⟨(d, lv) :: s, bx, X⟩ (⟨[(d, lv)], [], []⟩ :: acc) K) :
    RunK P n ops (⟨some d, .pick c x y, ty, pos, after, none⟩ :: os) ⟨s, bx, X⟩ acc K := Go.Lg.K.pickT hc hx .plain kont
theorem kpf {d : Nat} {c x y : Operand} {ty : TypeId} {pos : String} {after : Array Edge} {lv : LV} (hc : (⟨s, bx, X⟩ : St).ev c = some (.sv (.one (.val (.bool false))))) (hy : (⟨s, bx, X⟩ : St).ev y = some lv) (kont : RunK P n ops os ⟨(d, lv) :: s, bx, X⟩ (⟨[(d, lv)], [], []⟩ :: acc) K) :
    RunK P n ops (⟨some d, .pick c x y, ty, pos, after, none⟩ :: os) ⟨s, bx, X⟩ acc K := Go.Lg.K.pickF hc hy .plain kont
theorem kex {s0 : List (Nat × LV)} {d : Nat} {x : Operand} {i : Nat} {ty : TypeId} {pos : String} {after : Array Edge} {l : List SV} {s : SV} (hx : (⟨s0, bx, X⟩ : St).ev x = some (.tup l)) (hi : l[i]? = some s) (kont : RunK P n ops os ⟨(d, .sv s) :: s0, bx, X⟩ (⟨[(d, .sv s)], [], []⟩ :: acc) K) :
    RunK P n ops (⟨some d, .extract x i, ty, pos, after, none⟩ :: os) ⟨s0, bx, X⟩ acc K := Go.Lg.K.extract hx hi .plain kont
theorem kad {d : Nat} {t : TypeId} {t' : TypeId} {x : Operand} {y : Operand} {ty : TypeId} {pos : String} {after : Array Edge} {k : IntKind} {a : Int} {b : Int} {c : Int} (hx : (⟨s, bx, X⟩ : St).ev x = some (.sv (.one (.val (.int k a))))) (hy : (⟨s, bx, X⟩ : St).ev y = some (.sv (.one (.val (.int k b))))) (hc : k.wrap (a + b) = c) (kont : RunK P n ops os ⟨(d, .sv (.one (.val (.int k c)))) :: s, bx, X⟩ (⟨[(d, .sv (.one (.val (.int k c))))], [], []⟩ :: acc) K) :
    RunK P n ops (⟨some d, .binOp .add t x y t', ty, pos, after, none⟩ :: os) ⟨s, bx, X⟩ acc K := Go.Lg.K.add hx hy hc .plain kont
theorem keq {d : Nat} {t : TypeId} {t' : TypeId} {x : Operand} {y : Operand} {ty : TypeId} {pos : String} {after : Array Edge} {k : IntKind} {a : Int} {b : Int} {r : Bool} (hx : (⟨s, bx, X⟩ : St).ev x = some (.sv (.one (.val (.int k a))))) (hy : (⟨s, bx, X⟩ : St).ev y = some (.sv (.one (.val (.int k b))))) (hc : (a == b) = r) (kont : RunK P n ops os ⟨(d, .sv (.one (.val (.bool r)))) :: s, bx, X⟩ (⟨[(d, .sv (.one (.val (.bool r))))], [], []⟩ :: acc) K) :
    RunK P n ops (⟨some d, .binOp .eql t x y t', ty, pos, after, none⟩ :: os) ⟨s, bx, X⟩ acc K := Go.Lg.K.eql hx hy hc .plain kont
theorem kne {d : Nat} {t : TypeId} {t' : TypeId} {x : Operand} {y : Operand} {ty : TypeId} {pos : String} {after : Array Edge} {k : IntKind} {a : Int} {b : Int} {r : Bool} (hx : (⟨s, bx, X⟩ : St).ev x = some (.sv (.one (.val (.int k a))))) (hy : (⟨s, bx, X⟩ : St).ev y = some (.sv (.one (.val (.int k b))))) (hc : (a != b) = r) (kont : RunK P n ops os ⟨(d, .sv (.one (.val (.bool r)))) :: s, bx, X⟩ (⟨[(d, .sv (.one (.val (.bool r))))], [], []⟩ :: acc) K) :
    RunK P n ops (⟨some d, .binOp .neq t x y t', ty, pos, after, none⟩ :: os) ⟨s, bx, X⟩ acc K := Go.Lg.K.neq hx hy hc .plain kont
theorem klt {d : Nat} {t : TypeId} {t' : TypeId} {x : Operand} {y : Operand} {ty : TypeId} {pos : String} {after : Array Edge} {k : IntKind} {a : Int} {b : Int} {r : Bool} (hx : (⟨s, bx, X⟩ : St).ev x = some (.sv (.one (.val (.int k a))))) (hy : (⟨s, bx, X⟩ : St).ev y = some (.sv (.one (.val (.int k b))))) (hc : decide (a < b) = r) (kont : RunK P n ops os ⟨(d, .sv (.one (.val (.bool r)))) :: s, bx, X⟩ (⟨[(d, .sv (.one (.val (.bool r))))], [], []⟩ :: acc) K) :
    RunK P n ops (⟨some d, .binOp .lss t x y t', ty, pos, after, none⟩ :: os) ⟨s, bx, X⟩ acc K := Go.Lg.K.lss hx hy hc .plain kont
theorem kca {d : Nat} {f : FuncId} {args : List Operand} {tys : Array TypeId} {ty : TypeId} {pos : String} {after : Array Edge} {lvs : List LV} {r : LV} (hargs : evs ⟨s, bx, X⟩ args = some lvs) (hcl : lvs.all LV.closed = true) (hs : PSpec P X f lvs r) (kont : RunK P n ops os ⟨(d, r) :: s, bx, X⟩ (⟨[(d, r)], [], []⟩ :: acc) K) :
    RunK P n ops (⟨some d, .call ⟨.value (.func f), args.toArray, tys⟩, ty, pos, after, none⟩ :: os) ⟨s, bx, X⟩ acc K := Go.Lg.K.call hargs hcl hs .plain kont
theorem gca {d : Nat} {f : FuncId} {args : List Operand} {tys : Array TypeId} {ty : TypeId} {pos : String} {after : Array Edge} {lvs : List LV} {r : LV} (hargs : evs ⟨s, bx, X⟩ args = some lvs) (hcl : lvs.all LV.closed = true) (hs : PSpec P X f lvs r) {gj gt : Nat} {gb : Bool} (g1 : (ops[gj]?).bind (·.dst) = some gt) (g2 : look gt s = some (.sv (.one (.val (.bool gb))))) (kont : RunK P n ops os ⟨(d, r) :: s, bx, X⟩ (⟨[(d, r)], [], []⟩ :: acc) K) :
    RunK P n ops (⟨some d, .call ⟨.value (.func f), args.toArray, tys⟩, ty, pos, after, some (gj, gb)⟩ :: os) ⟨s, bx, X⟩ acc K := Go.Lg.K.call hargs hcl hs (.taken g1 g2) kont
theorem kl1 {d : Nat} {t : TypeId} {x : Operand} {ty : TypeId} {pos : String} {after : Array Edge} {k off : Nat} {e : TypeId} {cs : List CV} {row : Bool} {c : CV} [i : OneT P t] (hx : (⟨s, bx, X⟩ : St).ev x = some (.sv (.one (.ptr k off)))) (hk : (⟨s, bx, X⟩ : St).stat k = some (some ⟨e, cs, row⟩)) (hc : cs[off]? = some c) (kont : RunK P n ops os ⟨(d, .sv (.one c)) :: s, bx, X⟩ (⟨[(d, .sv (.one c))], [k], []⟩ :: acc) K) :
    RunK P n ops (⟨some d, .load t x, ty, pos, after, none⟩ :: os) ⟨s, bx, X⟩ acc K := Go.Lg.K.loadOne hx hk hc .plain kont
theorem kfa {d : Nat} {t : TypeId} {x : Operand} {ty : TypeId} {pos : String} {after : Array Edge} {i k off o m : Nat} [f : FieldT P t i o m] (hx : (⟨s, bx, X⟩ : St).ev x = some (.sv (.one (.ptr k off)))) {off' : Nat} (ho : Nat.add off o = off') (kont : RunK P n ops os ⟨(d, .sv (.one (.ptr k off'))) :: s, bx, X⟩ (⟨[(d, .sv (.one (.ptr k off')))], [], []⟩ :: acc) K) :
    RunK P n ops (⟨some d, .fieldAddr t x i, ty, pos, after, none⟩ :: os) ⟨s, bx, X⟩ acc K := Go.Lg.K.fieldAddr hx ho .plain kont
theorem kcv {d : Nat} {t : TypeId} {t' : TypeId} {x : Operand} {ty : TypeId} {pos : String} {after : Array Edge} {k k' : IntKind} {a c : Int} {ks : IntKind} [i : IntT P t ks] [i' : IntT P t' k'] (hx : (⟨s, bx, X⟩ : St).ev x = some (.sv (.one (.val (.int k a))))) (hc : k'.wrap a = c) (kont : RunK P n ops os ⟨(d, .sv (.one (.val (.int k' c)))) :: s, bx, X⟩ (⟨[(d, .sv (.one (.val (.int k' c))))], [], []⟩ :: acc) K) :
    RunK P n ops (⟨some d, .convert t t' x, ty, pos, after, none⟩ :: os) ⟨s, bx, X⟩ acc K := Go.Lg.K.conv hx hc .plain kont
end
end Go.Lg
end
