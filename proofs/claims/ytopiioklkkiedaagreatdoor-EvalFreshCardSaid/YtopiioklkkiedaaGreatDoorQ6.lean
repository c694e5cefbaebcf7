/- A piece of a proof over this program: contracts of its functions, and a logic to prove them by. -/
import Derived.Test.YtopiioklkkiedaaGreatDoorQ5
section
namespace Go.Lg
open Go Go.RowKit
def CV.fix (k b : Nat) : CV → CV
  | .ptr k' off => cond (Nat.beq k' k) (.val (.pointer (some ⟨b, off, none⟩))) (.ptr k' off)
  | .fn fi gi k' => cond (Nat.beq k' k) (.val (.func fi #[] (gi b).toArray)) (.fn fi gi k')
  | .hang g h k' => cond (Nat.beq k' k) (.val (g b)) (.hang g h k')
  | c => c
def SV.fix (k b : Nat) : SV → SV
  | .one c => .one (c.fix k b)
  | .agg l => .agg (l.map (CV.fix k b))
def LV.fix (k b : Nat) : LV → LV
  | .sv s => .sv (s.fix k b)
  | .tup l => .tup (l.map (SV.fix k b))
def Box.fix (k b : Nat) (x : Box) : Box := ⟨x.elem, x.cells.map (CV.fix k b), x.row⟩
def CV.fixIn (k : Nat) (B : List (Nat × Option Box)) : CV → Bool
  | .ptr k' _ => Nat.beq k' k || (look k' B).isSome
  | .fn _ _ k' => Nat.beq k' k || (look k' B).isSome
  | .hang _ _ k' => Nat.beq k' k || (look k' B).isSome
  | c => c.inUse B
def SV.fixIn (k : Nat) (B : List (Nat × Option Box)) : SV → Bool
  | .one c => c.fixIn k B
  | .agg l => l.all (CV.fixIn k B)
def LV.fixIn (k : Nat) (B : List (Nat × Option Box)) : LV → Bool
  | .sv s => s.fixIn k B
  | .tup l => l.all (SV.fixIn k B)
def fixS (k b : Nat) (s : List (Nat × LV)) : List (Nat × LV) := s.map fun p => (p.1, p.2.fix k b)
def fixB (k b : Nat) (s : List (Nat × Option Box)) : List (Nat × Option Box) := s.map fun p => (p.1, p.2.map (Box.fix k b))
section
variable {S T : Nat → Option (Option Box)} {ι : Nat → Nat × Nat} {B : List (Nat × Option Box)} {k : Nat}
def Stay (B : List (Nat × Option Box)) (S T : Nat → Option (Option Box)) : Prop := ∀ k', (look k' B).isSome = true → ∃ x y, T k' = some x ∧ S k' = some y ∧ x.isSome = y.isSome
theorem CV.rel_stay (hT : Stay B S T) {c : CV} (hu : c.inUse B = true) {v : Value} (hr : c.rel S ι v) : c.rel T ι v := by
  cases c with
  | val u => exact hr
  | junk => trivial
  | ptr k' off =>
    obtain ⟨x, y, h1, h2, h3⟩ := hT k' hu
    simp only [CV.rel, h1, h2] at hr ⊢
    cases x <;> cases y <;> first | exact hr | cases h3
  | slc k' off n sz =>
    obtain ⟨x, y, h1, h2, h3⟩ := hT k' hu
    simp only [CV.rel, h1, h2] at hr ⊢
    cases x <;> cases y <;> first | exact hr | cases h3
  | mp k' =>
    obtain ⟨x, y, h1, h2, h3⟩ := hT k' hu
    simp only [CV.rel, h1, h2] at hr ⊢
    cases x <;> cases y <;> first | exact hr | cases h3
  | fn fi gi k' =>
    obtain ⟨x, y, h1, h2, h3⟩ := hT k' hu
    simp only [CV.rel, h1, h2] at hr ⊢
    cases x <;> cases y <;> first | exact hr | cases h3
  | hang g hg k' =>
    obtain ⟨x, y, h1, h2, h3⟩ := hT k' hu
    simp only [CV.rel, h1, h2] at hr ⊢
    cases x <;> cases y <;> first | exact hr | cases h3
theorem CV.rel_fix (hT : Stay B S T) (hk : ∃ b, S k = some (some b)) {c : CV} (hu : c.fixIn k B = true) {v : Value} (hr : c.rel S ι v) : (c.fix k (ι k).1).rel T ι v := by
  obtain ⟨b, hb⟩ := hk
  cases c with
  | val u => exact hr
  | junk => trivial
  | ptr k' off =>
    simp only [CV.fixIn, Bool.or_eq_true] at hu
    cases e : Nat.beq k' k with
    | true =>
      have e' := Nat.eq_of_beq_eq_true e
      subst e'
      simp only [CV.fix, e, cond_true]
      simp only [CV.rel, hb] at hr
      exact hr
    | false =>
      simp only [CV.fix, e, cond_false]
      rw [e] at hu
      exact CV.rel_stay (c := .ptr k' off) hT (hu.resolve_left (by decide)) hr
  | slc k' off n sz => exact CV.rel_stay (c := .slc k' off n sz) hT hu hr
  | mp k' => exact CV.rel_stay (c := .mp k') hT hu hr
  | fn fi gi k' =>
    simp only [CV.fixIn, Bool.or_eq_true] at hu
    cases e : Nat.beq k' k with
    | true =>
      have e' := Nat.eq_of_beq_eq_true e
      subst e'
      simp only [CV.fix, e, cond_true]
      simp only [CV.rel, hb] at hr
      exact hr
    | false =>
      simp only [CV.fix, e, cond_false]
      rw [e] at hu
      exact CV.rel_stay (c := .fn fi gi k') hT (hu.resolve_left (by decide)) hr
  | hang g hg k' =>
    simp only [CV.fixIn, Bool.or_eq_true] at hu
    cases e : Nat.beq k' k with
    | true =>
      have e' := Nat.eq_of_beq_eq_true e
      subst e'
      simp only [CV.fix, e, cond_true]
      simp only [CV.rel, hb] at hr
      exact hr
    | false =>
      simp only [CV.fix, e, cond_false]
      rw [e] at hu
      exact CV.rel_stay (c := .hang g hg k') hT (hu.resolve_left (by decide)) hr
theorem CVs.rel_stay (hT : Stay B S T) : ∀ {l : List CV} {vs : List Value}, l.all (CV.inUse B) = true → CVs.rel S ι l vs → CVs.rel T ι l vs
  | [], [], _, _ => trivial
  | _ :: _, _ :: _, hu, hr => by
    simp only [List.all_cons, Bool.and_eq_true] at hu
    exact ⟨CV.rel_stay hT hu.1 hr.1, CVs.rel_stay hT hu.2 hr.2⟩
  | [], _ :: _, _, hr => hr.elim
  | _ :: _, [], _, hr => hr.elim
theorem CVs.rel_fix (hT : Stay B S T) (hk : ∃ b, S k = some (some b)) : ∀ {l : List CV} {vs : List Value}, l.all (CV.fixIn k B) = true → CVs.rel S ι l vs → CVs.rel T ι (l.map (CV.fix k (ι k).1)) vs
  | [], [], _, _ => trivial
  | _ :: _, _ :: _, hu, hr => by
    simp only [List.all_cons, Bool.and_eq_true] at hu
    exact ⟨CV.rel_fix hT hk hu.1 hr.1, CVs.rel_fix hT hk hu.2 hr.2⟩
  | [], _ :: _, _, hr => hr.elim
  | _ :: _, [], _, hr => hr.elim
theorem SV.rel_stay (hT : Stay B S T) {s : SV} (hu : s.inUse B = true) {v : Value} (hr : s.rel S ι v) : s.rel T ι v := by
  cases s with
  | one c => exact CV.rel_stay hT hu hr
  | agg l => obtain ⟨arr, e, hl⟩ := hr; exact ⟨arr, e, CVs.rel_stay hT hu hl⟩
theorem SV.rel_fix (hT : Stay B S T) (hk : ∃ b, S k = some (some b)) {s : SV} (hu : s.fixIn k B = true) {v : Value} (hr : s.rel S ι v) : (s.fix k (ι k).1).rel T ι v := by
  cases s with
  | one c => exact CV.rel_fix hT hk hu hr
  | agg l => obtain ⟨arr, e, hl⟩ := hr; exact ⟨arr, e, CVs.rel_fix hT hk hu hl⟩
theorem SVs.rel_stay (hT : Stay B S T) : ∀ {l : List SV} {vs : List Value}, l.all (SV.inUse B) = true → SVs.rel S ι l vs → SVs.rel T ι l vs
  | [], [], _, _ => trivial
  | _ :: _, _ :: _, hu, hr => by
    simp only [List.all_cons, Bool.and_eq_true] at hu
    exact ⟨SV.rel_stay hT hu.1 hr.1, SVs.rel_stay hT hu.2 hr.2⟩
  | [], _ :: _, _, hr => hr.elim
  | _ :: _, [], _, hr => hr.elim
theorem SVs.rel_fix (hT : Stay B S T) (hk : ∃ b, S k = some (some b)) : ∀ {l : List SV} {vs : List Value}, l.all (SV.fixIn k B) = true → SVs.rel S ι l vs → SVs.rel T ι (l.map (SV.fix k (ι k).1)) vs
  | [], [], _, _ => trivial
  | _ :: _, _ :: _, hu, hr => by
    simp only [List.all_cons, Bool.and_eq_true] at hu
    exact ⟨SV.rel_fix hT hk hu.1 hr.1, SVs.rel_fix hT hk hu.2 hr.2⟩
  | [], _ :: _, _, hr => hr.elim
  | _ :: _, [], _, hr => hr.elim
theorem LV.rel_stay (hT : Stay B S T) {s : LV} (hu : s.inUse B = true) {v : Value} (hr : s.rel S ι v) : s.rel T ι v := by
  cases s with
  | sv s => exact SV.rel_stay hT hu hr
  | tup l => obtain ⟨arr, e, hl⟩ := hr; exact ⟨arr, e, SVs.rel_stay hT hu hl⟩
theorem LV.rel_fix (hT : Stay B S T) (hk : ∃ b, S k = some (some b)) {s : LV} (hu : s.fixIn k B = true) {v : Value} (hr : s.rel S ι v) : (s.fix k (ι k).1).rel T ι v := by
  cases s with
  | sv s => exact SV.rel_fix hT hk hu hr
  | tup l => obtain ⟨arr, e, hl⟩ := hr; exact ⟨arr, e, SVs.rel_fix hT hk hu hl⟩
theorem Box.rel_stay (hT : Stay B S T) {b : Box} (hu : b.cells.all (CV.inUse B) = true) {vs : List Value} (hr : b.rel S ι vs) : b.rel T ι vs := by
  unfold Box.rel at hr ⊢
  cases hb : b.row with
  | res R => rw [hb] at hr; exact hr.elim
  | bool r =>
    cases r with
    | false => rw [hb] at hr; exact CVs.rel_stay hT hu hr
    | true => rw [hb] at hr; obtain ⟨us, sp, e, hl⟩ := hr; exact ⟨us, sp, e, CVs.rel_stay hT hu hl⟩
theorem Box.rel_fix (hT : Stay B S T) (hk : ∃ b, S k = some (some b)) {b : Box} (hu : b.cells.all (CV.fixIn k B) = true) {vs : List Value} (hr : b.rel S ι vs) : (b.fix k (ι k).1).rel T ι vs := by
  obtain ⟨e, cs, r⟩ := b
  unfold Box.rel at hr ⊢
  simp only [Box.fix] at hu hr ⊢
  cases r with
  | res R => exact hr.elim
  | bool r =>
    cases r with
    | false => exact CVs.rel_fix hT hk hu hr
    | true => obtain ⟨us, sp, e, hl⟩ := hr; exact ⟨us, sp, e, CVs.rel_fix hT hk hu hl⟩
end
theorem look_fixS (k b d : Nat) (s : List (Nat × LV)) : look d (fixS k b s) = (look d s).map (LV.fix k b) := by
  induction s with
  | nil => rfl
  | cons p s ih =>
    obtain ⟨d', lv⟩ := p
    show cond (Nat.beq d' d) _ (look d (fixS k b s)) = (cond (Nat.beq d' d) _ (look d s)).map _
    cases Nat.beq d' d with
    | true => rfl
    | false => exact ih
theorem look_fixB (k b d : Nat) (s : List (Nat × Option Box)) : look d (fixB k b s) = (look d s).map (fun x => x.map (Box.fix k b)) := by
  induction s with
  | nil => rfl
  | cons p s ih =>
    obtain ⟨d', lv⟩ := p
    show cond (Nat.beq d' d) _ (look d (fixB k b s)) = (cond (Nat.beq d' d) _ (look d s)).map _
    cases Nat.beq d' d with
    | true => rfl
    | false => exact ih
section
variable {P : Program} {n : Nat} {C : Ctx} {c : Code} {Q : Exit → St → Prop} {X : Nat → Option Obj}
theorem Rel.fixN {ι : Nat → Nat × Nat} {a : Act} {w : World} {s0 s : List (Nat × LV)} {b0 bx : List (Nat × Option Box)} {k : Nat} {b : Box} {H : Nat → Option Obj} {F : Nat → Nat → Option Obj}
    (hk : look k (b0 ++ bx) = none) (hs : s.all (fun p => p.2.inUse (b0 ++ bx)) = true) (hb : bx.all (fun p => match p.2 with | some b => b.cells.all (CV.inUse (b0 ++ bx)) | none => true) = true)
    (hs0 : s0.all (fun p => p.2.fixIn k (b0 ++ bx)) = true) (hb0 : b0.all (fun p => match p.2 with | some b => b.cells.all (CV.fixIn k (b0 ++ bx)) | none => true) = true)
    (hr : Rel n C ι ⟨s0 ++ s, b0 ++ (k, some b) :: bx, X⟩ a w)
    (hH : ∀ i o, H i = some o → w.heap[i]? = some o ∧ X i = none ∧ ∀ j bj, (⟨s0 ++ s, b0 ++ (k, some b) :: bx, X⟩ : St).stat j = some (some bj) → (ι j).1 = i → j = k)
    (hF : ResAt (fun b => C.own b ∨ C.w0.heap.size ≤ b) ι F (⟨s0 ++ s, b0 ++ (k, some b) :: bx, X⟩ : St).stat X w) (hFH : ∀ j, j ≠ k → ∀ i, F j i ≠ none → H i = none) :
    Rel n C ι ⟨fixS k (ι k).1 s0 ++ s, fixB k (ι k).1 b0 ++ bx, joinM X H⟩ a w := by
  have hk1 : look k b0 = none ∧ look k bx = none := by
    rw [look_append] at hk
    cases h : look k b0 with
    | none => rw [h] at hk; exact ⟨rfl, hk⟩
    | some x => rw [h] at hk; cases hk
  have hstat : ∀ j, (⟨s0 ++ s, b0 ++ (k, some b) :: bx, X⟩ : St).stat j = (look j b0).or (if j = k then some (some b) else look j bx) := fun j => by
    show look j (b0 ++ (k, some b) :: bx) = _
    rw [look_append]
    have := stat_cons [] bx X k j (some b)
    simp only [St.stat] at this
    rw [this]
  have hnew : ∀ j, (⟨fixS k (ι k).1 s0 ++ s, fixB k (ι k).1 b0 ++ bx, joinM X H⟩ : St).stat j = ((look j b0).map (fun x => x.map (Box.fix k (ι k).1))).or (look j bx) := fun j => by
    show look j (fixB k (ι k).1 b0 ++ bx) = _
    rw [look_append, look_fixB]
  have hst : (⟨s0 ++ s, b0 ++ (k, some b) :: bx, X⟩ : St).stat k = some (some b) := by rw [hstat, hk1.1, if_pos rfl]; rfl
  have live : ∀ j x, (⟨fixS k (ι k).1 s0 ++ s, fixB k (ι k).1 b0 ++ bx, joinM X H⟩ : St).stat j = some x → j ≠ k ∧ ((∃ y, look j b0 = some y ∧ x = y.map (Box.fix k (ι k).1) ∧ (⟨s0 ++ s, b0 ++ (k, some b) :: bx, X⟩ : St).stat j = some y) ∨ (look j b0 = none ∧ look j bx = some x ∧ (⟨s0 ++ s, b0 ++ (k, some b) :: bx, X⟩ : St).stat j = some x)) := fun j x hj => by
    rw [hnew] at hj
    cases h0 : look j b0 with
    | some y =>
      rw [h0] at hj
      have hj : some (y.map (Box.fix k (ι k).1)) = some x := hj
      cases hj
      exact ⟨fun e => (by rw [e, hk1.1] at h0; cases h0), .inl ⟨y, rfl, rfl, by rw [hstat, h0]; rfl⟩⟩
    | none =>
      rw [h0] at hj
      have hj : look j bx = some x := hj
      have hne : j ≠ k := fun e => by rw [e, hk1.2] at hj; cases hj
      exact ⟨hne, .inr ⟨rfl, hj, by rw [hstat, h0, if_neg hne]; exact hj⟩⟩
  have hT : Stay (b0 ++ bx) (⟨s0 ++ s, b0 ++ (k, some b) :: bx, X⟩ : St).stat (⟨fixS k (ι k).1 s0 ++ s, fixB k (ι k).1 b0 ++ bx, joinM X H⟩ : St).stat := fun j hj => by
    rw [look_append] at hj
    rw [hnew, hstat]
    cases h0 : look j b0 with
    | some y =>
      refine ⟨y.map (Box.fix k (ι k).1), y, rfl, rfl, ?_⟩
      cases y <;> rfl
    | none =>
      rw [h0] at hj
      have hj : (look j bx).isSome = true := hj
      obtain ⟨x, hx⟩ := Option.isSome_iff_exists.1 hj
      have hne : j ≠ k := fun e => by rw [e, hk1.2] at hx; cases hx
      rw [if_neg hne, hx]
      exact ⟨x, x, rfl, rfl, rfl⟩
  have live2 : ∀ j bj, (⟨fixS k (ι k).1 s0 ++ s, fixB k (ι k).1 b0 ++ bx, joinM X H⟩ : St).stat j = some (some bj) → j ≠ k ∧ ∃ bj0, (⟨s0 ++ s, b0 ++ (k, some b) :: bx, X⟩ : St).stat j = some (some bj0) ∧ bj.row = bj0.row := fun j bj hj => by
    obtain ⟨hne, h⟩ := live j _ hj
    rcases h with ⟨y, _, h2, h3⟩ | ⟨_, _, h3⟩
    · cases y with
      | none => cases h2
      | some y =>
        have h2 : some bj = some (y.fix k (ι k).1) := h2
        cases h2
        exact ⟨hne, y, h3, rfl⟩
    · exact ⟨hne, bj, h3, rfl⟩
  have hHk : ∀ j bj, (⟨fixS k (ι k).1 s0 ++ s, fixB k (ι k).1 b0 ++ bx, joinM X H⟩ : St).stat j = some (some bj) → H (ι j).1 = none := fun j bj hj => by
    obtain ⟨hne, bj0, h1, _⟩ := live2 j bj hj
    cases hc : H (ι j).1 with
    | none => rfl
    | some o => exact absurd ((hH _ o hc).2.2 j bj0 h1 rfl) hne
  exact {
    defers := hr.defers, size := hr.size
    slots := fun d lv hd => by
      have hd : look d (fixS k (ι k).1 s0 ++ s) = some lv := hd
      rw [look_append, look_fixS] at hd
      cases h0 : look d s0 with
      | some lv0 =>
        rw [h0] at hd
        have hd : some (lv0.fix k (ι k).1) = some lv := hd
        cases hd
        obtain ⟨v, hv, hvr⟩ := hr.slots d lv0 (by show look d (s0 ++ s) = _; rw [look_append, h0]; rfl)
        exact ⟨v, hv, LV.rel_fix hT ⟨b, hst⟩ (List.all_eq_true.1 hs0 _ (look_mem h0)) hvr⟩
      | none =>
        rw [h0] at hd
        have hd : look d s = some lv := hd
        obtain ⟨v, hv, hvr⟩ := hr.slots d lv (by show look d (s0 ++ s) = _; rw [look_append, h0]; exact hd)
        exact ⟨v, hv, LV.rel_stay hT (List.all_eq_true.1 hs _ (look_mem hd)) hvr⟩
    boxes := fun j bj hj hbk => by
      obtain ⟨hne, h⟩ := live j _ hj
      rcases h with ⟨y, h1, h2, h3⟩ | ⟨h1, h2, h3⟩
      · cases y with
        | none => cases h2
        | some y =>
          have h2 : some bj = some (y.fix k (ι k).1) := h2
          cases h2
          obtain ⟨arr, fr, g1, g2, g3, g4⟩ := hr.boxes j y h3 hbk
          exact ⟨arr, fr, g1, g2, g3, Box.rel_fix hT ⟨b, hst⟩ (by simpa using List.all_eq_true.1 hb0 _ (look_mem h1)) g4⟩
      · obtain ⟨arr, fr, g1, g2, g3, g4⟩ := hr.boxes j bj h3 hbk
        exact ⟨arr, fr, g1, g2, g3, Box.rel_stay hT (by simpa using List.all_eq_true.1 hb _ (look_mem h2)) g4⟩
    own := fun j bj hj => by
      obtain ⟨hne, bj0, h1, _⟩ := live2 j bj hj
      obtain ⟨h2, h3⟩ := hr.own j bj0 h1
      exact ⟨h2, (joinM_out (hHk j bj hj)).trans h3⟩
    inj := fun i j bi bj hi hj he => by
      obtain ⟨_, bi0, h1, _⟩ := live2 i bi hi
      obtain ⟨_, bj0, h2, _⟩ := live2 j bj hj
      exact hr.inj i j bi0 bj0 h1 h2 he
    keep := fun j bj hj hge => by
      obtain ⟨_, bj0, h1, _⟩ := live2 j bj hj
      exact hr.keep j bj0 h1 hge
    ext := fun i o hi => by
      have hi : joinM X H i = some o := hi
      cases hc : H i with
      | none => rw [joinM_out hc] at hi; exact hr.ext i o hi
      | some o' =>
        rw [joinM_in hc] at hi
        cases hi
        exact (hH i o hc).1
    res := by
      refine ⟨fun j => open Classical in if j = k then fun _ => none else F j, fun j e' cs' R' hj => ?_, fun j i o ho => ?_, fun i j i' h1 h2 => ?_⟩
      · obtain ⟨hne, h⟩ := live j _ hj
        rw [if_neg hne]
        rcases h with ⟨y, h1, h2, h3⟩ | ⟨h1, h2, h3⟩
        · cases y with
          | none => cases h2
          | some y =>
            obtain ⟨ye, yc, yr⟩ := y
            have h2 : some (⟨e', cs', .res R'⟩ : Box) = some (Box.fix k (ι k).1 ⟨ye, yc, yr⟩) := h2
            simp only [Box.fix, Option.some.injEq, Box.mk.injEq] at h2
            obtain ⟨_, _, e3⟩ := h2
            subst e3
            exact hF.holds j _ _ R' h3
        · exact hF.holds j _ _ R' h3
      · by_cases ej : j = k
        · rw [if_pos ej] at ho; cases ho
        · rw [if_neg ej] at ho
          obtain ⟨⟨e1, cs1, R1, h1⟩, h2, h3, h4, h5, h6⟩ := hF.mem j i o ho
          refine ⟨?_, h2, h3, h4, (joinM_out (hFH j ej i (by rw [ho]; simp))).trans h5, fun i2 bi hi ei => ?_⟩
          · rw [hstat, if_neg ej] at h1
            unfold isRes
            rw [hnew]
            cases h0 : look j b0 with
            | some y =>
              rw [h0] at h1
              have h1 : some y = some (some ⟨e1, cs1, .res R1⟩) := h1
              cases h1
              exact ⟨_, _, _, rfl⟩
            | none =>
              rw [h0] at h1
              have h1 : look j bx = some (some ⟨e1, cs1, .res R1⟩) := h1
              exact ⟨_, _, _, h1⟩
          · obtain ⟨_, bi0, h7, _⟩ := live2 i2 bi hi
            exact h6 i2 bi0 h7 ei
      · by_cases ei : i = k
        · rw [if_pos ei] at h1; exact absurd rfl h1
        · by_cases ej : j = k
          · rw [if_pos ej] at h2; exact absurd rfl h2
          · rw [if_neg ei] at h1
            rw [if_neg ej] at h2
            exact hF.apart i j i' h1 h2
    frame := hr.frame, big := hr.big, os := hr.os, tape := hr.tape, output := hr.output }
def oneM (blk : Nat) (o : Obj) : Nat → Option Obj := fun i => if i = blk then some o else none
theorem joinM_one (X : Nat → Option Obj) (blk : Nat) (o : Obj) : joinM X (oneM blk o) = withBlock X blk o := by
  funext i
  unfold joinM oneM withBlock
  by_cases e : i = blk <;> simp [e]
theorem Rel.fixBox {ι : Nat → Nat × Nat} {a : Act} {w : World} {s0 s : List (Nat × LV)} {b0 bx : List (Nat × Option Box)} {k : Nat} {el : TypeId} {vals : List Value} {row : Bool}
    (hk : look k (b0 ++ bx) = none) (hs : s.all (fun p => p.2.inUse (b0 ++ bx)) = true) (hb : bx.all (fun p => match p.2 with | some b => b.cells.all (CV.inUse (b0 ++ bx)) | none => true) = true)
    (hs0 : s0.all (fun p => p.2.fixIn k (b0 ++ bx)) = true) (hb0 : b0.all (fun p => match p.2 with | some b => b.cells.all (CV.fixIn k (b0 ++ bx)) | none => true) = true)
    (hr : Rel n C ι ⟨s0 ++ s, b0 ++ (k, some ⟨el, vals.map .val, row⟩) :: bx, X⟩ a w) :
    ∃ (blk : Nat) (arr : Array Value) (fr : Nat × Nat), X blk = none ∧ Frozen C blk arr fr ∧ (∃ sp, arr.toList = vals ++ sp) ∧
      Rel n C ι ⟨fixS k blk s0 ++ s, fixB k blk b0 ++ bx, withBlock X blk (.cells arr el fr)⟩ a w := by
  have hst : (⟨s0 ++ s, b0 ++ (k, some ⟨el, vals.map .val, row⟩) :: bx, X⟩ : St).stat k = some (some ⟨el, vals.map .val, row⟩) := by
    show look k (b0 ++ (k, some ⟨el, vals.map .val, row⟩) :: bx) = _
    rw [look_append] at hk ⊢
    cases h : look k b0 with
    | none => simp [look]
    | some x => rw [h] at hk; cases hk
  obtain ⟨arr, fr, harr, hth, hsz, hbr⟩ := hr.boxes k _ hst rfl
  obtain ⟨F, hF⟩ := hr.res
  obtain ⟨hown, hX⟩ := hr.own k _ hst
  have hsp : ∃ sp, arr.toList = vals ++ sp := by
    unfold Box.rel at hbr
    cases row with
    | false => exact ⟨[], by rw [List.append_nil]; exact rel_vals hbr⟩
    | true =>
      obtain ⟨us, sp, e, hl⟩ := hbr
      exact ⟨sp, by rw [e, rel_vals hl]⟩
  refine ⟨(ι k).1, arr, fr, hX, ⟨hown, hth⟩, hsp, ?_⟩
  rw [← joinM_one]
  refine hr.fixN hk hs hb hs0 hb0 (fun i o hi => ?_) hF (fun j hj i hi => ?_)
  · unfold oneM at hi
    split at hi
    · rename_i e
      subst e
      cases hi
      exact ⟨harr, hX, fun j bj hj he => hr.inj j k bj _ hj hst he⟩
    · cases hi
  · unfold oneM
    split
    · rename_i e
      subst e
      cases hc : F j (ι k).1 with
      | none => exact absurd hc hi
      | some o =>
        obtain ⟨_, _, _, _, _, h6⟩ := hF.mem j _ o hc
        exact absurd (h6 k _ hst rfl).symm hj
    · rfl
theorem Rel.fixRsc {ι : Nat → Nat × Nat} {a : Act} {w : World} {s0 s : List (Nat × LV)} {b0 bx : List (Nat × Option Box)} {k : Nat} {e : TypeId} {cs : List CV} {R : Rsc}
    (hk : look k (b0 ++ bx) = none) (hs : s.all (fun p => p.2.inUse (b0 ++ bx)) = true) (hb : bx.all (fun p => match p.2 with | some b => b.cells.all (CV.inUse (b0 ++ bx)) | none => true) = true)
    (hs0 : s0.all (fun p => p.2.fixIn k (b0 ++ bx)) = true) (hb0 : b0.all (fun p => match p.2 with | some b => b.cells.all (CV.fixIn k (b0 ++ bx)) | none => true) = true)
    (hr : Rel n C ι ⟨s0 ++ s, b0 ++ (k, some ⟨e, cs, .res R⟩) :: bx, X⟩ a w) :
    ∃ (ρ : Nat × Nat) (H : Nat → Option Obj), R.holds ρ H ∧ OwnedM C X H ∧
      Rel n C ι ⟨fixS k ρ.1 s0 ++ s, fixB k ρ.1 b0 ++ bx, joinM X H⟩ a w := by
  have hst : (⟨s0 ++ s, b0 ++ (k, some ⟨e, cs, .res R⟩) :: bx, X⟩ : St).stat k = some (some ⟨e, cs, .res R⟩) := by
    show look k (b0 ++ (k, some ⟨e, cs, .res R⟩) :: bx) = _
    rw [look_append] at hk ⊢
    cases h : look k b0 with
    | none => simp [look]
    | some x => rw [h] at hk; cases hk
  obtain ⟨F, hF⟩ := hr.res
  refine ⟨ι k, F k, (hF.holds k _ _ _ hst).1, ⟨fun b o hb => let h := hF.mem k b o hb; ⟨h.2.2.2.1, h.2.2.1, h.2.2.2.2.1⟩⟩, ?_⟩
  refine hr.fixN hk hs hb hs0 hb0 (fun i o hi => ?_) hF (fun j hj i hi => ?_)
  · obtain ⟨_, h2, _, _, h5, h6⟩ := hF.mem k i o hi
    exact ⟨h2, h5, fun j bj hj he => h6 j bj hj he⟩
  · cases hc : F k i with
    | none => rfl
    | some o => exact absurd (hF.apart j k i hi (by rw [hc]; simp)) hj
theorem Leads.fixBox {Mid : St → Prop} (s0 : List (Nat × LV)) (b0 : List (Nat × Option Box)) {s : List (Nat × LV)} {bx : List (Nat × Option Box)} {k : Nat} {el : TypeId} {vals : List Value} {row : Bool}
    (hk : look k (b0 ++ bx) = none) (hs : s.all (fun p => p.2.inUse (b0 ++ bx)) = true) (hb : bx.all (fun p => match p.2 with | some b => b.cells.all (CV.inUse (b0 ++ bx)) | none => true) = true)
    (hs0 : s0.all (fun p => p.2.fixIn k (b0 ++ bx)) = true) (hb0 : b0.all (fun p => match p.2 with | some b => b.cells.all (CV.fixIn k (b0 ++ bx)) | none => true) = true)
    (h : ∀ (blk : Nat) (arr : Array Value) (fr : Nat × Nat), X blk = none → Frozen C blk arr fr → (∃ sp, arr.toList = vals ++ sp) →
      Leads n C Mid ⟨fixS k blk s0 ++ s, fixB k blk b0 ++ bx, withBlock X blk (.cells arr el fr)⟩) :
    Leads n C Mid ⟨s0 ++ s, b0 ++ (k, some ⟨el, vals.map .val, row⟩) :: bx, X⟩ := by
  refine ⟨fun ι a w hr => ?_⟩
  obtain ⟨blk, arr, fr, h1, h2, h5, h6⟩ := hr.fixBox hk hs hb hs0 hb0
  exact (h blk arr fr h1 h2 h5).out ι a w h6
theorem Leads.fixRsc {Mid : St → Prop} (s0 : List (Nat × LV)) (b0 : List (Nat × Option Box)) {s : List (Nat × LV)} {bx : List (Nat × Option Box)} {k : Nat} {e : TypeId} {cs : List CV} {R : Rsc}
    (hk : look k (b0 ++ bx) = none) (hs : s.all (fun p => p.2.inUse (b0 ++ bx)) = true) (hb : bx.all (fun p => match p.2 with | some b => b.cells.all (CV.inUse (b0 ++ bx)) | none => true) = true)
    (hs0 : s0.all (fun p => p.2.fixIn k (b0 ++ bx)) = true) (hb0 : b0.all (fun p => match p.2 with | some b => b.cells.all (CV.fixIn k (b0 ++ bx)) | none => true) = true)
    (h : ∀ (ρ : Nat × Nat) (H : Nat → Option Obj), R.holds ρ H → OwnedM C X H → Leads n C Mid ⟨fixS k ρ.1 s0 ++ s, fixB k ρ.1 b0 ++ bx, joinM X H⟩) :
    Leads n C Mid ⟨s0 ++ s, b0 ++ (k, some ⟨e, cs, .res R⟩) :: bx, X⟩ := by
  refine ⟨fun ι a w hr => ?_⟩
  obtain ⟨ρ, H, h1, h2, h3⟩ := hr.fixRsc hk hs hb hs0 hb0
  exact (h ρ H h1 h2).out ι a w h3
end
section
variable {P : Program} {n : Nat} {ops os : List Oper} {acc : List Eff} {K : List Eff → St → Prop} {s : List (Nat × LV)} {bx : List (Nat × Option Box)} {X : Nat → Option Obj} {σ : St}
theorem LOK.makeFuncP {d k off : Nat} {fn : Fn} {x : Operand} {ty : TypeId} {pos : String} {after_ : Array Edge} {g : Option (Nat × Bool)} {b : Box} (hx : σ.ev x = some (.sv (.one (.ptr k off)))) (hk : σ.stat k = some (some b)) :
    LOK P n ops ⟨some d, .makeFunc fn #[] #[x], ty, pos, after_, g⟩ σ ⟨[(d, .sv (.one (.fn fn (fun i => [.pointer (some ⟨i, off, none⟩)]) k)))], [k], []⟩ :=
  LOK.value fun σ' ha C ι a w hr => by
    have hk' := (ha.stat k (.inl (by simp))).trans hk
    have hv := hr.ev ((ha.ev (x := x) (by simp [Op.operands])).trans hx)
    simp only [LV.rel, SV.rel, CV.rel, hk'] at hv
    refine ⟨.func fn #[] #[.pointer (some ⟨(ι k).1, off, none⟩)], by simp [execOp, Instr.makeFunc, hv], ?_⟩
    simp only [LV.rel, SV.rel, CV.rel, hk']
theorem K.makeFuncP {d k off : Nat} {fn : Fn} {x : Operand} {ty : TypeId} {pos : String} {after_ : Array Edge} {g : Option (Nat × Bool)} {b : Box} (hx : (⟨s, bx, X⟩ : St).ev x = some (.sv (.one (.ptr k off)))) (hk : (⟨s, bx, X⟩ : St).stat k = some (some b)) (hw : Want ops s g)
    (kont : RunK P n ops os ⟨(d, .sv (.one (.fn fn (fun i => [.pointer (some ⟨i, off, none⟩)]) k))) :: s, bx, X⟩ (⟨[(d, .sv (.one (.fn fn (fun i => [.pointer (some ⟨i, off, none⟩)]) k)))], [k], []⟩ :: acc) K) :
    RunK P n ops (⟨some d, .makeFunc fn #[] #[x], ty, pos, after_, g⟩ :: os) ⟨s, bx, X⟩ acc K := RunK.g1 (LOK.makeFuncP hx hk) hw kont
end
section
variable {P : Program} {n : Nat} {ops os : List Oper} {acc : List Eff} {K : List Eff → St → Prop} {s : List (Nat × LV)} {bx : List (Nat × Option Box)} {X : Nat → Option Obj} {σ : St}
def isFunc (P : Program) (t : TypeId) : Bool := match P.underlying t with | some (.func _ _ _) => true | _ => false
theorem isFunc_spec {t : TypeId} (h : isFunc P t = true) : ∃ a b c, P.underlying t = some (.func a b c) := by
  unfold isFunc at h
  split at h
  · rename_i a b c e; exact ⟨a, b, c, e⟩
  · cases h
theorem run_equal_func (w : World) (t : TypeId) (f : Fn) (ns : Array Value) (cs : Array Value) (h : isFunc P t = true) : (Op.equal t (.func f ns cs) .nilFunc).run P w = .ok false w := by
  obtain ⟨a, b, c, hu⟩ := isFunc_spec h
  have key : ∀ d, (Op.equalIn (d + 1) t (.func f ns cs) .nilFunc).run P w = .ok false w := fun d => by simp [Op.equalIn, run_underlying hu]
  exact key 9999
theorem run_equal_nilFunc (w : World) (t : TypeId) (h : isFunc P t = true) : (Op.equal t .nilFunc .nilFunc).run P w = .ok true w := by
  obtain ⟨a, b, c, hu⟩ := isFunc_spec h
  have key : ∀ d, (Op.equalIn (d + 1) t .nilFunc .nilFunc).run P w = .ok true w := fun d => by simp [Op.equalIn, run_underlying hu]
  exact key 9999
theorem LOK.funcNil {d : Nat} {t t' : TypeId} {x : Operand} {ty : TypeId} {pos : String} {after_ : Array Edge} {g : Option (Nat × Bool)} {r : Bool} {v : Value} (hx : σ.ev x = some (.sv (.one (.val v)))) (ht : isFunc P t = true)
    (hv : (v = .nilFunc ∧ r = true) ∨ ((∃ f ns cs, v = .func f ns cs) ∧ r = false)) :
    LOK P n ops ⟨some d, .binOp .eql t x (.const .nilFunc) t', ty, pos, after_, g⟩ σ ⟨[(d, .sv (.one (.val (.bool r))))], [], []⟩ :=
  LOK.value fun σ' ha C ι a w hr => by
    have hv' : a.eval x = v := hr.ev ((ha.ev (x := x) (by simp [Op.operands])).trans hx)
    have hc : a.eval (.const .nilFunc) = .nilFunc := rfl
    rcases hv with ⟨rfl, rfl⟩ | ⟨⟨f, ns, cs, rfl⟩, rfl⟩
    · exact ⟨_, by simp only [execOp, hv', hc, eqGuard, Sem.run_bind]; simp [binOp, run_equal_nilFunc w t ht], rfl⟩
    · exact ⟨_, by simp only [execOp, hv', hc, eqGuard, Sem.run_bind]; simp [binOp, run_equal_func w t f ns cs ht], rfl⟩
theorem K.funcNil {d : Nat} {t t' : TypeId} {x : Operand} {ty : TypeId} {pos : String} {after_ : Array Edge} {g : Option (Nat × Bool)} {r : Bool} {v : Value} (hx : (⟨s, bx, X⟩ : St).ev x = some (.sv (.one (.val v)))) (ht : isFunc P t = true)
    (hv : (v = .nilFunc ∧ r = true) ∨ ((∃ f ns cs, v = .func f ns cs) ∧ r = false)) (hw : Want ops s g)
    (kont : RunK P n ops os ⟨(d, .sv (.one (.val (.bool r)))) :: s, bx, X⟩ (⟨[(d, .sv (.one (.val (.bool r))))], [], []⟩ :: acc) K) :
    RunK P n ops (⟨some d, .binOp .eql t x (.const .nilFunc) t', ty, pos, after_, g⟩ :: os) ⟨s, bx, X⟩ acc K := RunK.g1 (LOK.funcNil hx ht hv) hw kont
end
end Go.Lg
end
section
namespace Go.Proofs.YtopiioklkkiedaaGreatDoor
open Go Go.Lg Go.Lg.Fml Go.Lg.Fld Go.Lg.Arith
set_option maxRecDepth 100000
def MoreM (X Y : Nat → Option Obj) : Prop := ∀ b o, X b = some o → Y b = some o
theorem MoreM.refl (X : Nat → Option Obj) : MoreM X X := fun _ _ h => h
theorem MoreM.trans {X Y Z : Nat → Option Obj} (h : MoreM X Y) (h' : MoreM Y Z) : MoreM X Z := fun b o hb => h' b o (h b o hb)
abbrev capL (caps : List Value) : List LV := caps.map fun v => .sv (.one (.val v))
def OneV (Y : Nat → Option Obj) (v : Value) (F : Nm → Except Int Nm) : Prop := ∃ (f : FuncId) (caps : List Value), v = .func (.func f) #[] caps.toArray ∧ ∀ Z, MoreM Y Z → ∀ x : Nm, In2 x.2 → PSpec Tryz.prog Z f ([LI x.1 x.2] ++ capL caps) (exR (F x))
def TwoV (Y : Nat → Option Obj) (v : Value) (F : Nm → Nm → Except Int Nm) : Prop := ∃ (f : FuncId) (caps : List Value), v = .func (.func f) #[] caps.toArray ∧ ∀ Z, MoreM Y Z → ∀ x y : Nm, In2 x.2 → In2 y.2 → PSpec Tryz.prog Z f ([LI x.1 x.2, LI y.1 y.2] ++ capL caps) (exR (F x y))
def ThreeV (Y : Nat → Option Obj) (v : Value) (F : Nm → Nm → Nm → Except Int Nm) : Prop := ∃ (f : FuncId) (caps : List Value), v = .func (.func f) #[] caps.toArray ∧ ∀ Z, MoreM Y Z → ∀ x y z : Nm, In2 x.2 → In2 y.2 → In2 z.2 → PSpec Tryz.prog Z f ([LI x.1 x.2, LI y.1 y.2, LI z.1 z.2] ++ capL caps) (exR (F x y z))
structure EnvIn (Z : Nat → Option Obj) (fad : Option Addr) (fs : List (List Nm)) (at_ : Int) : Prop where
  fss : FssIn Z fad fs
  len : fs.length < 4611686018427387904
  rows : ∀ r ∈ fs, r.length < 4611686018427387904
  place : -9223372036854775808 ≤ at_ ∧ at_ < 9223372036854775808
theorem EnvIn.mono {Y Z : Nat → Option Obj} (h : MoreM Y Z) {fad : Option Addr} {fs : List (List Nm)} {at_ : Int} (e : EnvIn Y fad fs at_) : EnvIn Z fad fs at_ := ⟨e.fss.mono h, e.len, e.rows, e.place⟩
def DeedV (Y : Nat → Option Obj) (v : Value) (op : Int) : Prop := ∃ (f : FuncId) (caps : List Value), v = .func (.func f) #[] caps.toArray ∧ ∀ Z, MoreM Y Z → ∀ x : Ins, x.op = op → smallI x → ∀ (fad : Option Addr) (fcap : Nat) (fs : List (List Nm)) (at_ : Int), EnvIn Z fad fs at_ →
  ∀ (tad : Option Addr) (tcap : Nat) (ts : List Nm), NumsIn Z tad ts → ts.length = takes op → PSpec Tryz.prog Z f ([LIn x, LEnv fad fs.length fcap at_, Lx tad ts.length tcap] ++ capL caps) (exR (oneX fs at_ x ts))
theorem DeedV.mono {Y Z : Nat → Option Obj} (h : MoreM Y Z) {v : Value} {op : Int} (hv : DeedV Y v op) : DeedV Z v op := by
  obtain ⟨f, caps, e, hp⟩ := hv
  exact ⟨f, caps, e, fun W hW => hp W (h.trans hW)⟩
theorem two_fn (Y : Nat → Option Obj) {f : FuncId} {F : Nm → Nm → Except Int Nm} (h : ∀ (Z : Nat → Option Obj) (x y : Nm), In2 x.2 → In2 y.2 → PSpec Tryz.prog Z f [LI x.1 x.2, LI y.1 y.2] (exR (F x y))) : TwoV Y (.func (.func f) #[] #[]) F := ⟨f, [], rfl, fun Z _ x y hx hy => h Z x y hx hy⟩
theorem three_fn (Y : Nat → Option Obj) {f : FuncId} {F : Nm → Nm → Nm → Except Int Nm} (h : ∀ (Z : Nat → Option Obj) (x y z : Nm), In2 x.2 → In2 y.2 → In2 z.2 → PSpec Tryz.prog Z f [LI x.1 x.2, LI y.1 y.2, LI z.1 z.2] (exR (F x y z))) : ThreeV Y (.func (.func f) #[] #[]) F := ⟨f, [], rfl, fun Z _ x y z hx hy hz => h Z x y z hx hy hz⟩
abbrev pv (blk : Nat) : Value := .pointer (some ⟨blk, 0, none⟩)
section
variable {Y : Nat → Option Obj} {blk : Nat} {arr : Array Value} {el : TypeId} {fr : Nat × Nat} {v : Value}
theorem two_swapped {F : Nm → Nm → Except Int Nm} (hY : Y blk = some (.cells arr el fr)) (hv : arr[0]? = some v) (hF : TwoV Y v F) : TwoV Y (.func (.func 222) #[] #[pv blk]) (fun x y => F y x) := by
  obtain ⟨f, caps, rfl, hF⟩ := hF
  refine ⟨222, [pv blk], rfl, fun Z hZ x y hx hy => ?_⟩
  have hP := hF Z hZ y x hy hx
  have hX := hZ _ _ hY
  show PSpec _ Z _ [LI x.1 x.2, LI y.1 y.2, .sv (.one (.val (pv blk)))] (exR (F y x))
  rw [exR_eq] at hP ⊢
  generalize exE (F y x) = e at *
  generalize exV (F y x) = v at *
  obtain ⟨vb, vN⟩ := v
  refine PSpec.intro Tryz.func222 rfl (by kernel_rfl) rfl rfl ?_
  intro C
  (refine LWP.seq <| rgN <| K.box rfl rfl rfl .plain <| K.box rfl rfl rfl .plain <| K.alloc rfl .plain ?_; refine kas rfl <| RunK.nil <| LWP.seq <| rgN <| K.loadX rfl hX rfl hv .plain <| K.loadAll rfl rfl rfl .plain ?_; refine K.loadAll rfl rfl rfl .plain ?_; refine K.callF rfl rfl rfl hP .plain ?_; refine kex rfl rfl <| kex rfl rfl <| K.storeAll rfl rfl rfl rfl rfl rfl .plain ?_; refine kas rfl <| RunK.nil <| LWP.ret ?_)
  exact ⟨[_, _], ⟨⟨_, _, rfl, rfl, rfl, .inl ⟨AggT.h, rfl⟩⟩, rfl, trivial⟩, rfl⟩
def choX (G : Nm → Nm → Except Int Nm) (x y : Nm) : Except Int Nm := match G x y with | .error e => .error e | .ok a => pickX a x y
theorem two_chosen {F : Nm → Nm → Except Int Nm} (hY : Y blk = some (.cells arr el fr)) (hv : arr[0]? = some v) (hF : TwoV Y v F) (h2 : ∀ x y a, F x y = .ok a → In2 a.2) (hz : ∀ x y e, F x y = .error e → e ≠ 0) : TwoV Y (.func (.func 220) #[] #[pv blk]) (choX F) := by
  obtain ⟨f, caps, rfl, hF⟩ := hF
  refine ⟨220, [pv blk], rfl, fun Z hZ x y hx hy => ?_⟩
  have hP := hF Z hZ x y hx hy
  have hX := hZ _ _ hY
  show PSpec _ Z _ [LI x.1 x.2, LI y.1 y.2, .sv (.one (.val (pv blk)))] (exR (choX F x y))
  unfold choX
  cases hf : F x y with
  | error e =>
    have he := hz x y e hf
    rw [hf] at hP
    show PSpec _ Z _ _ (.tup [S0, Sn .i64 e])
    have hP : PSpec Tryz.prog Z f ([LI x.1 x.2, LI y.1 y.2] ++ capL caps) (.tup [S0, Sn .i64 e]) := hP
    refine PSpec.intro Tryz.func220 rfl (by kernel_rfl) rfl rfl ?_
    intro C
    (refine LWP.seq <| rgN <| K.box rfl rfl rfl .plain <| K.box rfl rfl rfl .plain <| K.alloc rfl .plain ?_; refine kas rfl <| RunK.nil <| LWP.seq <| rgN <| K.loadX rfl hX rfl hv .plain <| K.loadAll rfl rfl rfl .plain ?_; refine K.loadAll rfl rfl rfl .plain ?_; refine K.callF rfl rfl rfl hP .plain ?_; refine kmv rfl <| kex rfl rfl <| kex rfl rfl <| K.alloc rfl .plain ?_; refine K.storeAll rfl rfl rfl rfl rfl rfl .plain ?_; refine kas rfl <| RunK.nil <| LWP.seq <| LWP.seq <| rgN <| kmv rfl <| kne rfl rfl (r := true) (bne_iff_ne.2 he) <| RunK.nil <| LWP.condT rfl ?_; refine LWP.seq <| rgN <| K.build rfl rfl (by exact rfl) (by exact nl3 rfl rfl rfl rfl) .plain ?_; refine kmv rfl <| K.storeAll rfl rfl rfl rfl rfl rfl .plain ?_; refine kas rfl <| RunK.nil <| LWP.ret ?_)
    exact ⟨[_, _], ⟨⟨_, _, rfl, rfl, rfl, .inl ⟨AggT.h, rfl⟩⟩, rfl, trivial⟩, rfl⟩
  | ok a =>
    have ha := h2 x y a hf
    rw [hf] at hP
    have hP : PSpec Tryz.prog Z f ([LI x.1 x.2, LI y.1 y.2] ++ capL caps) (.tup [SI a.1 a.2, Sn .i64 0]) := hP
    have hK := tPick Z a x y ha
    show PSpec _ Z _ _ (exR (pickX a x y))
    rw [exR_eq] at hK ⊢
    generalize exE (pickX a x y) = e at *
    generalize exV (pickX a x y) = v at *
    obtain ⟨vb, vN⟩ := v
    refine PSpec.intro Tryz.func220 rfl (by kernel_rfl) rfl rfl ?_
    intro C
    (refine LWP.seq <| rgN <| K.box rfl rfl rfl .plain <| K.box rfl rfl rfl .plain <| K.alloc rfl .plain ?_; refine kas rfl <| RunK.nil <| LWP.seq <| rgN <| K.loadX rfl hX rfl hv .plain <| K.loadAll rfl rfl rfl .plain ?_; refine K.loadAll rfl rfl rfl .plain ?_; refine K.callF rfl rfl rfl hP .plain ?_; refine kmv rfl <| kex rfl rfl <| kex rfl rfl <| K.alloc rfl .plain ?_; refine K.storeAll rfl rfl rfl rfl rfl rfl .plain ?_; refine kas rfl <| RunK.nil <| LWP.seq <| LWP.seq <| rgN <| kmv rfl <| kne rfl rfl (r := false) rfl <| RunK.nil <| LWP.condF rfl ?_; refine LWP.skip ?_; refine LWP.seq <| rgN <| K.loadAll rfl rfl rfl .plain ?_; refine K.loadAll rfl rfl rfl .plain ?_; refine K.loadAll rfl rfl rfl .plain ?_; refine kca rfl rfl (hK) <| kex rfl rfl <| kex rfl rfl <| K.storeAll rfl rfl rfl rfl rfl rfl .plain ?_; refine kas rfl <| RunK.nil <| LWP.ret ?_)
    exact ⟨[_, _], ⟨⟨_, _, rfl, rfl, rfl, .inl ⟨AggT.h, rfl⟩⟩, rfl, trivial⟩, rfl⟩
theorem one_zero {F : Nm → Nm → Except Int Nm} (hY : Y blk = some (.cells arr el fr)) (hv : arr[0]? = some v) (hF : TwoV Y v F) : OneV Y (.func (.func 219) #[] #[pv blk]) (fun x => F (false, 0) x) := by
  obtain ⟨f, caps, rfl, hF⟩ := hF
  refine ⟨219, [pv blk], rfl, fun Z hZ x hx => ?_⟩
  have hP : PSpec Tryz.prog Z f ([.sv S0, LI x.1 x.2] ++ capL caps) (exR (F (false, 0) x)) := hF Z hZ (false, 0) x ⟨by decide, by decide⟩ hx
  have hX := hZ _ _ hY
  show PSpec _ Z _ [LI x.1 x.2, .sv (.one (.val (pv blk)))] (exR (F (false, 0) x))
  rw [exR_eq] at hP ⊢
  generalize exE (F (false, 0) x) = e at *
  generalize exV (F (false, 0) x) = v at *
  obtain ⟨vb, vN⟩ := v
  refine PSpec.intro Tryz.func219 rfl (by kernel_rfl) rfl rfl ?_
  intro C
  (refine LWP.seq <| rgN <| K.box rfl rfl rfl .plain <| K.alloc rfl .plain ?_; refine kas rfl <| RunK.nil <| LWP.seq <| rgN <| K.loadX rfl hX rfl hv .plain <| K.build rfl rfl (by exact rfl) (by exact nl3 rfl rfl rfl rfl) .plain ?_; refine K.loadAll rfl rfl rfl .plain ?_; refine K.callF rfl rfl rfl hP .plain ?_; refine kex rfl rfl <| kex rfl rfl <| K.storeAll rfl rfl rfl rfl rfl rfl .plain ?_; refine kas rfl <| RunK.nil <| LWP.ret ?_)
  exact ⟨[_, _], ⟨⟨_, _, rfl, rfl, rfl, .inl ⟨AggT.h, rfl⟩⟩, rfl, trivial⟩, rfl⟩
theorem deed_one {op : Int} {F : Nm → Except Int Nm} (ht : takes op = 1) (hY : Y blk = some (.cells arr el fr)) (hv : arr[0]? = some v) (hF : OneV Y v F) (hop : ∀ u, In2 u.2 → nodeX op [u] = F u) : DeedV Y (.func (.func 218) #[] #[pv blk]) op := by
  obtain ⟨f, caps, rfl, hF⟩ := hF
  refine ⟨218, [pv blk], rfl, fun Z hZ x hxo hx fad fcap fs at_ hE tad tcap ts hts hlen => ?_⟩
  rw [ht] at hlen
  match ts, hlen, hts with
  | [u], _, hts =>
  have e1 : oneX fs at_ x [u] = F u := by unfold oneX; rw [hxo, if_neg (by rw [ht]; decide), hop u (hts.in2 _ (by simp))]
  rw [e1]
  obtain ⟨tb, tof, ta, te, tf, rfl, hT, hall⟩ := hts.all (by show 0 < 1; omega)
  obtain ⟨i0, s0, c0⟩ := hall 0 _ _ rfl
  have h0 : tof + Int.toNat 0 * 3 = tof + 0 * 3 := rfl
  have hb0 : 0 ≤ (0 : Int) ∧ (0 : Int) < (1 : Nat) := by omega
  have hP := hF Z hZ u i0
  have hX := hZ _ _ hY
  show PSpec _ Z _ [LIn x, LEnv fad fs.length fcap at_, Lx (some ⟨tb, tof, none⟩) 1 tcap, .sv (.one (.val (pv blk)))] (exR (F u))
  rw [exR_eq] at hP ⊢
  generalize exE (F u) = e at *
  generalize exV (F u) = v at *
  obtain ⟨vb, vN⟩ := v
  refine PSpec.intro Tryz.func218 rfl (by kernel_rfl) rfl rfl ?_
  intro C
  (refine LWP.seq <| rgN <| K.box rfl rfl rfl .plain <| K.box rfl rfl rfl .plain <| K.alloc rfl .plain ?_; refine kas rfl <| RunK.nil <| LWP.seq <| rgD mixed <| K.loadX rfl hX rfl hv .plain <| kmv rfl <| K.indexX rfl rfl SliceT.h hb0 h0 .plain <| K.loadXagg rfl hT (by kernel_rfl) s0 c0 .plain <| K.callF rfl rfl rfl hP .plain ?_; refine kex rfl rfl <| kex rfl rfl <| K.storeAll rfl rfl rfl rfl rfl rfl .plain ?_; refine kas rfl <| RunK.nil <| rgA ?_; refine LWP.ret ?_)
  exact ⟨[_, _], ⟨⟨_, _, rfl, rfl, rfl, .inl ⟨AggT.h, rfl⟩⟩, rfl, trivial⟩, rfl⟩
theorem deed_two {op : Int} {F : Nm → Nm → Except Int Nm} (ht : takes op = 2) (hY : Y blk = some (.cells arr el fr)) (hv : arr[0]? = some v) (hF : TwoV Y v F) (hop : ∀ u w, In2 u.2 → In2 w.2 → nodeX op [u, w] = F u w) : DeedV Y (.func (.func 211) #[] #[pv blk]) op := by
  obtain ⟨f, caps, rfl, hF⟩ := hF
  refine ⟨211, [pv blk], rfl, fun Z hZ x hxo hx fad fcap fs at_ hE tad tcap ts hts hlen => ?_⟩
  rw [ht] at hlen
  match ts, hlen, hts with
  | [u, z], _, hts =>
  have e1 : oneX fs at_ x [u, z] = F u z := by unfold oneX; rw [hxo, if_neg (by rw [ht]; decide), hop u z (hts.in2 _ (by simp)) (hts.in2 _ (by simp))]
  rw [e1]
  obtain ⟨tb, tof, ta, te, tf, rfl, hT, hall⟩ := hts.all (by show 0 < 2; omega)
  obtain ⟨i0, s0, c0⟩ := hall 0 _ _ rfl
  have h0 : tof + Int.toNat 0 * 3 = tof + 0 * 3 := rfl
  have hb0 : 0 ≤ (0 : Int) ∧ (0 : Int) < (2 : Nat) := by omega
  obtain ⟨i1, s1, c1⟩ := hall 1 _ _ rfl
  have h1 : tof + Int.toNat 1 * 3 = tof + 1 * 3 := rfl
  have hb1 : 0 ≤ (1 : Int) ∧ (1 : Int) < (2 : Nat) := by omega
  have hP := hF Z hZ u z i0 i1
  have hX := hZ _ _ hY
  show PSpec _ Z _ [LIn x, LEnv fad fs.length fcap at_, Lx (some ⟨tb, tof, none⟩) 2 tcap, .sv (.one (.val (pv blk)))] (exR (F u z))
  rw [exR_eq] at hP ⊢
  generalize exE (F u z) = e at *
  generalize exV (F u z) = v at *
  obtain ⟨vb, vN⟩ := v
  refine PSpec.intro Tryz.func211 rfl (by kernel_rfl) rfl rfl ?_
  intro C
  (refine LWP.seq <| rgN <| K.box rfl rfl rfl .plain <| K.box rfl rfl rfl .plain <| K.alloc rfl .plain ?_; refine kas rfl <| RunK.nil <| LWP.seq <| rgD mixed <| K.loadX rfl hX rfl hv .plain <| kmv rfl <| K.indexX rfl rfl SliceT.h hb0 h0 .plain <| K.loadXagg rfl hT (by kernel_rfl) s0 c0 .plain <| kmv rfl <| K.indexX rfl rfl SliceT.h hb1 h1 .plain <| K.loadXagg rfl hT (by kernel_rfl) s1 c1 .plain <| K.callF rfl rfl rfl hP .plain ?_; refine kex rfl rfl <| kex rfl rfl <| K.storeAll rfl rfl rfl rfl rfl rfl .plain ?_; refine kas rfl <| RunK.nil <| rgA ?_; refine LWP.ret ?_)
  exact ⟨[_, _], ⟨⟨_, _, rfl, rfl, rfl, .inl ⟨AggT.h, rfl⟩⟩, rfl, trivial⟩, rfl⟩
theorem deed_three {op : Int} {F : Nm → Nm → Nm → Except Int Nm} (ht : takes op = 3) (hY : Y blk = some (.cells arr el fr)) (hv : arr[0]? = some v) (hF : ThreeV Y v F) (hop : ∀ u w z, In2 u.2 → In2 w.2 → In2 z.2 → nodeX op [u, w, z] = F u w z) : DeedV Y (.func (.func 223) #[] #[pv blk]) op := by
  obtain ⟨f, caps, rfl, hF⟩ := hF
  refine ⟨223, [pv blk], rfl, fun Z hZ x hxo hx fad fcap fs at_ hE tad tcap ts hts hlen => ?_⟩
  rw [ht] at hlen
  match ts, hlen, hts with
  | [u, z, q], _, hts =>
  have e1 : oneX fs at_ x [u, z, q] = F u z q := by unfold oneX; rw [hxo, if_neg (by rw [ht]; decide), hop u z q (hts.in2 _ (by simp)) (hts.in2 _ (by simp)) (hts.in2 _ (by simp))]
  rw [e1]
  obtain ⟨tb, tof, ta, te, tf, rfl, hT, hall⟩ := hts.all (by show 0 < 3; omega)
  obtain ⟨i0, s0, c0⟩ := hall 0 _ _ rfl
  have h0 : tof + Int.toNat 0 * 3 = tof + 0 * 3 := rfl
  have hb0 : 0 ≤ (0 : Int) ∧ (0 : Int) < (3 : Nat) := by omega
  obtain ⟨i1, s1, c1⟩ := hall 1 _ _ rfl
  have h1 : tof + Int.toNat 1 * 3 = tof + 1 * 3 := rfl
  have hb1 : 0 ≤ (1 : Int) ∧ (1 : Int) < (3 : Nat) := by omega
  obtain ⟨i2, s2, c2⟩ := hall 2 _ _ rfl
  have h2 : tof + Int.toNat 2 * 3 = tof + 2 * 3 := rfl
  have hb2 : 0 ≤ (2 : Int) ∧ (2 : Int) < (3 : Nat) := by omega
  have hP := hF Z hZ u z q i0 i1 i2
  have hX := hZ _ _ hY
  show PSpec _ Z _ [LIn x, LEnv fad fs.length fcap at_, Lx (some ⟨tb, tof, none⟩) 3 tcap, .sv (.one (.val (pv blk)))] (exR (F u z q))
  rw [exR_eq] at hP ⊢
  generalize exE (F u z q) = e at *
  generalize exV (F u z q) = v at *
  obtain ⟨vb, vN⟩ := v
  refine PSpec.intro Tryz.func223 rfl (by kernel_rfl) rfl rfl ?_
  intro C
  (refine LWP.seq <| rgN <| K.box rfl rfl rfl .plain <| K.box rfl rfl rfl .plain <| K.alloc rfl .plain ?_; refine kas rfl <| RunK.nil <| LWP.seq <| rgD mixed <| K.loadX rfl hX rfl hv .plain <| kmv rfl <| K.indexX rfl rfl SliceT.h hb0 h0 .plain <| K.loadXagg rfl hT (by kernel_rfl) s0 c0 .plain <| kmv rfl <| K.indexX rfl rfl SliceT.h hb1 h1 .plain <| K.loadXagg rfl hT (by kernel_rfl) s1 c1 .plain <| kmv rfl <| K.indexX rfl rfl SliceT.h hb2 h2 .plain <| K.loadXagg rfl hT (by kernel_rfl) s2 c2 .plain ?_; refine K.callF rfl rfl rfl hP .plain ?_; refine kex rfl rfl <| kex rfl rfl <| K.storeAll rfl rfl rfl rfl rfl rfl .plain ?_; refine kas rfl <| RunK.nil <| rgA ?_; refine LWP.ret ?_)
  exact ⟨[_, _], ⟨⟨_, _, rfl, rfl, rfl, .inl ⟨AggT.h, rfl⟩⟩, rfl, trivial⟩, rfl⟩
end
variable (X : Nat → Option Obj)
theorem tFind (fad : Option Addr) (fcap : Nat) (fs : List (List Nm)) (at_ : Int) (hE : EnvIn X fad fs at_) (a b : Int) (ha : -9223372036854775808 ≤ a ∧ a < 9223372036854775808) (hb : -9223372036854775808 ≤ b ∧ b < 9223372036854775808) :
    PSpec Tryz.prog X 210 [LEnv fad fs.length fcap at_, Ln .i64 a, Ln .i64 b] (exR (elemX fs a b)) := by
  have hfl := hE.len
  by_cases c1 : a < 0
  · rw [show elemX fs a b = .error 3 by unfold elemX; rw [if_pos (.inl c1)]]
    refine PSpec.intro Tryz.func210 rfl (by kernel_rfl) rfl rfl ?_
    intro C
    (refine LWP.seq <| rgN <| K.box rfl rfl rfl .plain <| K.alloc rfl .plain ?_; refine kas rfl <| RunK.nil <| LWP.seq <| LWP.seq <| rgN <| kmv rfl <| klt rfl rfl (r := true) (decide_eq_true c1) <| kmv rfl <| RunK.passed rfl rfl rfl <| RunK.passed rfl rfl rfl <| RunK.passed rfl rfl rfl <| RunK.passed rfl rfl rfl <| RunK.passed rfl rfl rfl <| kpt rfl rfl ?_; refine RunK.nil <| LWP.condT rfl ?_; refine LWP.seq <| rgN <| K.build rfl rfl (by exact rfl) (by exact nl3 rfl rfl rfl rfl) .plain ?_; refine K.storeAll rfl rfl rfl rfl rfl rfl .plain ?_; refine kas rfl <| RunK.nil <| LWP.ret ?_)
    exact ⟨[_, _], ⟨⟨_, _, rfl, rfl, rfl, .inl ⟨AggT.h, rfl⟩⟩, rfl, trivial⟩, rfl⟩
  by_cases c2 : (fs.length : Int) ≤ a
  · rw [show elemX fs a b = .error 3 by unfold elemX; split <;> first | rfl | (rw [List.getElem?_eq_none (by omega)])]
    refine PSpec.intro Tryz.func210 rfl (by kernel_rfl) rfl rfl ?_
    intro C
    (refine LWP.seq <| rgN <| K.box rfl rfl rfl .plain <| K.alloc rfl .plain ?_; refine kas rfl <| RunK.nil <| LWP.seq <| LWP.seq <| rgN <| kmv rfl <| klt rfl rfl (r := false) (decide_eq_false c1) <| kmv rfl <| gmv rfl rfl rfl <| K.fieldAddr rfl rfl (.taken rfl rfl) ?_; refine K.loadOne rfl rfl rfl (.taken rfl rfl) ?_; refine K.lenX rfl SliceT.h rfl (.taken rfl rfl) ?_; refine K.geq rfl rfl (r := true) (decide_eq_true c2) (.taken rfl rfl) ?_; refine kpf rfl rfl <| RunK.nil <| LWP.condT rfl ?_; refine LWP.seq <| rgN <| K.build rfl rfl (by exact rfl) (by exact nl3 rfl rfl rfl rfl) .plain ?_; refine K.storeAll rfl rfl rfl rfl rfl rfl .plain ?_; refine kas rfl <| RunK.nil <| LWP.ret ?_)
    exact ⟨[_, _], ⟨⟨_, _, rfl, rfl, rfl, .inl ⟨AggT.h, rfl⟩⟩, rfl, trivial⟩, rfl⟩
  obtain ⟨r, hr⟩ : ∃ r, fs[a.toNat]? = some r := ⟨_, List.getElem?_eq_getElem (by omega)⟩
  obtain ⟨blk, off, arr, el, fr, vad, vcap, rfl, hX, hsz, hcell, hN⟩ := hE.fss.at_ _ _ hr
  have hrl := hE.rows r (List.mem_of_getElem? hr)
  have hio : off + Int.toNat a * 1 = off + a.toNat := by omega
  by_cases c3 : b < 0
  · rw [show elemX fs a b = .error 3 by unfold elemX; rw [if_pos (.inr c3)]]
    refine PSpec.intro Tryz.func210 rfl (by kernel_rfl) rfl rfl ?_
    intro C
    (refine LWP.seq <| rgN <| K.box rfl rfl rfl .plain <| K.alloc rfl .plain ?_; refine kas rfl <| RunK.nil <| LWP.seq <| LWP.seq <| rgN <| kmv rfl <| klt rfl rfl (r := false) (decide_eq_false c1) <| kmv rfl <| gmv rfl rfl rfl <| K.fieldAddr rfl rfl (.taken rfl rfl) ?_; refine K.loadOne rfl rfl rfl (.taken rfl rfl) ?_; refine K.lenX rfl SliceT.h rfl (.taken rfl rfl) ?_; refine K.geq rfl rfl (r := false) (decide_eq_false c2) (.taken rfl rfl) ?_; refine kpf rfl rfl <| RunK.nil <| LWP.condF rfl ?_; refine LWP.skip ?_; refine LWP.seq <| rgN <| kfa rfl rfl ?_; refine kl1 rfl rfl rfl <| kmv rfl <| K.indexX rfl rfl SliceT.h (by omega) hio .plain <| K.loadX rfl hX rfl hcell .plain <| kas rfl <| RunK.nil <| LWP.seq <| LWP.seq <| rgN <| kmv rfl <| klt rfl rfl (r := true) (decide_eq_true c3) <| kmv rfl <| RunK.passed rfl rfl rfl <| RunK.passed rfl rfl rfl ?_; refine RunK.passed rfl rfl rfl <| RunK.passed rfl rfl rfl <| kpt rfl rfl <| RunK.nil <| LWP.condT rfl ?_; refine LWP.seq <| rgN <| K.build rfl rfl (by exact rfl) (by exact nl3 rfl rfl rfl rfl) .plain ?_; refine K.storeAll rfl rfl rfl rfl rfl rfl .plain ?_; refine kas rfl <| RunK.nil <| LWP.ret ?_)
    exact ⟨[_, _], ⟨⟨_, _, rfl, rfl, rfl, .inl ⟨AggT.h, rfl⟩⟩, rfl, trivial⟩, rfl⟩
  by_cases c4 : (r.length : Int) ≤ b
  · rw [show elemX fs a b = .error 3 by unfold elemX; rw [if_neg (by omega), hr]; simp only; rw [List.getElem?_eq_none (by omega)]]
    refine PSpec.intro Tryz.func210 rfl (by kernel_rfl) rfl rfl ?_
    intro C
    (refine LWP.seq <| rgN <| K.box rfl rfl rfl .plain <| K.alloc rfl .plain ?_; refine kas rfl <| RunK.nil <| LWP.seq <| LWP.seq <| rgN <| kmv rfl <| klt rfl rfl (r := false) (decide_eq_false c1) <| kmv rfl <| gmv rfl rfl rfl <| K.fieldAddr rfl rfl (.taken rfl rfl) ?_; refine K.loadOne rfl rfl rfl (.taken rfl rfl) ?_; refine K.lenX rfl SliceT.h rfl (.taken rfl rfl) ?_; refine K.geq rfl rfl (r := false) (decide_eq_false c2) (.taken rfl rfl) ?_; refine kpf rfl rfl <| RunK.nil <| LWP.condF rfl ?_; refine LWP.skip ?_; refine LWP.seq <| rgN <| kfa rfl rfl ?_; refine kl1 rfl rfl rfl <| kmv rfl <| K.indexX rfl rfl SliceT.h (by omega) hio .plain <| K.loadX rfl hX rfl hcell .plain <| kas rfl <| RunK.nil <| LWP.seq <| LWP.seq <| rgN <| kmv rfl <| klt rfl rfl (r := false) (decide_eq_false c3) <| kmv rfl <| gmv rfl rfl rfl <| gmv rfl rfl rfl ?_; refine K.lenX rfl SliceT.h rfl (.taken rfl rfl) ?_; refine K.geq rfl rfl (r := true) (decide_eq_true c4) (.taken rfl rfl) ?_; refine kpf rfl rfl <| RunK.nil <| LWP.condT rfl ?_; refine LWP.seq <| rgN <| K.build rfl rfl (by exact rfl) (by exact nl3 rfl rfl rfl rfl) .plain ?_; refine K.storeAll rfl rfl rfl rfl rfl rfl .plain ?_; refine kas rfl <| RunK.nil <| LWP.ret ?_)
    exact ⟨[_, _], ⟨⟨_, _, rfl, rfl, rfl, .inl ⟨AggT.h, rfl⟩⟩, rfl, trivial⟩, rfl⟩
  obtain ⟨⟨vb, vN⟩, hv⟩ : ∃ v, r[b.toNat]? = some v := ⟨_, List.getElem?_eq_getElem (by omega)⟩
  obtain ⟨_, blk2, off2, arr2, el2, fr2, rfl, hX2, hsz2, hcs2⟩ := hN.at hv
  have hio2 : off2 + Int.toNat b * 3 = off2 + b.toNat * 3 := rfl
  rw [show elemX fs a b = .ok (vb, vN) by unfold elemX; rw [if_neg (by omega), hr]; simp only; rw [hv]]
  refine PSpec.intro Tryz.func210 rfl (by kernel_rfl) rfl rfl ?_
  intro C
  (refine LWP.seq <| rgN <| K.box rfl rfl rfl .plain <| K.alloc rfl .plain ?_; refine kas rfl <| RunK.nil <| LWP.seq <| LWP.seq <| rgN <| kmv rfl <| klt rfl rfl (r := false) (decide_eq_false c1) <| kmv rfl <| gmv rfl rfl rfl <| K.fieldAddr rfl rfl (.taken rfl rfl) ?_; refine K.loadOne rfl rfl rfl (.taken rfl rfl) ?_; refine K.lenX rfl SliceT.h rfl (.taken rfl rfl) ?_; refine K.geq rfl rfl (r := false) (decide_eq_false c2) (.taken rfl rfl) ?_; refine kpf rfl rfl <| RunK.nil <| LWP.condF rfl ?_; refine LWP.skip ?_; refine LWP.seq <| rgN <| kfa rfl rfl ?_; refine kl1 rfl rfl rfl <| kmv rfl <| K.indexX rfl rfl SliceT.h (by omega) hio .plain <| K.loadX rfl hX rfl hcell .plain <| kas rfl <| RunK.nil <| LWP.seq <| LWP.seq <| rgN <| kmv rfl <| klt rfl rfl (r := false) (decide_eq_false c3) <| kmv rfl <| gmv rfl rfl rfl <| gmv rfl rfl rfl ?_; refine K.lenX rfl SliceT.h rfl (.taken rfl rfl) ?_; refine K.geq rfl rfl (r := false) (decide_eq_false c4) (.taken rfl rfl) ?_; refine kpf rfl rfl <| RunK.nil <| LWP.condF rfl ?_; refine LWP.skip ?_; refine LWP.seq <| rgN <| kmv rfl <| kmv rfl <| K.indexX rfl rfl SliceT.h (by omega) hio2 .plain <| K.loadXagg rfl hX2 (by kernel_rfl) hsz2 hcs2 .plain <| K.storeAll rfl rfl rfl rfl rfl rfl .plain ?_; refine kas rfl <| RunK.nil <| LWP.ret ?_)
  exact ⟨[_, _], ⟨⟨_, _, rfl, rfl, rfl, .inl ⟨AggT.h, rfl⟩⟩, rfl, trivial⟩, rfl⟩
theorem deed_num : DeedV X (.func (.func 178) #[] #[]) 1 := by
  refine ⟨178, [], rfl, fun Z hZ x hxo hx fad fcap fs at_ hE tad tcap ts hts hlen => ?_⟩
  rw [show oneX fs at_ x ts = .ok x.k by unfold oneX leafX; rw [hxo]; rfl]
  show PSpec _ Z _ [LIn x, LEnv fad fs.length fcap at_, Lx tad ts.length tcap] (.tup [SI x.k.1 x.k.2, Sn .i64 0])
  refine PSpec.intro Tryz.func178 rfl (by kernel_rfl) rfl rfl ?_
  intro C
  (refine LWP.seq <| rgN <| K.box rfl rfl rfl .plain <| K.box rfl rfl rfl .plain <| K.alloc rfl .plain ?_; refine kas rfl <| RunK.nil <| LWP.seq <| rgN <| kfa rfl rfl ?_; refine K.loadPart rfl rfl rfl (by exact nl3 rfl rfl rfl rfl) .plain ?_; refine K.storeAll rfl rfl rfl rfl rfl rfl .plain ?_; refine kas rfl <| RunK.nil <| LWP.ret ?_)
  exact ⟨[_, _], ⟨⟨_, _, rfl, rfl, rfl, .inl ⟨AggT.h, rfl⟩⟩, rfl, trivial⟩, rfl⟩
theorem deed_elem : DeedV X (.func (.func 179) #[] #[]) 2 := by
  refine ⟨179, [], rfl, fun Z hZ x hxo hx fad fcap fs at_ hE tad tcap ts hts hlen => ?_⟩
  rw [show oneX fs at_ x ts = elemX fs x.a x.b by unfold oneX leafX; rw [hxo]; rfl]
  have hP := tFind Z fad fcap fs at_ hE x.a x.b hx.2.1 hx.2.2.1
  show PSpec _ Z _ [LIn x, LEnv fad fs.length fcap at_, Lx tad ts.length tcap] (exR (elemX fs x.a x.b))
  rw [exR_eq] at hP ⊢
  generalize exE (elemX fs x.a x.b) = e at *
  generalize exV (elemX fs x.a x.b) = v at *
  obtain ⟨vb, vN⟩ := v
  refine PSpec.intro Tryz.func179 rfl (by kernel_rfl) rfl rfl ?_
  intro C
  (refine LWP.seq <| rgN <| K.box rfl rfl rfl .plain <| K.box rfl rfl rfl .plain <| K.alloc rfl .plain ?_; refine kas rfl <| RunK.nil <| LWP.seq <| rgN <| K.loadAll rfl rfl rfl .plain ?_; refine kfa rfl rfl ?_; refine kl1 rfl rfl rfl <| kfa rfl rfl ?_; refine kl1 rfl rfl rfl <| kca rfl rfl (hP) <| kex rfl rfl <| kex rfl rfl <| K.storeAll rfl rfl rfl rfl rfl rfl .plain ?_; refine kas rfl <| RunK.nil <| LWP.ret ?_)
  exact ⟨[_, _], ⟨⟨_, _, rfl, rfl, rfl, .inl ⟨AggT.h, rfl⟩⟩, rfl, trivial⟩, rfl⟩
theorem deed_here : DeedV X (.func (.func 180) #[] #[]) 3 := by
  refine ⟨180, [], rfl, fun Z hZ x hxo hx fad fcap fs at_ hE tad tcap ts hts hlen => ?_⟩
  rw [show oneX fs at_ x ts = elemX fs x.a at_ by unfold oneX leafX; rw [hxo]; rfl]
  have hP := tFind Z fad fcap fs at_ hE x.a at_ hx.2.1 hE.place
  show PSpec _ Z _ [LIn x, LEnv fad fs.length fcap at_, Lx tad ts.length tcap] (exR (elemX fs x.a at_))
  rw [exR_eq] at hP ⊢
  generalize exE (elemX fs x.a at_) = e at *
  generalize exV (elemX fs x.a at_) = v at *
  obtain ⟨vb, vN⟩ := v
  refine PSpec.intro Tryz.func180 rfl (by kernel_rfl) rfl rfl ?_
  intro C
  (refine LWP.seq <| rgN <| K.box rfl rfl rfl .plain <| K.box rfl rfl rfl .plain <| K.alloc rfl .plain ?_; refine kas rfl <| RunK.nil <| LWP.seq <| rgN <| K.loadAll rfl rfl rfl .plain ?_; refine kfa rfl rfl ?_; refine kl1 rfl rfl rfl <| kfa rfl rfl ?_; refine kl1 rfl rfl rfl <| kca rfl rfl (hP) <| kex rfl rfl <| kex rfl rfl <| K.storeAll rfl rfl rfl rfl rfl rfl .plain ?_; refine kas rfl <| RunK.nil <| LWP.ret ?_)
  exact ⟨[_, _], ⟨⟨_, _, rfl, rfl, rfl, .inl ⟨AggT.h, rfl⟩⟩, rfl, trivial⟩, rfl⟩
theorem deed_place : DeedV X (.func (.func 181) #[] #[]) 4 := by
  refine ⟨181, [], rfl, fun Z hZ x hxo hx fad fcap fs at_ hE tad tcap ts hts hlen => ?_⟩
  have hpl := hE.place
  rw [show oneX fs at_ x ts = (if at_ < 0 then .error 3 else .ok (false, at_)) by unfold oneX leafX; rw [hxo]; rfl]
  show PSpec _ Z _ [LIn x, LEnv fad fs.length fcap at_, Lx tad ts.length tcap] _
  by_cases c : at_ < 0
  · rw [if_pos c]
    refine PSpec.intro Tryz.func181 rfl (by kernel_rfl) rfl rfl ?_
    intro C
    (refine LWP.seq <| rgN <| K.box rfl rfl rfl .plain <| K.box rfl rfl rfl .plain <| K.alloc rfl .plain ?_; refine kas rfl <| RunK.nil <| LWP.seq <| LWP.seq <| rgN <| kfa rfl rfl ?_; refine kl1 rfl rfl rfl <| klt rfl rfl (r := true) (decide_eq_true c) <| RunK.nil <| LWP.condT rfl ?_; refine LWP.seq <| rgN <| K.build rfl rfl (by exact rfl) (by exact nl3 rfl rfl rfl rfl) .plain ?_; refine K.storeAll rfl rfl rfl rfl rfl rfl .plain ?_; refine kas rfl <| RunK.nil <| LWP.ret ?_)
    exact ⟨[_, _], ⟨⟨_, _, rfl, rfl, rfl, .inl ⟨AggT.h, rfl⟩⟩, rfl, trivial⟩, rfl⟩
  · rw [if_neg c]
    have hO := Of_spec Z at_ hpl
    rw [show LQ at_ = LI false at_ by unfold LQ; rw [mg_pos (by omega), decide_eq_false c]] at hO
    show PSpec _ Z _ _ (.tup [SI false at_, Sn .i64 0])
    refine PSpec.intro Tryz.func181 rfl (by kernel_rfl) rfl rfl ?_
    intro C
    (refine LWP.seq <| rgN <| K.box rfl rfl rfl .plain <| K.box rfl rfl rfl .plain <| K.alloc rfl .plain ?_; refine kas rfl <| RunK.nil <| LWP.seq <| LWP.seq <| rgN <| kfa rfl rfl ?_; refine kl1 rfl rfl rfl <| klt rfl rfl (r := false) (decide_eq_false c) <| RunK.nil <| LWP.condF rfl ?_; refine LWP.skip ?_; refine LWP.seq <| rgN <| kfa rfl rfl ?_; refine kl1 rfl rfl rfl <| kca rfl rfl (hO) <| K.storeAll rfl rfl rfl rfl rfl rfl .plain ?_; refine kas rfl <| RunK.nil <| LWP.ret ?_)
    exact ⟨[_, _], ⟨⟨_, _, rfl, rfl, rfl, .inl ⟨AggT.h, rfl⟩⟩, rfl, trivial⟩, rfl⟩
end Go.Proofs.YtopiioklkkiedaaGreatDoor
end
section
namespace Go.Proofs.YtopiioklkkiedaaGreatDoor
open Go Go.Lg Go.Lg.Fml Go.Lg.Fld Go.Lg.Arith
set_option maxRecDepth 100000
abbrev ptrF (f : FuncId) (k : Nat) : CV := .fn (.func f) (fun i => [pv i]) k
abbrev fnV (f : FuncId) : Value := .func (.func f) #[] #[]
abbrev vB (t : TypeId) (k : Nat) (c : CV) : Nat × Option Box := (k, some ⟨t, [c], false⟩)
variable (X : Nat → Option Obj)
theorem mA_ofTwo (g : FuncId) : MSpec Tryz.prog X 182 [.sv (.one (.val (fnV g)))] [] (.sv (.one (ptrF 211 1000001))) [vB 275 1000001 (.val (fnV g))] := by
  refine MSpec.intro Tryz.func182 rfl (by kernel_rfl) rfl (by exact (by repeat' (first | refine all_cons_true ?_ ?_ | rfl | exact bytes_inUse | exact vals_inUse | exact mid_inUse rfl))) (by exact (by repeat' (first | refine all_cons_true ?_ ?_ | rfl | exact bytes_inUse | exact vals_inUse | exact mid_inUse rfl))) rfl rfl ?_
  intro C
  (refine LWP.seq <| rgN <| K.box1 rfl rfl rfl .plain <| kas rfl <| RunK.nil <| LWP.seq <| rgN <| K.makeFuncP rfl rfl .plain ?_; refine kas rfl <| RunK.nil <| LWP.ret ?_)
  exact ⟨[(1000001, 1)], ⟨[_], ⟨rfl, trivial⟩, rfl⟩, (by repeat' (first | exact trivial | refine And.intro ⟨_, rfl, ?_⟩ ?_ | refine And.intro ⟨_, rfl⟩ ?_ | rfl | exact Box.ren_bytes _ _ _ _ | exact Box.ren_vals _ _ _ _ | exact Box.ren_mid rfl)), rfl, rfl⟩
theorem mB_ofTwo (g h : FuncId) (t : TypeId) : MSpec Tryz.prog X 182 [.sv (.one (ptrF g 1000002))] [vB t 1000002 (.val (fnV h))] (.sv (.one (ptrF 211 1000001))) [vB 275 1000001 (ptrF g 1000002), vB t 1000002 (.val (fnV h))] := by
  refine MSpec.intro Tryz.func182 rfl (by kernel_rfl) rfl (by exact (by repeat' (first | refine all_cons_true ?_ ?_ | rfl | exact bytes_inUse | exact vals_inUse | exact mid_inUse rfl))) (by exact (by repeat' (first | refine all_cons_true ?_ ?_ | rfl | exact bytes_inUse | exact vals_inUse | exact mid_inUse rfl))) rfl rfl ?_
  intro C
  (refine LWP.seq <| rgN <| K.box1 rfl rfl rfl .plain <| kas rfl <| RunK.nil <| LWP.seq <| rgN <| K.makeFuncP rfl rfl .plain ?_; refine kas rfl <| RunK.nil <| LWP.ret ?_)
  exact ⟨[(1000001, 1)], ⟨[_], ⟨rfl, trivial⟩, rfl⟩, (by repeat' (first | exact trivial | refine And.intro ⟨_, rfl, ?_⟩ ?_ | refine And.intro ⟨_, rfl⟩ ?_ | rfl | exact Box.ren_bytes _ _ _ _ | exact Box.ren_vals _ _ _ _ | exact Box.ren_mid rfl)), rfl, rfl⟩
theorem mC_ofTwo (g h i : FuncId) (t : TypeId) : MSpec Tryz.prog X 182 [.sv (.one (ptrF g 1000002))] [vB t 1000002 (ptrF h 1000003), vB t 1000003 (.val (fnV i))] (.sv (.one (ptrF 211 1000001))) [vB 275 1000001 (ptrF g 1000002), vB t 1000002 (ptrF h 1000003), vB t 1000003 (.val (fnV i))] := by
  refine MSpec.intro Tryz.func182 rfl (by kernel_rfl) rfl (by exact (by repeat' (first | refine all_cons_true ?_ ?_ | rfl | exact bytes_inUse | exact vals_inUse | exact mid_inUse rfl))) (by exact (by repeat' (first | refine all_cons_true ?_ ?_ | rfl | exact bytes_inUse | exact vals_inUse | exact mid_inUse rfl))) rfl rfl ?_
  intro C
  (refine LWP.seq <| rgN <| K.box1 rfl rfl rfl .plain <| kas rfl <| RunK.nil <| LWP.seq <| rgN <| K.makeFuncP rfl rfl .plain ?_; refine kas rfl <| RunK.nil <| LWP.ret ?_)
  exact ⟨[(1000001, 1)], ⟨[_], ⟨rfl, trivial⟩, rfl⟩, (by repeat' (first | exact trivial | refine And.intro ⟨_, rfl, ?_⟩ ?_ | refine And.intro ⟨_, rfl⟩ ?_ | rfl | exact Box.ren_bytes _ _ _ _ | exact Box.ren_vals _ _ _ _ | exact Box.ren_mid rfl)), rfl, rfl⟩
theorem mB_ofOne (g h : FuncId) (t : TypeId) : MSpec Tryz.prog X 188 [.sv (.one (ptrF g 1000002))] [vB t 1000002 (.val (fnV h))] (.sv (.one (ptrF 218 1000001))) [vB 273 1000001 (ptrF g 1000002), vB t 1000002 (.val (fnV h))] := by
  refine MSpec.intro Tryz.func188 rfl (by kernel_rfl) rfl (by exact (by repeat' (first | refine all_cons_true ?_ ?_ | rfl | exact bytes_inUse | exact vals_inUse | exact mid_inUse rfl))) (by exact (by repeat' (first | refine all_cons_true ?_ ?_ | rfl | exact bytes_inUse | exact vals_inUse | exact mid_inUse rfl))) rfl rfl ?_
  intro C
  (refine LWP.seq <| rgN <| K.box1 rfl rfl rfl .plain <| kas rfl <| RunK.nil <| LWP.seq <| rgN <| K.makeFuncP rfl rfl .plain ?_; refine kas rfl <| RunK.nil <| LWP.ret ?_)
  exact ⟨[(1000001, 1)], ⟨[_], ⟨rfl, trivial⟩, rfl⟩, (by repeat' (first | exact trivial | refine And.intro ⟨_, rfl, ?_⟩ ?_ | refine And.intro ⟨_, rfl⟩ ?_ | rfl | exact Box.ren_bytes _ _ _ _ | exact Box.ren_vals _ _ _ _ | exact Box.ren_mid rfl)), rfl, rfl⟩
theorem mA_ofThree (g : FuncId) : MSpec Tryz.prog X 194 [.sv (.one (.val (fnV g)))] [] (.sv (.one (ptrF 223 1000001))) [vB 297 1000001 (.val (fnV g))] := by
  refine MSpec.intro Tryz.func194 rfl (by kernel_rfl) rfl (by exact (by repeat' (first | refine all_cons_true ?_ ?_ | rfl | exact bytes_inUse | exact vals_inUse | exact mid_inUse rfl))) (by exact (by repeat' (first | refine all_cons_true ?_ ?_ | rfl | exact bytes_inUse | exact vals_inUse | exact mid_inUse rfl))) rfl rfl ?_
  intro C
  (refine LWP.seq <| rgN <| K.box1 rfl rfl rfl .plain <| kas rfl <| RunK.nil <| LWP.seq <| rgN <| K.makeFuncP rfl rfl .plain ?_; refine kas rfl <| RunK.nil <| LWP.ret ?_)
  exact ⟨[(1000001, 1)], ⟨[_], ⟨rfl, trivial⟩, rfl⟩, (by repeat' (first | exact trivial | refine And.intro ⟨_, rfl, ?_⟩ ?_ | refine And.intro ⟨_, rfl⟩ ?_ | rfl | exact Box.ren_bytes _ _ _ _ | exact Box.ren_vals _ _ _ _ | exact Box.ren_mid rfl)), rfl, rfl⟩
theorem mA_withZero (g : FuncId) : MSpec Tryz.prog X 189 [.sv (.one (.val (fnV g)))] [] (.sv (.one (ptrF 219 1000001))) [vB 275 1000001 (.val (fnV g))] := by
  refine MSpec.intro Tryz.func189 rfl (by kernel_rfl) rfl (by exact (by repeat' (first | refine all_cons_true ?_ ?_ | rfl | exact bytes_inUse | exact vals_inUse | exact mid_inUse rfl))) (by exact (by repeat' (first | refine all_cons_true ?_ ?_ | rfl | exact bytes_inUse | exact vals_inUse | exact mid_inUse rfl))) rfl rfl ?_
  intro C
  (refine LWP.seq <| rgN <| K.box1 rfl rfl rfl .plain <| kas rfl <| RunK.nil <| LWP.seq <| rgN <| K.makeFuncP rfl rfl .plain ?_; refine kas rfl <| RunK.nil <| LWP.ret ?_)
  exact ⟨[(1000001, 1)], ⟨[_], ⟨rfl, trivial⟩, rfl⟩, (by repeat' (first | exact trivial | refine And.intro ⟨_, rfl, ?_⟩ ?_ | refine And.intro ⟨_, rfl⟩ ?_ | rfl | exact Box.ren_bytes _ _ _ _ | exact Box.ren_vals _ _ _ _ | exact Box.ren_mid rfl)), rfl, rfl⟩
theorem mA_chosen (g : FuncId) : MSpec Tryz.prog X 190 [.sv (.one (.val (fnV g)))] [] (.sv (.one (ptrF 220 1000001))) [vB 275 1000001 (.val (fnV g))] := by
  refine MSpec.intro Tryz.func190 rfl (by kernel_rfl) rfl (by exact (by repeat' (first | refine all_cons_true ?_ ?_ | rfl | exact bytes_inUse | exact vals_inUse | exact mid_inUse rfl))) (by exact (by repeat' (first | refine all_cons_true ?_ ?_ | rfl | exact bytes_inUse | exact vals_inUse | exact mid_inUse rfl))) rfl rfl ?_
  intro C
  (refine LWP.seq <| rgN <| K.box1 rfl rfl rfl .plain <| kas rfl <| RunK.nil <| LWP.seq <| rgN <| K.makeFuncP rfl rfl .plain ?_; refine kas rfl <| RunK.nil <| LWP.ret ?_)
  exact ⟨[(1000001, 1)], ⟨[_], ⟨rfl, trivial⟩, rfl⟩, (by repeat' (first | exact trivial | refine And.intro ⟨_, rfl, ?_⟩ ?_ | refine And.intro ⟨_, rfl⟩ ?_ | rfl | exact Box.ren_bytes _ _ _ _ | exact Box.ren_vals _ _ _ _ | exact Box.ren_mid rfl)), rfl, rfl⟩
theorem mB_chosen (g h : FuncId) (t : TypeId) : MSpec Tryz.prog X 190 [.sv (.one (ptrF g 1000002))] [vB t 1000002 (.val (fnV h))] (.sv (.one (ptrF 220 1000001))) [vB 275 1000001 (ptrF g 1000002), vB t 1000002 (.val (fnV h))] := by
  refine MSpec.intro Tryz.func190 rfl (by kernel_rfl) rfl (by exact (by repeat' (first | refine all_cons_true ?_ ?_ | rfl | exact bytes_inUse | exact vals_inUse | exact mid_inUse rfl))) (by exact (by repeat' (first | refine all_cons_true ?_ ?_ | rfl | exact bytes_inUse | exact vals_inUse | exact mid_inUse rfl))) rfl rfl ?_
  intro C
  (refine LWP.seq <| rgN <| K.box1 rfl rfl rfl .plain <| kas rfl <| RunK.nil <| LWP.seq <| rgN <| K.makeFuncP rfl rfl .plain ?_; refine kas rfl <| RunK.nil <| LWP.ret ?_)
  exact ⟨[(1000001, 1)], ⟨[_], ⟨rfl, trivial⟩, rfl⟩, (by repeat' (first | exact trivial | refine And.intro ⟨_, rfl, ?_⟩ ?_ | refine And.intro ⟨_, rfl⟩ ?_ | rfl | exact Box.ren_bytes _ _ _ _ | exact Box.ren_vals _ _ _ _ | exact Box.ren_mid rfl)), rfl, rfl⟩
theorem mA_swapped (g : FuncId) : MSpec Tryz.prog X 192 [.sv (.one (.val (fnV g)))] [] (.sv (.one (ptrF 222 1000001))) [vB 275 1000001 (.val (fnV g))] := by
  refine MSpec.intro Tryz.func192 rfl (by kernel_rfl) rfl (by exact (by repeat' (first | refine all_cons_true ?_ ?_ | rfl | exact bytes_inUse | exact vals_inUse | exact mid_inUse rfl))) (by exact (by repeat' (first | refine all_cons_true ?_ ?_ | rfl | exact bytes_inUse | exact vals_inUse | exact mid_inUse rfl))) rfl rfl ?_
  intro C
  (refine LWP.seq <| rgN <| K.box1 rfl rfl rfl .plain <| kas rfl <| RunK.nil <| LWP.seq <| rgN <| K.makeFuncP rfl rfl .plain ?_; refine kas rfl <| RunK.nil <| LWP.ret ?_)
  exact ⟨[(1000001, 1)], ⟨[_], ⟨rfl, trivial⟩, rfl⟩, (by repeat' (first | exact trivial | refine And.intro ⟨_, rfl, ?_⟩ ?_ | refine And.intro ⟨_, rfl⟩ ?_ | rfl | exact Box.ren_bytes _ _ _ _ | exact Box.ren_vals _ _ _ _ | exact Box.ren_mid rfl)), rfl, rfl⟩
def deedR (f : FuncId) (op : Int) : Rsc := ⟨fun ρ H => DeedV H (.func (.func f) #[] #[pv ρ.1]) op⟩
section
variable {X : Nat → Option Obj} {n : Nat} {C : Ctx} {Mid : St → Prop} {s : List (Nat × LV)} {bx : List (Nat × Option Box)} {k k1 k2 k3 : Nat} {t1 t2 t3 : TypeId} {f g h : FuncId} {op : Int} {v : Value}
theorem deed_shut1 (hD : ∀ (Y : Nat → Option Obj) b a e fr, Y b = some (.cells a e fr) → a[0]? = some v → DeedV Y (.func (.func f) #[] #[pv b]) op)
    (hl : Leads n C Mid ⟨s, (k, some ⟨0, [], .res (deedR f op)⟩) :: bx, X⟩) : Leads n C Mid ⟨s, vB t1 k (.val v) :: bx, X⟩ := by
  have := Leads.closeRes (el := t1) (H := fun _ => none) (vals := [v]) (R := deedR f op) (OwnedM.nil C X) (fun ρ fr _ _ _ => hD _ ρ.1 _ t1 fr (withBlock_at _ _ _) rfl) hl
  rw [joinM_nil] at this
  exact this
theorem deed_shut2 (hD : ∀ (Y : Nat → Option Obj) b a e fr b' a' e' fr', Y b = some (.cells a e fr) → a[0]? = some v → Y b' = some (.cells a' e' fr') → a'[0]? = some (.func (.func g) #[] #[pv b]) → DeedV Y (.func (.func f) #[] #[pv b']) op)
    (h1 : Go.Lg.look k1 (vB t2 k2 (ptrF g k1) :: bx) = none) (h2 : s.all (fun p => p.2.inUse (vB t2 k2 (ptrF g k1) :: bx)) = true) (h3 : bx.all (fun p => match p.2 with | some b => b.cells.all (CV.inUse (vB t2 k2 (ptrF g k1) :: bx)) | none => true) = true)
    (hl : Leads n C Mid ⟨s, (k2, some ⟨0, [], .res (deedR f op)⟩) :: bx, X⟩) : Leads n C Mid ⟨s, vB t2 k2 (ptrF g k1) :: vB t1 k1 (.val v) :: bx, X⟩ := by
  refine Leads.fixBox (vals := [v]) (el := t1) (row := false) [] [vB t2 k2 (ptrF g k1)] h1 h2 h3 rfl (by simp [CV.fixIn]) ?_
  intro blk arr fr hX hF hsp
  obtain ⟨sp, hsp⟩ := hsp
  have ha : arr[0]? = some v := by rw [← Array.getElem?_toList, hsp]; rfl
  have hO : OwnedM C X (withBlock (fun _ => none) blk (.cells arr t1 fr)) := (OwnedM.nil C X).more hF (by rw [joinM_nil]; exact hX)
  have e : withBlock X blk (.cells arr t1 fr) = joinM X (withBlock (fun _ => none) blk (.cells arr t1 fr)) := by rw [← joinM_with, joinM_nil]
  rw [e]
  have hfix : fixB k1 blk [vB t2 k2 (ptrF g k1)] ++ bx = (k2, some ⟨t2, ([.func (.func g) #[] #[pv blk]] : List Value).map .val, false⟩) :: bx := by
    simp [fixB, Box.fix, CV.fix, Nat.beq_refl]
  rw [hfix]
  refine Leads.closeRes hO (fun ρ fr2 h5 h6 _ => ?_) hl
  exact hD _ blk arr t1 fr ρ.1 _ t2 fr2 (withBlock_old h5 _ _ (withBlock_at _ _ _)) ha (withBlock_at _ _ _) rfl
theorem deed_shut3 (hD : ∀ (Y : Nat → Option Obj) b a e fr b' a' e' fr' b2 a2 e2 fr2, Y b = some (.cells a e fr) → a[0]? = some v → Y b' = some (.cells a' e' fr') → a'[0]? = some (.func (.func h) #[] #[pv b]) → Y b2 = some (.cells a2 e2 fr2) → a2[0]? = some (.func (.func g) #[] #[pv b']) → DeedV Y (.func (.func f) #[] #[pv b2]) op)
    (h1 : Go.Lg.look k1 (vB t3 k3 (ptrF g k2) :: vB t2 k2 (ptrF h k1) :: bx) = none) (h2 : s.all (fun p => p.2.inUse (vB t3 k3 (ptrF g k2) :: vB t2 k2 (ptrF h k1) :: bx)) = true) (h3 : bx.all (fun p => match p.2 with | some b => b.cells.all (CV.inUse (vB t3 k3 (ptrF g k2) :: vB t2 k2 (ptrF h k1) :: bx)) | none => true) = true)
    (h1' : Go.Lg.look k2 (vB t3 k3 (ptrF g k2) :: bx) = none) (h2' : s.all (fun p => p.2.inUse (vB t3 k3 (ptrF g k2) :: bx)) = true) (h3' : bx.all (fun p => match p.2 with | some b => b.cells.all (CV.inUse (vB t3 k3 (ptrF g k2) :: bx)) | none => true) = true) (h4 : Nat.beq k2 k1 = false)
    (hl : Leads n C Mid ⟨s, (k3, some ⟨0, [], .res (deedR f op)⟩) :: bx, X⟩) : Leads n C Mid ⟨s, vB t3 k3 (ptrF g k2) :: vB t2 k2 (ptrF h k1) :: vB t1 k1 (.val v) :: bx, X⟩ := by
  have h5 : (Go.Lg.look k2 (vB t3 k3 (ptrF g k2) :: vB t2 k2 (ptrF h k1) :: bx)).isSome = true := by
    cases hb : Nat.beq k3 k2 with
    | true => simp only [Go.Lg.look, hb, cond_true]; rfl
    | false => simp only [Go.Lg.look, hb, cond_false, Nat.beq_refl, cond_true]; rfl
  refine Leads.fixBox (vals := [v]) (el := t1) (row := false) [] [vB t3 k3 (ptrF g k2), vB t2 k2 (ptrF h k1)] h1 h2 h3 rfl (by simp only [List.all_cons, List.all_nil, CV.fixIn, Nat.beq_refl, Bool.true_or, Bool.and_true, Bool.or_eq_true]; exact .inr h5) ?_
  intro blk arr fr hX hF hsp
  obtain ⟨sp, hsp⟩ := hsp
  have ha : arr[0]? = some v := by rw [← Array.getElem?_toList, hsp]; rfl
  have hO : OwnedM C X (withBlock (fun _ => none) blk (.cells arr t1 fr)) := (OwnedM.nil C X).more hF (by rw [joinM_nil]; exact hX)
  have e : withBlock X blk (.cells arr t1 fr) = joinM X (withBlock (fun _ => none) blk (.cells arr t1 fr)) := by rw [← joinM_with, joinM_nil]
  rw [e]
  have hfix : fixB k1 blk [vB t3 k3 (ptrF g k2), vB t2 k2 (ptrF h k1)] ++ bx = vB t3 k3 (ptrF g k2) :: (k2, some ⟨t2, ([.func (.func h) #[] #[pv blk]] : List Value).map .val, false⟩) :: bx := by
    simp [fixB, Box.fix, CV.fix, Nat.beq_refl, h4]
  rw [hfix]
  refine Leads.fixBox (vals := [.func (.func h) #[] #[pv blk]]) (el := t2) (row := false) [] [vB t3 k3 (ptrF g k2)] h1' h2' h3' rfl (by simp [CV.fixIn]) ?_
  intro blk2 arr2 fr2 hX2 hF2 hsp2
  obtain ⟨sp2, hsp2⟩ := hsp2
  have ha2 : arr2[0]? = some (.func (.func h) #[] #[pv blk]) := by rw [← Array.getElem?_toList, hsp2]; rfl
  have hO2 := hO.more (el := t2) hF2 hX2
  have hn2 := (joinM_none hX2).1
  rw [joinM_with]
  have hfix : fixB k2 blk2 [vB t3 k3 (ptrF g k2)] ++ bx = (k3, some ⟨t3, ([.func (.func g) #[] #[pv blk2]] : List Value).map .val, false⟩) :: bx := by
    simp [fixB, Box.fix, CV.fix, Nat.beq_refl]
  rw [hfix]
  refine Leads.closeRes hO2 (fun ρ fr3 h5 h6 _ => ?_) hl
  exact hD _ blk arr t1 fr blk2 arr2 t2 fr2 ρ.1 _ t3 fr3 (withBlock_old h5 _ _ (withBlock_old hn2 _ _ (withBlock_at _ _ _))) ha (withBlock_old h5 _ _ (withBlock_at _ _ _)) ha2 (withBlock_at _ _ _) rfl
end
theorem gd_truth (b : Bool) : gd (truth b) = true := by cases b <;> rfl
theorem pick_truth (b : Bool) (x y : Nm) : pickX (truth b) x y = .ok (if b = true then x else y) := by
  unfold pickX
  rw [gd_truth, if_neg (by decide)]
  cases b
  · rw [if_pos (show truth false = (false, 0) from rfl)]; rfl
  · rw [if_neg (show truth true ≠ (false, 0) by decide)]; rfl
theorem zz_inj {x y : Nm} (hx : In2 x.2) (hy : In2 y.2) (gx : gd x = true) (gy : gd y = true) (h : zz x = zz y) : x = y := by
  obtain ⟨a, M⟩ := x
  obtain ⟨b, N⟩ := y
  unfold gd formB at gx gy
  unfold zz zv at h
  unfold In2 at hx hy
  simp only at *
  cases a <;> cases b <;> simp_all <;> omega
theorem node_neg {u : Nm} (hu : In2 u.2) : nodeX 10 [u] = doX 6 (false, 0) u := by
  rw [nodeX]
  unfold doX
  rw [show (gd (false, 0) && gd u) = gd u by rw [show gd (false, 0) = true from rfl, Bool.true_and]]
  cases g : gd u with
  | false => rfl
  | true =>
    have hr := (gd_q g hu).2
    rw [if_neg (by decide), if_pos rfl, if_neg (by decide), if_neg (by omega), show arith 6 (zz (false, 0)) (zz u) = -(zz u) by unfold arith; rw [if_neg (by decide), if_pos rfl, show zz (false, 0) = 0 from rfl]; omega, if_pos (by unfold R127 at *; omega)]
theorem node_not (u : Nm) : nodeX 15 [u] = sameX (false, 0) u := by
  rw [nodeX]
  unfold sameX truX
  rw [show (gd (false, 0) && gd u) = gd u by rw [show gd (false, 0) = true from rfl, Bool.true_and], if_neg (show ¬ (15 : Int) = 10 by decide)]
  have e : decide (((false, 0) : Nm) = u) = decide (u = (false, 0)) := by
    by_cases h : u = (false, 0)
    · rw [decide_eq_true h, decide_eq_true h.symm]
    · rw [decide_eq_false h, decide_eq_false (fun e => h e.symm)]
  rw [e]
theorem less_ok {x y a : Nm} (h : lessX x y = .ok a) : In2 a.2 := by
  unfold lessX truX at h
  split at h
  · cases h
  · cases h; exact truth_in2 _
theorem less_err {x y : Nm} {e : Int} (h : lessX x y = .error e) : e ≠ 0 := by
  unfold lessX truX at h
  split at h
  · cases h; decide
  · cases h
theorem node_least {x y : Nm} (hx : In2 x.2) (hy : In2 y.2) : nodeX 11 [x, y] = choX lessX x y := by
  rw [nodeX]
  rw [if_neg (by decide), if_neg (by decide), if_pos (rfl : (11 : Int) = 11)]
  unfold choX lessX truX
  cases g : (gd x && gd y) with
  | false => rfl
  | true =>
    obtain ⟨gx, gy⟩ := Bool.and_eq_true_iff.1 g
    simp only [Bool.true_eq_false, if_false, pick_truth]
    by_cases h : zz x < zz y
    · rw [if_neg (by omega), if_pos (decide_eq_true h)]
    · rw [if_neg (show ¬ decide (zz x < zz y) = true by rw [decide_eq_false h]; decide)]
      by_cases h2 : zz y < zz x
      · rw [if_pos h2]
      · rw [if_neg h2, zz_inj hx hy gx gy (by omega)]
theorem node_great {x y : Nm} (hx : In2 x.2) (hy : In2 y.2) : nodeX 12 [x, y] = choX (fun x y => lessX y x) x y := by
  rw [nodeX]
  rw [if_neg (by decide), if_neg (by decide), if_neg (show ¬ (12 : Int) = 11 by decide), if_pos (rfl : (12 : Int) = 12)]
  unfold choX lessX truX
  simp only
  rw [Bool.and_comm]
  cases g : (gd y && gd x) with
  | false => rfl
  | true =>
    obtain ⟨gy, gx⟩ := Bool.and_eq_true_iff.1 g
    simp only [Bool.true_eq_false, if_false, pick_truth]
    by_cases h : zz y < zz x
    · rw [if_neg (by omega), if_pos (decide_eq_true h)]
    · rw [if_neg (show ¬ decide (zz y < zz x) = true by rw [decide_eq_false h]; decide)]
      by_cases h2 : zz x < zz y
      · rw [if_pos h2]
      · rw [if_neg h2, zz_inj hx hy gx gy (by omega)]
theorem node_same (x y : Nm) : nodeX 13 [x, y] = sameX x y := by
  rw [nodeX]
  rw [if_neg (by decide), if_neg (by decide), if_neg (show ¬ (13 : Int) = 11 by decide), if_neg (show ¬ (13 : Int) = 12 by decide), if_pos (rfl : (13 : Int) = 13)]
  rfl
theorem node_less (x y : Nm) : nodeX 14 [x, y] = lessX x y := by
  rw [nodeX]
  rw [if_neg (by decide), if_neg (by decide), if_neg (show ¬ (14 : Int) = 11 by decide), if_neg (show ¬ (14 : Int) = 12 by decide), if_neg (show ¬ (14 : Int) = 13 by decide)]
  rfl
theorem node_need (x y : Nm) : nodeX 17 [x, y] = needX x y := by
  rw [nodeX]
  rw [if_neg (by decide), if_pos rfl]
  rfl
theorem node_do {op : Int} (ho : 5 ≤ op ∧ op ≤ 9) (x y : Nm) : nodeX op [x, y] = doX op x y := if_pos ho
def cloF (op : Int) : FuncId := if op = 16 then 223 else if op = 10 ∨ op = 15 then 218 else 211
def wordS (op : Int) : List UInt8 := if 5 ≤ op ∧ op ≤ 17 then wordX op else []
def rowL (op : Int) : List Value := [.string ⟨(wordS op).toArray⟩, .int .i64 (takes op : Nat), .bool (op == 2 || op == 3), .bool (op == 2), .bool (op == 1)]
abbrev LRow (op : Int) (c : CV) : LV := .sv (.agg ((rowL op).map .val ++ [c]))
abbrev dB (k : Nat) (op : Int) : Nat × Option Box := (k, some ⟨0, [], .res (deedR (cloF op) op)⟩)
def leafV (op : Int) : Value := if op = 1 then fnV 178 else if op = 2 then fnV 179 else if op = 3 then fnV 180 else if op = 4 then fnV 181 else .nilFunc
def rwR (op : Int) : LV := if 5 ≤ op ∧ op ≤ 17 then LRow op (ptrF (cloF op) 1000001) else LRow op (.val (leafV op))
def rwBx (op : Int) : List (Nat × Option Box) := if 5 ≤ op ∧ op ≤ 17 then [dB 1000001 op] else []
theorem rw_fn {op : Int} (h : 5 ≤ op ∧ op ≤ 17) : rwR op = LRow op (ptrF (cloF op) 1000001) ∧ rwBx op = [dB 1000001 op] := ⟨if_pos h, if_pos h⟩
theorem rw_no {op : Int} (h : ¬ (5 ≤ op ∧ op ≤ 17)) : rwR op = LRow op (.val (leafV op)) ∧ rwBx op = [] := ⟨if_neg h, if_neg h⟩
theorem rwBx_use (op : Int) : ((rwBx op).all fun p => match p.2 with | some b => b.cells.all (CV.inUse (rwBx op)) | none => true) = true := by
  by_cases h : 5 ≤ op ∧ op ≤ 17
  · rw [(rw_fn h).2]; rfl
  · rw [(rw_no h).2]; rfl
theorem rwR_use (op : Int) : LV.inUse (rwBx op) (rwR op) = true := by
  by_cases h : 5 ≤ op ∧ op ≤ 17
  · rw [(rw_fn h).1, (rw_fn h).2]; rfl
  · rw [(rw_no h).1, (rw_no h).2]; rfl
theorem rowL_bad {op : Int} (h : op < 1 ∨ 17 < op) : rowL op = [.string ⟨#[]⟩, .int .i64 0, .bool false, .bool false, .bool false] := by
  unfold rowL wordS
  rw [if_neg (by omega), takes_out (by omega), beq_eq_false_iff_ne.2 (show op ≠ 2 by omega), beq_eq_false_iff_ne.2 (show op ≠ 3 by omega), beq_eq_false_iff_ne.2 (show op ≠ 1 by omega)]
  rfl
set_option maxHeartbeats 12800000 in
theorem rowOf_all (op : Int) : MSpec Tryz.prog X 143 [Ln .i64 op] [] (rwR op) (rwBx op) := by
  refine MSpec.intro Tryz.func143 rfl (by kernel_rfl) rfl (rwR_use op) (rwBx_use op) rfl rfl ?_
  intro C
  refine LWP.ends ?_
  (refine LWP.seq <| rgN <| K.alloc rfl .plain ?_; refine RunK.nil <| LWP.seq <| LWP.seq <| rgN <| kmv rfl <| RunK.nil <| LWP.block <| LWP.seq ?_)
  by_cases c1 : op = 1
  · subst c1
    rw [(rw_no (op := 1) (by decide)).1, (rw_no (op := 1) (by decide)).2]
    (refine rgN <| keq rfl rfl (r := true) rfl <| kas rfl <| RunK.nil <| LWP.condT rfl ?_; refine LWP.seq <| rgN <| K.build rfl rfl (by exact rfl) (by exact nl3 rfl rfl rfl rfl) .plain ?_; refine K.build rfl rfl (by exact rfl) (by exact nl6 rfl rfl rfl rfl rfl rfl rfl) .plain ?_; refine K.storeAll rfl rfl rfl rfl rfl rfl .plain ?_; refine RunK.nil <| LWP.ret ?_)
    exact Leads.done ⟨[], ⟨[_], ⟨⟨_, _, rfl, rfl, rfl, .inl ⟨AggT.h, rfl⟩⟩, trivial⟩, rfl⟩, trivial, rfl, rfl⟩
  (refine rgN <| keq rfl rfl (r := false) (beq_eq_false_iff_ne.2 c1) <| kas rfl <| RunK.nil <| LWP.condF rfl ?_; refine LWP.seq ?_)
  by_cases c2 : op = 2
  · subst c2
    rw [(rw_no (op := 2) (by decide)).1, (rw_no (op := 2) (by decide)).2]
    (refine rgN <| keq rfl rfl (r := true) rfl <| kas rfl <| RunK.nil <| LWP.condT rfl ?_; refine LWP.seq <| rgN <| K.build rfl rfl (by exact rfl) (by exact nl3 rfl rfl rfl rfl) .plain ?_; refine K.build rfl rfl (by exact rfl) (by exact nl6 rfl rfl rfl rfl rfl rfl rfl) .plain ?_; refine K.storeAll rfl rfl rfl rfl rfl rfl .plain ?_; refine RunK.nil <| LWP.ret ?_)
    exact Leads.done ⟨[], ⟨[_], ⟨⟨_, _, rfl, rfl, rfl, .inl ⟨AggT.h, rfl⟩⟩, trivial⟩, rfl⟩, trivial, rfl, rfl⟩
  (refine rgN <| keq rfl rfl (r := false) (beq_eq_false_iff_ne.2 c2) <| kas rfl <| RunK.nil <| LWP.condF rfl ?_; refine LWP.seq ?_)
  by_cases c3 : op = 3
  · subst c3
    rw [(rw_no (op := 3) (by decide)).1, (rw_no (op := 3) (by decide)).2]
    (refine rgN <| keq rfl rfl (r := true) rfl <| kas rfl <| RunK.nil <| LWP.condT rfl ?_; refine LWP.seq <| rgN <| K.build rfl rfl (by exact rfl) (by exact nl3 rfl rfl rfl rfl) .plain ?_; refine K.build rfl rfl (by exact rfl) (by exact nl6 rfl rfl rfl rfl rfl rfl rfl) .plain ?_; refine K.storeAll rfl rfl rfl rfl rfl rfl .plain ?_; refine RunK.nil <| LWP.ret ?_)
    exact Leads.done ⟨[], ⟨[_], ⟨⟨_, _, rfl, rfl, rfl, .inl ⟨AggT.h, rfl⟩⟩, trivial⟩, rfl⟩, trivial, rfl, rfl⟩
  (refine rgN <| keq rfl rfl (r := false) (beq_eq_false_iff_ne.2 c3) <| kas rfl <| RunK.nil <| LWP.condF rfl ?_; refine LWP.seq ?_)
  by_cases c4 : op = 4
  · subst c4
    rw [(rw_no (op := 4) (by decide)).1, (rw_no (op := 4) (by decide)).2]
    (refine rgN <| keq rfl rfl (r := true) rfl <| kas rfl <| RunK.nil <| LWP.condT rfl ?_; refine LWP.seq <| rgN <| K.build rfl rfl (by exact rfl) (by exact nl6 rfl rfl rfl rfl rfl rfl rfl) .plain ?_; refine K.storeAll rfl rfl rfl rfl rfl rfl .plain ?_; refine RunK.nil <| LWP.ret ?_)
    exact Leads.done ⟨[], ⟨[_], ⟨⟨_, _, rfl, rfl, rfl, .inl ⟨AggT.h, rfl⟩⟩, trivial⟩, rfl⟩, trivial, rfl, rfl⟩
  (refine rgN <| keq rfl rfl (r := false) (beq_eq_false_iff_ne.2 c4) <| kas rfl <| RunK.nil <| LWP.condF rfl ?_; refine LWP.seq ?_)
  by_cases c5 : op = 5
  · subst c5
    rw [(rw_fn (op := 5) (by decide)).1, (rw_fn (op := 5) (by decide)).2]
    (refine rgN <| keq rfl rfl (r := true) rfl <| kas rfl <| RunK.nil <| LWP.condT rfl ?_; refine LWP.seq <| rgN <| K.callMp [(1000001, 501)] (.sv (.one (ptrF 211 501))) [vB 275 501 (.val (fnV 183))] ((mA_ofTwo X 183)) rfl rfl (by exact trivial) rfl rfl rfl rfl rfl (by exact (.box rfl rfl .nil)) .plain <| K.build rfl rfl (by exact rfl) (by exact nl6 rfl rfl rfl rfl rfl rfl rfl) .plain ?_; refine K.storeAll rfl rfl rfl rfl rfl rfl .plain ?_; refine RunK.nil <| LWP.ret ?_)
    refine Leads.le (σ' := ⟨[(2, Lp 2)], vB 275 501 (.val (fnV 183)) :: (2, some ⟨190, (rowL 5).map .val ++ [ptrF (cloF 5) 501], false⟩) :: [], X⟩) (Le.of (by exact ⟨rfl, trivial⟩) (by exact ⟨rfl, rfl, trivial⟩) (by exact rfl) (by exact rfl) (by repeat' (first | refine all_cons_true ?_ ?_ | rfl | exact bytes_inUse | exact vals_inUse | exact mid_inUse rfl))) ?_
    refine deed_shut1 (f := cloF 5) (op := 5) (fun Y _ _ _ _ h1 h2 => deed_two rfl h1 h2 (two_fn Y (fun Z x y hx hy => wAdd_do Z x y hx hy)) (fun u w _ _ => node_do (by decide) u w)) (Leads.done ?_)
    exact ⟨[(1000001, 501)], ⟨[_], ⟨⟨_, _, rfl, rfl, rfl, .inl ⟨AggT.h, rfl⟩⟩, trivial⟩, rfl⟩, (by repeat' (first | exact trivial | refine And.intro ⟨_, rfl, ?_⟩ ?_ | refine And.intro ⟨_, rfl⟩ ?_ | rfl | exact Box.ren_bytes _ _ _ _ | exact Box.ren_vals _ _ _ _ | exact Box.ren_mid rfl)), rfl, rfl⟩
  (refine rgN <| keq rfl rfl (r := false) (beq_eq_false_iff_ne.2 c5) <| kas rfl <| RunK.nil <| LWP.condF rfl ?_; refine LWP.seq ?_)
  by_cases c6 : op = 6
  · subst c6
    rw [(rw_fn (op := 6) (by decide)).1, (rw_fn (op := 6) (by decide)).2]
    (refine rgN <| keq rfl rfl (r := true) rfl <| kas rfl <| RunK.nil <| LWP.condT rfl ?_; refine LWP.seq <| rgN <| K.callMp [(1000001, 501)] (.sv (.one (ptrF 211 501))) [vB 275 501 (.val (fnV 184))] ((mA_ofTwo X 184)) rfl rfl (by exact trivial) rfl rfl rfl rfl rfl (by exact (.box rfl rfl .nil)) .plain <| K.build rfl rfl (by exact rfl) (by exact nl6 rfl rfl rfl rfl rfl rfl rfl) .plain ?_; refine K.storeAll rfl rfl rfl rfl rfl rfl .plain ?_; refine RunK.nil <| LWP.ret ?_)
    refine Leads.le (σ' := ⟨[(2, Lp 2)], vB 275 501 (.val (fnV 184)) :: (2, some ⟨190, (rowL 6).map .val ++ [ptrF (cloF 6) 501], false⟩) :: [], X⟩) (Le.of (by exact ⟨rfl, trivial⟩) (by exact ⟨rfl, rfl, trivial⟩) (by exact rfl) (by exact rfl) (by repeat' (first | refine all_cons_true ?_ ?_ | rfl | exact bytes_inUse | exact vals_inUse | exact mid_inUse rfl))) ?_
    refine deed_shut1 (f := cloF 6) (op := 6) (fun Y _ _ _ _ h1 h2 => deed_two rfl h1 h2 (two_fn Y (fun Z x y hx hy => wSub_do Z x y hx hy)) (fun u w _ _ => node_do (by decide) u w)) (Leads.done ?_)
    exact ⟨[(1000001, 501)], ⟨[_], ⟨⟨_, _, rfl, rfl, rfl, .inl ⟨AggT.h, rfl⟩⟩, trivial⟩, rfl⟩, (by repeat' (first | exact trivial | refine And.intro ⟨_, rfl, ?_⟩ ?_ | refine And.intro ⟨_, rfl⟩ ?_ | rfl | exact Box.ren_bytes _ _ _ _ | exact Box.ren_vals _ _ _ _ | exact Box.ren_mid rfl)), rfl, rfl⟩
  (refine rgN <| keq rfl rfl (r := false) (beq_eq_false_iff_ne.2 c6) <| kas rfl <| RunK.nil <| LWP.condF rfl ?_; refine LWP.seq ?_)
  by_cases c7 : op = 7
  · subst c7
    rw [(rw_fn (op := 7) (by decide)).1, (rw_fn (op := 7) (by decide)).2]
    (refine rgN <| keq rfl rfl (r := true) rfl <| kas rfl <| RunK.nil <| LWP.condT rfl ?_; refine LWP.seq <| rgN <| K.callMp [(1000001, 501)] (.sv (.one (ptrF 211 501))) [vB 275 501 (.val (fnV 185))] ((mA_ofTwo X 185)) rfl rfl (by exact trivial) rfl rfl rfl rfl rfl (by exact (.box rfl rfl .nil)) .plain <| K.build rfl rfl (by exact rfl) (by exact nl6 rfl rfl rfl rfl rfl rfl rfl) .plain ?_; refine K.storeAll rfl rfl rfl rfl rfl rfl .plain ?_; refine RunK.nil <| LWP.ret ?_)
    refine Leads.le (σ' := ⟨[(2, Lp 2)], vB 275 501 (.val (fnV 185)) :: (2, some ⟨190, (rowL 7).map .val ++ [ptrF (cloF 7) 501], false⟩) :: [], X⟩) (Le.of (by exact ⟨rfl, trivial⟩) (by exact ⟨rfl, rfl, trivial⟩) (by exact rfl) (by exact rfl) (by repeat' (first | refine all_cons_true ?_ ?_ | rfl | exact bytes_inUse | exact vals_inUse | exact mid_inUse rfl))) ?_
    refine deed_shut1 (f := cloF 7) (op := 7) (fun Y _ _ _ _ h1 h2 => deed_two rfl h1 h2 (two_fn Y (fun Z x y hx hy => wMul_do Z x y hx hy)) (fun u w _ _ => node_do (by decide) u w)) (Leads.done ?_)
    exact ⟨[(1000001, 501)], ⟨[_], ⟨⟨_, _, rfl, rfl, rfl, .inl ⟨AggT.h, rfl⟩⟩, trivial⟩, rfl⟩, (by repeat' (first | exact trivial | refine And.intro ⟨_, rfl, ?_⟩ ?_ | refine And.intro ⟨_, rfl⟩ ?_ | rfl | exact Box.ren_bytes _ _ _ _ | exact Box.ren_vals _ _ _ _ | exact Box.ren_mid rfl)), rfl, rfl⟩
  (refine rgN <| keq rfl rfl (r := false) (beq_eq_false_iff_ne.2 c7) <| kas rfl <| RunK.nil <| LWP.condF rfl ?_; refine LWP.seq ?_)
  by_cases c8 : op = 8
  · subst c8
    rw [(rw_fn (op := 8) (by decide)).1, (rw_fn (op := 8) (by decide)).2]
    (refine rgN <| keq rfl rfl (r := true) rfl <| kas rfl <| RunK.nil <| LWP.condT rfl ?_; refine LWP.seq <| rgN <| K.callMp [(1000001, 501)] (.sv (.one (ptrF 211 501))) [vB 275 501 (.val (fnV 186))] ((mA_ofTwo X 186)) rfl rfl (by exact trivial) rfl rfl rfl rfl rfl (by exact (.box rfl rfl .nil)) .plain <| K.build rfl rfl (by exact rfl) (by exact nl6 rfl rfl rfl rfl rfl rfl rfl) .plain ?_; refine K.storeAll rfl rfl rfl rfl rfl rfl .plain ?_; refine RunK.nil <| LWP.ret ?_)
    refine Leads.le (σ' := ⟨[(2, Lp 2)], vB 275 501 (.val (fnV 186)) :: (2, some ⟨190, (rowL 8).map .val ++ [ptrF (cloF 8) 501], false⟩) :: [], X⟩) (Le.of (by exact ⟨rfl, trivial⟩) (by exact ⟨rfl, rfl, trivial⟩) (by exact rfl) (by exact rfl) (by repeat' (first | refine all_cons_true ?_ ?_ | rfl | exact bytes_inUse | exact vals_inUse | exact mid_inUse rfl))) ?_
    refine deed_shut1 (f := cloF 8) (op := 8) (fun Y _ _ _ _ h1 h2 => deed_two rfl h1 h2 (two_fn Y (fun Z x y hx hy => wQuo_do Z x y hx hy)) (fun u w _ _ => node_do (by decide) u w)) (Leads.done ?_)
    exact ⟨[(1000001, 501)], ⟨[_], ⟨⟨_, _, rfl, rfl, rfl, .inl ⟨AggT.h, rfl⟩⟩, trivial⟩, rfl⟩, (by repeat' (first | exact trivial | refine And.intro ⟨_, rfl, ?_⟩ ?_ | refine And.intro ⟨_, rfl⟩ ?_ | rfl | exact Box.ren_bytes _ _ _ _ | exact Box.ren_vals _ _ _ _ | exact Box.ren_mid rfl)), rfl, rfl⟩
  (refine rgN <| keq rfl rfl (r := false) (beq_eq_false_iff_ne.2 c8) <| kas rfl <| RunK.nil <| LWP.condF rfl ?_; refine LWP.seq ?_)
  by_cases c9 : op = 9
  · subst c9
    rw [(rw_fn (op := 9) (by decide)).1, (rw_fn (op := 9) (by decide)).2]
    (refine rgN <| keq rfl rfl (r := true) rfl <| kas rfl <| RunK.nil <| LWP.condT rfl ?_; refine LWP.seq <| rgN <| K.callMp [(1000001, 501)] (.sv (.one (ptrF 211 501))) [vB 275 501 (.val (fnV 187))] ((mA_ofTwo X 187)) rfl rfl (by exact trivial) rfl rfl rfl rfl rfl (by exact (.box rfl rfl .nil)) .plain <| K.build rfl rfl (by exact rfl) (by exact nl6 rfl rfl rfl rfl rfl rfl rfl) .plain ?_; refine K.storeAll rfl rfl rfl rfl rfl rfl .plain ?_; refine RunK.nil <| LWP.ret ?_)
    refine Leads.le (σ' := ⟨[(2, Lp 2)], vB 275 501 (.val (fnV 187)) :: (2, some ⟨190, (rowL 9).map .val ++ [ptrF (cloF 9) 501], false⟩) :: [], X⟩) (Le.of (by exact ⟨rfl, trivial⟩) (by exact ⟨rfl, rfl, trivial⟩) (by exact rfl) (by exact rfl) (by repeat' (first | refine all_cons_true ?_ ?_ | rfl | exact bytes_inUse | exact vals_inUse | exact mid_inUse rfl))) ?_
    refine deed_shut1 (f := cloF 9) (op := 9) (fun Y _ _ _ _ h1 h2 => deed_two rfl h1 h2 (two_fn Y (fun Z x y hx hy => wRem_do Z x y hx hy)) (fun u w _ _ => node_do (by decide) u w)) (Leads.done ?_)
    exact ⟨[(1000001, 501)], ⟨[_], ⟨⟨_, _, rfl, rfl, rfl, .inl ⟨AggT.h, rfl⟩⟩, trivial⟩, rfl⟩, (by repeat' (first | exact trivial | refine And.intro ⟨_, rfl, ?_⟩ ?_ | refine And.intro ⟨_, rfl⟩ ?_ | rfl | exact Box.ren_bytes _ _ _ _ | exact Box.ren_vals _ _ _ _ | exact Box.ren_mid rfl)), rfl, rfl⟩
  (refine rgN <| keq rfl rfl (r := false) (beq_eq_false_iff_ne.2 c9) <| kas rfl <| RunK.nil <| LWP.condF rfl ?_; refine LWP.seq ?_)
  by_cases c10 : op = 10
  · subst c10
    rw [(rw_fn (op := 10) (by decide)).1, (rw_fn (op := 10) (by decide)).2]
    (refine rgN <| keq rfl rfl (r := true) rfl <| kas rfl <| RunK.nil <| LWP.condT rfl ?_; refine LWP.seq <| rgN <| K.callMp [(1000001, 501)] (.sv (.one (ptrF 219 501))) [vB 275 501 (.val (fnV 184))] ((mA_withZero X 184)) rfl rfl (by exact trivial) rfl rfl rfl rfl rfl (by exact (.box rfl rfl .nil)) .plain <| K.callMp [(1000001, 502), (1000002, 501)] (.sv (.one (ptrF 218 502))) [vB 273 502 (ptrF 219 501), vB 275 501 (.val (fnV 184))] ((mB_ofOne X 219 184 275)) rfl rfl (by exact (And.intro ⟨_, rfl, rfl⟩ trivial)) (by exact (all_cons_true (all_cons_true rfl rfl) rfl)) rfl rfl rfl rfl (by exact (.box rfl rfl (.box rfl rfl .nil))) .plain <| K.build rfl rfl (by exact rfl) (by exact nl6 rfl rfl rfl rfl rfl rfl rfl) .plain ?_; refine K.storeAll rfl rfl rfl rfl rfl rfl .plain ?_; refine RunK.nil <| LWP.ret ?_)
    refine Leads.le (σ' := ⟨[(2, Lp 2)], vB 273 502 (ptrF 219 501) :: vB 275 501 (.val (fnV 184)) :: (2, some ⟨190, (rowL 10).map .val ++ [ptrF (cloF 10) 502], false⟩) :: [], X⟩) (Le.of (by exact ⟨rfl, trivial⟩) (by exact ⟨rfl, rfl, rfl, trivial⟩) (by exact rfl) (by exact rfl) (by repeat' (first | refine all_cons_true ?_ ?_ | rfl | exact bytes_inUse | exact vals_inUse | exact mid_inUse rfl))) ?_
    refine deed_shut2 (f := cloF 10) (op := 10) (fun Y _ _ _ _ _ _ _ _ h1 h2 h3 h4 => deed_one rfl h3 h4 (one_zero h1 h2 (two_fn Y (fun Z x y hx hy => wSub_do Z x y hx hy))) (fun u hu => node_neg hu)) rfl rfl rfl (Leads.done ?_)
    exact ⟨[(1000001, 502)], ⟨[_], ⟨⟨_, _, rfl, rfl, rfl, .inl ⟨AggT.h, rfl⟩⟩, trivial⟩, rfl⟩, (by repeat' (first | exact trivial | refine And.intro ⟨_, rfl, ?_⟩ ?_ | refine And.intro ⟨_, rfl⟩ ?_ | rfl | exact Box.ren_bytes _ _ _ _ | exact Box.ren_vals _ _ _ _ | exact Box.ren_mid rfl)), rfl, rfl⟩
  (refine rgN <| keq rfl rfl (r := false) (beq_eq_false_iff_ne.2 c10) <| kas rfl <| RunK.nil <| LWP.condF rfl ?_; refine LWP.seq ?_)
  by_cases c11 : op = 11
  · subst c11
    rw [(rw_fn (op := 11) (by decide)).1, (rw_fn (op := 11) (by decide)).2]
    (refine rgN <| keq rfl rfl (r := true) rfl <| kas rfl <| RunK.nil <| LWP.condT rfl ?_; refine LWP.seq <| rgN <| K.callMp [(1000001, 501)] (.sv (.one (ptrF 220 501))) [vB 275 501 (.val (fnV 191))] ((mA_chosen X 191)) rfl rfl (by exact trivial) rfl rfl rfl rfl rfl (by exact (.box rfl rfl .nil)) .plain <| K.callMp [(1000001, 502), (1000002, 501)] (.sv (.one (ptrF 211 502))) [vB 275 502 (ptrF 220 501), vB 275 501 (.val (fnV 191))] ((mB_ofTwo X 220 191 275)) rfl rfl (by exact (And.intro ⟨_, rfl, rfl⟩ trivial)) (by exact (all_cons_true (all_cons_true rfl rfl) rfl)) rfl rfl rfl rfl (by exact (.box rfl rfl (.box rfl rfl .nil))) .plain <| K.build rfl rfl (by exact rfl) (by exact nl6 rfl rfl rfl rfl rfl rfl rfl) .plain ?_; refine K.storeAll rfl rfl rfl rfl rfl rfl .plain ?_; refine RunK.nil <| LWP.ret ?_)
    refine Leads.le (σ' := ⟨[(2, Lp 2)], vB 275 502 (ptrF 220 501) :: vB 275 501 (.val (fnV 191)) :: (2, some ⟨190, (rowL 11).map .val ++ [ptrF (cloF 11) 502], false⟩) :: [], X⟩) (Le.of (by exact ⟨rfl, trivial⟩) (by exact ⟨rfl, rfl, rfl, trivial⟩) (by exact rfl) (by exact rfl) (by repeat' (first | refine all_cons_true ?_ ?_ | rfl | exact bytes_inUse | exact vals_inUse | exact mid_inUse rfl))) ?_
    refine deed_shut2 (f := cloF 11) (op := 11) (fun Y _ _ _ _ _ _ _ _ h1 h2 h3 h4 => deed_two rfl h3 h4 (two_chosen h1 h2 (two_fn Y (fun Z x y hx hy => tLess Z x y hx hy)) (fun _ _ _ h => less_ok h) (fun _ _ _ h => less_err h)) (fun u w hu hw => node_least hu hw)) rfl rfl rfl (Leads.done ?_)
    exact ⟨[(1000001, 502)], ⟨[_], ⟨⟨_, _, rfl, rfl, rfl, .inl ⟨AggT.h, rfl⟩⟩, trivial⟩, rfl⟩, (by repeat' (first | exact trivial | refine And.intro ⟨_, rfl, ?_⟩ ?_ | refine And.intro ⟨_, rfl⟩ ?_ | rfl | exact Box.ren_bytes _ _ _ _ | exact Box.ren_vals _ _ _ _ | exact Box.ren_mid rfl)), rfl, rfl⟩
  (refine rgN <| keq rfl rfl (r := false) (beq_eq_false_iff_ne.2 c11) <| kas rfl <| RunK.nil <| LWP.condF rfl ?_; refine LWP.seq ?_)
  by_cases c12 : op = 12
  · subst c12
    rw [(rw_fn (op := 12) (by decide)).1, (rw_fn (op := 12) (by decide)).2]
    (refine rgN <| keq rfl rfl (r := true) rfl <| kas rfl <| RunK.nil <| LWP.condT rfl ?_; refine LWP.seq <| rgN <| K.callMp [(1000001, 501)] (.sv (.one (ptrF 222 501))) [vB 275 501 (.val (fnV 191))] ((mA_swapped X 191)) rfl rfl (by exact trivial) rfl rfl rfl rfl rfl (by exact (.box rfl rfl .nil)) .plain <| K.callMp [(1000001, 502), (1000002, 501)] (.sv (.one (ptrF 220 502))) [vB 275 502 (ptrF 222 501), vB 275 501 (.val (fnV 191))] ((mB_chosen X 222 191 275)) rfl rfl (by exact (And.intro ⟨_, rfl, rfl⟩ trivial)) (by exact (all_cons_true (all_cons_true rfl rfl) rfl)) rfl rfl rfl rfl (by exact (.box rfl rfl (.box rfl rfl .nil))) .plain <| K.callMp [(1000001, 503), (1000002, 502), (1000003, 501)] (.sv (.one (ptrF 211 503))) [vB 275 503 (ptrF 220 502), vB 275 502 (ptrF 222 501), vB 275 501 (.val (fnV 191))] ((mC_ofTwo X 220 222 191 275)) rfl rfl (by exact (And.intro ⟨_, rfl, rfl⟩ (And.intro ⟨_, rfl, rfl⟩ trivial))) (by exact (all_cons_true (all_cons_true rfl rfl) (all_cons_true (all_cons_true rfl rfl) rfl))) rfl rfl rfl rfl (by exact (.box rfl rfl (.box rfl rfl (.box rfl rfl .nil)))) .plain <| K.build rfl rfl (by exact rfl) (by exact nl6 rfl rfl rfl rfl rfl rfl rfl) .plain ?_; refine K.storeAll rfl rfl rfl rfl rfl rfl .plain ?_; refine RunK.nil <| LWP.ret ?_)
    refine Leads.le (σ' := ⟨[(2, Lp 2)], vB 275 503 (ptrF 220 502) :: vB 275 502 (ptrF 222 501) :: vB 275 501 (.val (fnV 191)) :: (2, some ⟨190, (rowL 12).map .val ++ [ptrF (cloF 12) 503], false⟩) :: [], X⟩) (Le.of (by exact ⟨rfl, trivial⟩) (by exact ⟨rfl, rfl, rfl, rfl, trivial⟩) (by exact rfl) (by exact rfl) (by repeat' (first | refine all_cons_true ?_ ?_ | rfl | exact bytes_inUse | exact vals_inUse | exact mid_inUse rfl))) ?_
    refine deed_shut3 (f := cloF 12) (op := 12) (fun Y _ _ _ _ _ _ _ _ _ _ _ _ h1 h2 h3 h4 h5 h6 => deed_two rfl h5 h6 (two_chosen h3 h4 (two_swapped h1 h2 (two_fn Y (fun Z x y hx hy => tLess Z x y hx hy))) (fun _ _ _ h => less_ok h) (fun _ _ _ h => less_err h)) (fun u w hu hw => node_great hu hw)) rfl rfl rfl rfl rfl rfl rfl (Leads.done ?_)
    exact ⟨[(1000001, 503)], ⟨[_], ⟨⟨_, _, rfl, rfl, rfl, .inl ⟨AggT.h, rfl⟩⟩, trivial⟩, rfl⟩, (by repeat' (first | exact trivial | refine And.intro ⟨_, rfl, ?_⟩ ?_ | refine And.intro ⟨_, rfl⟩ ?_ | rfl | exact Box.ren_bytes _ _ _ _ | exact Box.ren_vals _ _ _ _ | exact Box.ren_mid rfl)), rfl, rfl⟩
  (refine rgN <| keq rfl rfl (r := false) (beq_eq_false_iff_ne.2 c12) <| kas rfl <| RunK.nil <| LWP.condF rfl ?_; refine LWP.seq ?_)
  by_cases c13 : op = 13
  · subst c13
    rw [(rw_fn (op := 13) (by decide)).1, (rw_fn (op := 13) (by decide)).2]
    (refine rgN <| keq rfl rfl (r := true) rfl <| kas rfl <| RunK.nil <| LWP.condT rfl ?_; refine LWP.seq <| rgN <| K.callMp [(1000001, 501)] (.sv (.one (ptrF 211 501))) [vB 275 501 (.val (fnV 193))] ((mA_ofTwo X 193)) rfl rfl (by exact trivial) rfl rfl rfl rfl rfl (by exact (.box rfl rfl .nil)) .plain <| K.build rfl rfl (by exact rfl) (by exact nl6 rfl rfl rfl rfl rfl rfl rfl) .plain ?_; refine K.storeAll rfl rfl rfl rfl rfl rfl .plain ?_; refine RunK.nil <| LWP.ret ?_)
    refine Leads.le (σ' := ⟨[(2, Lp 2)], vB 275 501 (.val (fnV 193)) :: (2, some ⟨190, (rowL 13).map .val ++ [ptrF (cloF 13) 501], false⟩) :: [], X⟩) (Le.of (by exact ⟨rfl, trivial⟩) (by exact ⟨rfl, rfl, trivial⟩) (by exact rfl) (by exact rfl) (by repeat' (first | refine all_cons_true ?_ ?_ | rfl | exact bytes_inUse | exact vals_inUse | exact mid_inUse rfl))) ?_
    refine deed_shut1 (f := cloF 13) (op := 13) (fun Y _ _ _ _ h1 h2 => deed_two rfl h1 h2 (two_fn Y (fun Z x y hx hy => tSame Z x y hx hy)) (fun u w _ _ => node_same u w)) (Leads.done ?_)
    exact ⟨[(1000001, 501)], ⟨[_], ⟨⟨_, _, rfl, rfl, rfl, .inl ⟨AggT.h, rfl⟩⟩, trivial⟩, rfl⟩, (by repeat' (first | exact trivial | refine And.intro ⟨_, rfl, ?_⟩ ?_ | refine And.intro ⟨_, rfl⟩ ?_ | rfl | exact Box.ren_bytes _ _ _ _ | exact Box.ren_vals _ _ _ _ | exact Box.ren_mid rfl)), rfl, rfl⟩
  (refine rgN <| keq rfl rfl (r := false) (beq_eq_false_iff_ne.2 c13) <| kas rfl <| RunK.nil <| LWP.condF rfl ?_; refine LWP.seq ?_)
  by_cases c14 : op = 14
  · subst c14
    rw [(rw_fn (op := 14) (by decide)).1, (rw_fn (op := 14) (by decide)).2]
    (refine rgN <| keq rfl rfl (r := true) rfl <| kas rfl <| RunK.nil <| LWP.condT rfl ?_; refine LWP.seq <| rgN <| K.callMp [(1000001, 501)] (.sv (.one (ptrF 211 501))) [vB 275 501 (.val (fnV 191))] ((mA_ofTwo X 191)) rfl rfl (by exact trivial) rfl rfl rfl rfl rfl (by exact (.box rfl rfl .nil)) .plain <| K.build rfl rfl (by exact rfl) (by exact nl6 rfl rfl rfl rfl rfl rfl rfl) .plain ?_; refine K.storeAll rfl rfl rfl rfl rfl rfl .plain ?_; refine RunK.nil <| LWP.ret ?_)
    refine Leads.le (σ' := ⟨[(2, Lp 2)], vB 275 501 (.val (fnV 191)) :: (2, some ⟨190, (rowL 14).map .val ++ [ptrF (cloF 14) 501], false⟩) :: [], X⟩) (Le.of (by exact ⟨rfl, trivial⟩) (by exact ⟨rfl, rfl, trivial⟩) (by exact rfl) (by exact rfl) (by repeat' (first | refine all_cons_true ?_ ?_ | rfl | exact bytes_inUse | exact vals_inUse | exact mid_inUse rfl))) ?_
    refine deed_shut1 (f := cloF 14) (op := 14) (fun Y _ _ _ _ h1 h2 => deed_two rfl h1 h2 (two_fn Y (fun Z x y hx hy => tLess Z x y hx hy)) (fun u w _ _ => node_less u w)) (Leads.done ?_)
    exact ⟨[(1000001, 501)], ⟨[_], ⟨⟨_, _, rfl, rfl, rfl, .inl ⟨AggT.h, rfl⟩⟩, trivial⟩, rfl⟩, (by repeat' (first | exact trivial | refine And.intro ⟨_, rfl, ?_⟩ ?_ | refine And.intro ⟨_, rfl⟩ ?_ | rfl | exact Box.ren_bytes _ _ _ _ | exact Box.ren_vals _ _ _ _ | exact Box.ren_mid rfl)), rfl, rfl⟩
  (refine rgN <| keq rfl rfl (r := false) (beq_eq_false_iff_ne.2 c14) <| kas rfl <| RunK.nil <| LWP.condF rfl ?_; refine LWP.seq ?_)
  by_cases c15 : op = 15
  · subst c15
    rw [(rw_fn (op := 15) (by decide)).1, (rw_fn (op := 15) (by decide)).2]
    (refine rgN <| keq rfl rfl (r := true) rfl <| kas rfl <| RunK.nil <| LWP.condT rfl ?_; refine LWP.seq <| rgN <| K.callMp [(1000001, 501)] (.sv (.one (ptrF 219 501))) [vB 275 501 (.val (fnV 193))] ((mA_withZero X 193)) rfl rfl (by exact trivial) rfl rfl rfl rfl rfl (by exact (.box rfl rfl .nil)) .plain <| K.callMp [(1000001, 502), (1000002, 501)] (.sv (.one (ptrF 218 502))) [vB 273 502 (ptrF 219 501), vB 275 501 (.val (fnV 193))] ((mB_ofOne X 219 193 275)) rfl rfl (by exact (And.intro ⟨_, rfl, rfl⟩ trivial)) (by exact (all_cons_true (all_cons_true rfl rfl) rfl)) rfl rfl rfl rfl (by exact (.box rfl rfl (.box rfl rfl .nil))) .plain <| K.build rfl rfl (by exact rfl) (by exact nl6 rfl rfl rfl rfl rfl rfl rfl) .plain ?_; refine K.storeAll rfl rfl rfl rfl rfl rfl .plain ?_; refine RunK.nil <| LWP.ret ?_)
    refine Leads.le (σ' := ⟨[(2, Lp 2)], vB 273 502 (ptrF 219 501) :: vB 275 501 (.val (fnV 193)) :: (2, some ⟨190, (rowL 15).map .val ++ [ptrF (cloF 15) 502], false⟩) :: [], X⟩) (Le.of (by exact ⟨rfl, trivial⟩) (by exact ⟨rfl, rfl, rfl, trivial⟩) (by exact rfl) (by exact rfl) (by repeat' (first | refine all_cons_true ?_ ?_ | rfl | exact bytes_inUse | exact vals_inUse | exact mid_inUse rfl))) ?_
    refine deed_shut2 (f := cloF 15) (op := 15) (fun Y _ _ _ _ _ _ _ _ h1 h2 h3 h4 => deed_one rfl h3 h4 (one_zero h1 h2 (two_fn Y (fun Z x y hx hy => tSame Z x y hx hy))) (fun u hu => node_not u)) rfl rfl rfl (Leads.done ?_)
    exact ⟨[(1000001, 502)], ⟨[_], ⟨⟨_, _, rfl, rfl, rfl, .inl ⟨AggT.h, rfl⟩⟩, trivial⟩, rfl⟩, (by repeat' (first | exact trivial | refine And.intro ⟨_, rfl, ?_⟩ ?_ | refine And.intro ⟨_, rfl⟩ ?_ | rfl | exact Box.ren_bytes _ _ _ _ | exact Box.ren_vals _ _ _ _ | exact Box.ren_mid rfl)), rfl, rfl⟩
  (refine rgN <| keq rfl rfl (r := false) (beq_eq_false_iff_ne.2 c15) <| kas rfl <| RunK.nil <| LWP.condF rfl ?_; refine LWP.seq ?_)
  by_cases c16 : op = 16
  · subst c16
    rw [(rw_fn (op := 16) (by decide)).1, (rw_fn (op := 16) (by decide)).2]
    (refine rgN <| keq rfl rfl (r := true) rfl <| kas rfl <| RunK.nil <| LWP.condT rfl ?_; refine LWP.seq <| rgN <| K.callMp [(1000001, 501)] (.sv (.one (ptrF 223 501))) [vB 297 501 (.val (fnV 195))] ((mA_ofThree X 195)) rfl rfl (by exact trivial) rfl rfl rfl rfl rfl (by exact (.box rfl rfl .nil)) .plain <| K.build rfl rfl (by exact rfl) (by exact nl6 rfl rfl rfl rfl rfl rfl rfl) .plain ?_; refine K.storeAll rfl rfl rfl rfl rfl rfl .plain ?_; refine RunK.nil <| LWP.ret ?_)
    refine Leads.le (σ' := ⟨[(2, Lp 2)], vB 297 501 (.val (fnV 195)) :: (2, some ⟨190, (rowL 16).map .val ++ [ptrF (cloF 16) 501], false⟩) :: [], X⟩) (Le.of (by exact ⟨rfl, trivial⟩) (by exact ⟨rfl, rfl, trivial⟩) (by exact rfl) (by exact rfl) (by repeat' (first | refine all_cons_true ?_ ?_ | rfl | exact bytes_inUse | exact vals_inUse | exact mid_inUse rfl))) ?_
    refine deed_shut1 (f := cloF 16) (op := 16) (fun Y _ _ _ _ h1 h2 => deed_three rfl h1 h2 (three_fn Y (fun Z x y z hx hy hz => tPick Z x y z hx)) (fun u w z _ _ _ => rfl)) (Leads.done ?_)
    exact ⟨[(1000001, 501)], ⟨[_], ⟨⟨_, _, rfl, rfl, rfl, .inl ⟨AggT.h, rfl⟩⟩, trivial⟩, rfl⟩, (by repeat' (first | exact trivial | refine And.intro ⟨_, rfl, ?_⟩ ?_ | refine And.intro ⟨_, rfl⟩ ?_ | rfl | exact Box.ren_bytes _ _ _ _ | exact Box.ren_vals _ _ _ _ | exact Box.ren_mid rfl)), rfl, rfl⟩
  (refine rgN <| keq rfl rfl (r := false) (beq_eq_false_iff_ne.2 c16) <| kas rfl <| RunK.nil <| LWP.condF rfl ?_; refine LWP.seq ?_)
  by_cases c17 : op = 17
  · subst c17
    rw [(rw_fn (op := 17) (by decide)).1, (rw_fn (op := 17) (by decide)).2]
    (refine rgN <| keq rfl rfl (r := true) rfl <| kas rfl <| RunK.nil <| LWP.condT rfl ?_; refine LWP.seq <| rgN <| K.callMp [(1000001, 501)] (.sv (.one (ptrF 211 501))) [vB 275 501 (.val (fnV 196))] ((mA_ofTwo X 196)) rfl rfl (by exact trivial) rfl rfl rfl rfl rfl (by exact (.box rfl rfl .nil)) .plain <| K.build rfl rfl (by exact rfl) (by exact nl6 rfl rfl rfl rfl rfl rfl rfl) .plain ?_; refine K.storeAll rfl rfl rfl rfl rfl rfl .plain ?_; refine RunK.nil <| LWP.ret ?_)
    refine Leads.le (σ' := ⟨[(2, Lp 2)], vB 275 501 (.val (fnV 196)) :: (2, some ⟨190, (rowL 17).map .val ++ [ptrF (cloF 17) 501], false⟩) :: [], X⟩) (Le.of (by exact ⟨rfl, trivial⟩) (by exact ⟨rfl, rfl, trivial⟩) (by exact rfl) (by exact rfl) (by repeat' (first | refine all_cons_true ?_ ?_ | rfl | exact bytes_inUse | exact vals_inUse | exact mid_inUse rfl))) ?_
    refine deed_shut1 (f := cloF 17) (op := 17) (fun Y _ _ _ _ h1 h2 => deed_two rfl h1 h2 (two_fn Y (fun Z x y hx hy => tNeed Z x y hy)) (fun u w _ _ => node_need u w)) (Leads.done ?_)
    exact ⟨[(1000001, 501)], ⟨[_], ⟨⟨_, _, rfl, rfl, rfl, .inl ⟨AggT.h, rfl⟩⟩, trivial⟩, rfl⟩, (by repeat' (first | exact trivial | refine And.intro ⟨_, rfl, ?_⟩ ?_ | refine And.intro ⟨_, rfl⟩ ?_ | rfl | exact Box.ren_bytes _ _ _ _ | exact Box.ren_vals _ _ _ _ | exact Box.ren_mid rfl)), rfl, rfl⟩
  (refine rgN <| keq rfl rfl (r := false) (beq_eq_false_iff_ne.2 c17) <| kas rfl <| RunK.nil <| LWP.condF rfl ?_; refine LWP.skip ?_; refine LWP.seq ?_)
  have hbad : op < 1 ∨ 17 < op := by omega
  rw [(rw_no (op := op) (by omega)).1, (rw_no (op := op) (by omega)).2]
  unfold LRow
  rw [rowL_bad hbad, show leafV op = .nilFunc by unfold leafV; rw [if_neg c1, if_neg c2, if_neg c3, if_neg c4]]
  (refine rgN <| K.build rfl rfl (by exact rfl) (by exact nl6 rfl rfl rfl rfl rfl rfl rfl) .plain ?_; refine K.storeAll rfl rfl rfl rfl rfl rfl .plain ?_; refine RunK.nil <| LWP.ret ?_)
  exact Leads.done ⟨[], ⟨[_], ⟨⟨_, _, rfl, rfl, rfl, .inl ⟨AggT.h, rfl⟩⟩, trivial⟩, rfl⟩, trivial, rfl, rfl⟩
theorem rowOf_fn (op : Int) (h : 5 ≤ op ∧ op ≤ 17) : MSpec Tryz.prog X 143 [Ln .i64 op] [] (LRow op (ptrF (cloF op) 1000001)) [dB 1000001 op] := by
  have := rowOf_all X op
  rw [(rw_fn h).1, (rw_fn h).2] at this
  exact this
theorem rowOf_leaf (op : Int) (h : ¬ (5 ≤ op ∧ op ≤ 17)) : PSpec Tryz.prog X 143 [Ln .i64 op] (LRow op (.val (leafV op))) := by
  have := rowOf_all X op
  rw [(rw_no h).1, (rw_no h).2] at this
  exact this.plain
theorem rowOf_1 : PSpec Tryz.prog X 143 [Ln .i64 1] (LRow 1 (.val (fnV 178))) := rowOf_leaf X 1 (by decide)
theorem rowOf_2 : PSpec Tryz.prog X 143 [Ln .i64 2] (LRow 2 (.val (fnV 179))) := rowOf_leaf X 2 (by decide)
theorem rowOf_3 : PSpec Tryz.prog X 143 [Ln .i64 3] (LRow 3 (.val (fnV 180))) := rowOf_leaf X 3 (by decide)
theorem rowOf_4 : PSpec Tryz.prog X 143 [Ln .i64 4] (LRow 4 (.val (fnV 181))) := rowOf_leaf X 4 (by decide)
theorem rowOf_no (op : Int) (h : op < 1 ∨ 17 < op) : PSpec Tryz.prog X 143 [Ln .i64 op] (LRow op (.val .nilFunc)) := by
  have := rowOf_leaf X op (by omega)
  rw [show leafV op = .nilFunc by unfold leafV; rw [if_neg (by omega), if_neg (by omega), if_neg (by omega), if_neg (by omega)]] at this
  exact this
end Go.Proofs.YtopiioklkkiedaaGreatDoor
end
section
namespace Go.Proofs.YtopiioklkkiedaaGreatDoor
open Go Go.Lg Go.Lg.Fml Go.Lg.Fld Go.Lg.Arith
set_option maxRecDepth 100000
variable (X : Nat → Option Obj)
theorem tSmall (n : Int) : PSpec Tryz.prog X 197 [Ln .i64 n] (Lb (decide (0 ≤ n) && decide (n ≤ 7))) := by
  by_cases h : 0 ≤ n
  · rw [decide_eq_true h, Bool.true_and]
    refine PSpec.intro Tryz.func197 rfl (by kernel_rfl) rfl rfl ?_
    intro C
    (refine LWP.seq <| rgN <| kas rfl <| RunK.nil <| LWP.seq <| rgN <| kmv rfl <| K.geq rfl rfl (r := true) (decide_eq_true h) .plain <| kmv rfl <| gmv rfl rfl rfl <| K.leq rfl rfl rfl (.taken rfl rfl) ?_; refine kpt rfl rfl <| kas rfl <| RunK.nil <| LWP.ret ?_)
    exact ⟨[_], ⟨rfl, trivial⟩, rfl⟩
  · rw [decide_eq_false h, Bool.false_and]
    refine PSpec.intro Tryz.func197 rfl (by kernel_rfl) rfl rfl ?_
    intro C
    (refine LWP.seq <| rgN <| kas rfl <| RunK.nil <| LWP.seq <| rgN <| kmv rfl <| K.geq rfl rfl (r := false) (decide_eq_false h) .plain <| kmv rfl <| RunK.passed rfl rfl rfl <| RunK.passed rfl rfl rfl <| kpf rfl rfl <| kas rfl <| RunK.nil ?_; refine LWP.ret ?_)
    exact ⟨[_], ⟨rfl, trivial⟩, rfl⟩
def bndI (x : Ins) : Bool := (decide (0 ≤ x.a) && decide (x.a ≤ 7)) && ((decide (0 ≤ x.b) && decide (x.b ≤ 7)) && gd x.k)
theorem okI_bnd (x : Ins) : okI x = ((decide (1 ≤ x.op) && decide (x.op ≤ 17)) && bndI x) := by
  unfold okI bndI
  cases gd x.k <;> cases (decide (0 ≤ x.a) && decide (x.a ≤ 7)) <;> cases (decide (0 ≤ x.b) && decide (x.b ≤ 7)) <;> rfl
theorem tBounded (x : Ins) (hx : smallI x) (r : Bool) (hr : bndI x = r) : PSpec Tryz.prog X 144 [LIn x] (Lb r) := by
  subst hr
  unfold bndI
  have hA := tSmall X x.a
  have hB := tSmall X x.b
  have hG := tForm X x.k hx.2.2.2 _ rfl
  generalize (decide (0 ≤ x.a) && decide (x.a ≤ 7)) = A at *
  generalize (decide (0 ≤ x.b) && decide (x.b ≤ 7)) = B at *
  generalize gd x.k = G at *
  cases A with
  | false =>
    refine PSpec.intro Tryz.func144 rfl (by kernel_rfl) rfl rfl ?_
    intro C
    (refine LWP.seq <| rgN <| K.box rfl rfl rfl .plain <| kas rfl <| RunK.nil <| LWP.seq <| rgN <| kfa rfl rfl ?_; refine kl1 rfl rfl rfl <| kca rfl rfl hA <| kmv rfl <| RunK.passed rfl rfl rfl <| RunK.passed rfl rfl rfl <| RunK.passed rfl rfl rfl <| kpf rfl rfl <| kmv rfl <| RunK.passed rfl rfl rfl <| RunK.passed rfl rfl rfl <| RunK.passed rfl rfl rfl <| kpf rfl rfl <| kas rfl <| RunK.nil ?_; refine LWP.ret ?_)
    exact ⟨[_], ⟨rfl, trivial⟩, rfl⟩
  | true =>
  cases B with
  | false =>
    refine PSpec.intro Tryz.func144 rfl (by kernel_rfl) rfl rfl ?_
    intro C
    (refine LWP.seq <| rgN <| K.box rfl rfl rfl .plain <| kas rfl <| RunK.nil <| LWP.seq <| rgN <| kfa rfl rfl ?_; refine kl1 rfl rfl rfl <| kca rfl rfl hA <| kmv rfl <| K.fieldAddr rfl rfl (.taken rfl rfl) ?_; refine K.loadOne rfl rfl rfl (.taken rfl rfl) ?_; refine gca rfl rfl hB rfl rfl <| kpt rfl rfl <| kmv rfl <| RunK.passed rfl rfl rfl <| RunK.passed rfl rfl rfl <| RunK.passed rfl rfl rfl <| kpf rfl rfl <| kas rfl <| RunK.nil <| LWP.ret ?_)
    exact ⟨[_], ⟨rfl, trivial⟩, rfl⟩
  | true =>
    refine PSpec.intro Tryz.func144 rfl (by kernel_rfl) rfl rfl ?_
    intro C
    (refine LWP.seq <| rgN <| K.box rfl rfl rfl .plain <| kas rfl <| RunK.nil <| LWP.seq <| rgN <| kfa rfl rfl ?_; refine kl1 rfl rfl rfl <| kca rfl rfl hA <| kmv rfl <| K.fieldAddr rfl rfl (.taken rfl rfl) ?_; refine K.loadOne rfl rfl rfl (.taken rfl rfl) ?_; refine gca rfl rfl hB rfl rfl <| kpt rfl rfl <| kmv rfl <| K.fieldAddr rfl rfl (.taken rfl rfl) ?_; refine K.loadPart rfl rfl rfl (by exact nl3 rfl rfl rfl rfl) (.taken rfl rfl) ?_; refine gca rfl rfl (hG) rfl rfl <| kpt rfl rfl <| kas rfl <| RunK.nil <| LWP.ret ?_)
    exact ⟨[_], ⟨rfl, trivial⟩, rfl⟩
def rowVs (p : Int × Value) : List Value := rowL p.1 ++ [p.2]
def rwsV (q : List (Int × Value)) : List Value := (q.map rowVs).flatten
theorem rowVs_len (p : Int × Value) : (rowVs p).length = 6 := rfl
theorem rwsV_len (q : List (Int × Value)) : (rwsV q).length = q.length * 6 := by
  unfold rwsV
  induction q with
  | nil => rfl
  | cons x t ih => rw [List.map_cons, List.flatten_cons, List.length_append, ih, rowVs_len, List.length_cons]; omega
theorem rwsV_snoc (q : List (Int × Value)) (p : Int × Value) : rwsV (q ++ [p]) = rwsV q ++ rowVs p := by
  unfold rwsV
  rw [List.map_append, List.flatten_append]
  simp
def zeR (k : Nat) : List Value := (List.replicate k [Value.string ⟨#[]⟩, .int .i64 0, .bool false, .bool false, .bool false, .nilFunc]).flatten
theorem zeR_succ (k : Nat) : zeR (k + 1) = [Value.string ⟨#[]⟩, .int .i64 0, .bool false, .bool false, .bool false, .nilFunc] ++ zeR k := by unfold zeR; rw [List.replicate_succ, List.flatten_cons]
theorem zeR_len (k : Nat) : (zeR k).length = k * 6 := by
  induction k with
  | zero => rfl
  | succ k ih => rw [zeR_succ, List.length_append, ih]; simp; omega
def rowsR (l : List Ins) : Rsc := ⟨fun ρ H => ∃ (q : List (Int × Value)) (fr : Nat × Nat), H ρ.1 = some (.cells (rwsV q).toArray 190 fr) ∧ ρ.2 = (rwsV q).length ∧ q.map (·.1) = l.map Ins.op ∧ ∀ p ∈ q, DeedV H p.2 p.1⟩
structure RowsOK (Y : Nat → Option Obj) (ad : Option Addr) (l : List Ins) : Prop where
  ex : ∃ q : List (Int × Value), Go.Lg.RowsIn Y ad 6 (q.map rowVs) ∧ q.map (·.1) = l.map Ins.op ∧ ∀ p ∈ q, DeedV Y p.2 p.1
theorem RowsOK.mono {Y Z : Nat → Option Obj} (h : MoreM Y Z) {ad : Option Addr} {l : List Ins} (hr : RowsOK Y ad l) : RowsOK Z ad l := by
  obtain ⟨q, h1, h2, h3⟩ := hr.ex
  exact ⟨q, h1.mono h, h2, fun p hp => (h3 p hp).mono h⟩
theorem rows_fix {l : List Ins} {ρ : Nat × Nat} {H Y : Nat → Option Obj} (h : (rowsR l).holds ρ H) (hY : MoreM H Y) : RowsOK Y (some ⟨ρ.1, 0, none⟩) l := by
  obtain ⟨q, fr, h1, h2, h3, h4⟩ := h
  refine ⟨q, rows_in (hY _ _ h1) (fun r hr => by obtain ⟨x, _, rfl⟩ := List.mem_map.1 hr; rfl) ⟨[], by rw [List.append_nil]; rfl⟩, h3, fun p hp => (h4 p hp).mono hY⟩
theorem RowsOK.at {Y : Nat → Option Obj} {ad : Option Addr} {l : List Ins} (h : RowsOK Y ad l) {i : Nat} {x : Ins} (hx : l[i]? = some x) :
    ∃ (blk off : Nat) (arr : Array Value) (el : TypeId) (fr : Nat × Nat) (v : Value), ad = some ⟨blk, off, none⟩ ∧ Y blk = some (.cells arr el fr) ∧ off + i * 6 + 6 ≤ arr.size ∧ ((arr.toList.drop (off + i * 6)).take 6).map CV.val = (rowVs (x.op, v)).map CV.val ∧ DeedV Y v x.op := by
  obtain ⟨q, h1, h2, h3⟩ := h.ex
  have hq : (q.map (·.1))[i]? = some x.op := by rw [h2, List.getElem?_map, hx]; rfl
  rw [List.getElem?_map] at hq
  cases hp : q[i]? with
  | none => rw [hp] at hq; cases hq
  | some p =>
    rw [hp] at hq
    have hq : p.1 = x.op := by simpa using hq
    obtain ⟨blk, off, arr, el, fr, e1, e2, e3, e4⟩ := h1 i (rowVs p) (by rw [List.getElem?_map, hp]; rfl)
    have h5 := h3 p (List.mem_of_getElem? hp)
    obtain ⟨o, v⟩ := p
    have hq : o = x.op := hq
    subst hq
    exact ⟨blk, off, arr, el, fr, v, e1, e2, e3, by rw [e4], h5⟩
def rsR (l : List Ins) : LV := if chkX l = 0 then .tup [.one (.slc 1000001 0 l.length 6), Sn .i64 0] else .tup [Vnil, Sn .i64 (chkX l)]
def rsBx (l : List Ins) : List (Nat × Option Box) := if chkX l = 0 then [(1000001, some ⟨0, [], .res (rowsR l)⟩)] else []
theorem rs_ok {l : List Ins} (h : chkX l = 0) : rsR l = .tup [.one (.slc 1000001 0 l.length 6), Sn .i64 0] ∧ rsBx l = [(1000001, some ⟨0, [], .res (rowsR l)⟩)] := ⟨if_pos h, if_pos h⟩
theorem rs_no {l : List Ins} (h : chkX l ≠ 0) : rsR l = .tup [Vnil, Sn .i64 (chkX l)] ∧ rsBx l = [] := ⟨if_neg h, if_neg h⟩
theorem rsBx_use (l : List Ins) : ((rsBx l).all fun p => match p.2 with | some b => b.cells.all (CV.inUse (rsBx l)) | none => true) = true := by
  by_cases h : chkX l = 0
  · rw [(rs_ok h).2]; rfl
  · rw [(rs_no h).2]; rfl
theorem rsR_use (l : List Ins) : LV.inUse (rsBx l) (rsR l) = true := by
  by_cases h : chkX l = 0
  · rw [(rs_ok h).1, (rs_ok h).2]; rfl
  · rw [(rs_no h).1, (rs_no h).2]; rfl
theorem joinM_assoc (X H G : Nat → Option Obj) : joinM (joinM X H) G = joinM X (joinM H G) := by
  funext b
  unfold joinM
  cases G b <;> rfl
theorem owned_join {C : Ctx} {X H G : Nat → Option Obj} (h : OwnedM C X H) (h' : OwnedM C (joinM X H) G) : OwnedM C X (joinM H G) ∧ MoreM H (joinM H G) ∧ MoreM G (joinM H G) := by
  have hn : ∀ b o, G b = some o → H b = none ∧ X b = none := fun b o hb => joinM_none (h'.own b o hb).2.2
  refine ⟨⟨fun b o hb => ?_⟩, fun b o hb => ?_, fun b o hb => joinM_in hb⟩
  · cases hg : G b with
    | some o' =>
      rw [joinM_in hg] at hb
      cases hb
      obtain ⟨h1, h2, _⟩ := h'.own b o hg
      exact ⟨h1, h2, (hn b o hg).2⟩
    | none => rw [joinM_out hg] at hb; exact h.own b o hb
  · cases hg : G b with
    | some o' => rw [(hn b o' hg).1] at hb; cases hb
    | none => rw [joinM_out hg]; exact hb
abbrev rwSt (ad : Option Addr) (n cap i : Nat) (d : Nat) (cells : List Value) (ms : List (Nat × LV)) (mb : List (Nat × Option Box)) (Y : Nat → Option Obj) : St :=
  ⟨ms ++ [(0, Lx ad n cap), (4, .sv (.one (.slc 500 0 n 6))), (5, Ln .i64 (d : Nat)), (15, Lx ad n cap), (16, Ln .i64 (n : Nat)), (17, Ln .i64 (i : Nat))], mb ++ [(500, some ⟨190, cells.map .val, false⟩)], Y⟩
abbrev rdB8 (x : Ins) (c : CV) : List (Nat × Option Box) := [(7, some ⟨88, (insV x).map .val, false⟩), (8, some ⟨190, (rowL x.op).map .val ++ [c], false⟩)]
set_option maxHeartbeats 12800000 in
theorem tRowsOf (l : List Ins) (ad : Option Addr) (cap : Nat) (hin : InsIn X ad l) (hbig : l.length < 1152921504606846976) : MSpec Tryz.prog X 103 [Lx ad l.length cap] [] (rsR l) (rsBx l) := by
  refine MSpec.intro Tryz.func103 rfl (by kernel_rfl) rfl (rsR_use l) (rsBx_use l) rfl rfl ?_
  intro C
  by_cases h64 : 64 < l.length
  · have hc : chkX l = 5 := if_pos h64
    obtain ⟨q1, q2⟩ := rs_no (l := l) (by rw [hc]; decide)
    rw [q1, q2, hc]
    (refine LWP.seq <| rgN <| kas rfl <| kas rfl <| RunK.nil <| LWP.seq <| LWP.seq <| rgN <| kmv rfl <| K.lenX rfl SliceT.h rfl .plain ?_; refine K.gtr rfl rfl (r := true) (decide_eq_true (by omega)) .plain <| RunK.nil <| LWP.condT rfl ?_; refine LWP.seq <| rgN <| kas rfl <| kas rfl <| RunK.nil <| LWP.ret ?_)
    exact ⟨[], ⟨[_, _], ⟨rfl, rfl, trivial⟩, rfl⟩, trivial, rfl, rfl⟩
  have hmk : slcBuild Tryz.prog 181 l.length = some (zeR l.length, 6, 190) := slcBuild_many (z := #[.string ⟨#[]⟩, .int .i64 0, .bool false, .bool false, .bool false, .nilFunc]) (by kernel_rfl) (by kernel_rfl) rfl (by omega)
  refine LWP.ends ?_
  (refine LWP.seq <| rgN <| kas rfl <| kas rfl <| RunK.nil <| LWP.seq <| LWP.seq <| rgN <| kmv rfl <| K.lenX rfl SliceT.h rfl .plain ?_; refine K.gtr rfl rfl (r := false) (decide_eq_false (by omega)) .plain <| RunK.nil <| LWP.condF rfl ?_; refine LWP.skip ?_; refine LWP.seq <| rgN <| kmv rfl <| K.lenX rfl SliceT.h rfl .plain ?_; refine K.makeSlc (m := l.length) (bytes := 40) rfl rfl hmk (by kernel_rfl) (by omega) rfl rfl .plain <| kas rfl <| kas rfl <| RunK.nil <| LWP.seq <| LWP.seq <| rgN <| kmv rfl <| K.lenX rfl SliceT.h rfl .plain ?_; refine kmv rfl <| RunK.nil <| LWP.block ?_)
  refine LWP.loopL (fun k σ => ∃ (i d : Nat) (q : List (Int × Value)) (H : Nat → Option Obj), i ≤ l.length ∧ k = l.length - i ∧ q.map (·.1) = (l.take i).map Ins.op ∧ (∀ p ∈ q, DeedV H p.2 p.1) ∧ OwnedM C X H ∧ dep okI 0 (l.take i) = some d ∧ σ = rwSt ad l.length cap i d (rwsV q ++ zeR (l.length - i)) [] [] (joinM X H)) l.length
    (Leads.le (σ' := rwSt ad l.length cap 0 0 (rwsV [] ++ zeR (l.length - 0)) [] [] X) ?_ (Leads.done ⟨0, 0, [], fun _ => none, by omega, by omega, rfl, fun p hp => absurd hp (by simp), OwnedM.nil _ _, rfl, by rw [joinM_nil]⟩)) ?_
  · exact Le.ofR [(500, 14)] (by exact ⟨rfl, rfl, rfl, rfl, rfl, rfl, trivial⟩) (by repeat' (first | exact trivial | refine And.intro ⟨_, rfl, ?_⟩ ?_ | refine And.intro ⟨_, rfl⟩ ?_ | rfl | exact Box.ren_bytes _ _ _ _ | exact Box.ren_vals _ _ _ _ | exact Box.ren_mid rfl)) (by exact rfl) (by exact rfl) (by repeat' (first | refine all_cons_true ?_ ?_ | rfl | exact bytes_inUse | exact vals_inUse | exact mid_inUse rfl)) (by exact rfl) (by exact rfl)
  rintro k σ ⟨i, d, q, H, hi, rfl, hq, hD, hO, hdep, rfl⟩
  have hqn : q.length = i := by
    have := congrArg List.length hq
    rw [List.length_map, List.length_map, List.length_take] at this
    omega
  have hd16 := dep_le (by omega) hdep
  by_cases hlt : i < l.length
  · obtain ⟨x, hx⟩ : ∃ x, l[i]? = some x := ⟨_, List.getElem?_eq_getElem hlt⟩
    have hmem := List.mem_of_getElem? hx
    have hsx := hin.small x hmem
    have hinJ : InsIn (joinM X H) ad l := hin.mono fun b o hb => by
      cases hc : H b with
      | none => rw [joinM_out hc]; exact hb
      | some o' => have := (hO.own b o' hc).2.2; rw [hb] at this; cases this
    obtain ⟨blk, off, arr, el, fr, rfl, hX, hsz, hcs, hop⟩ := hinJ.at hx
    have hio : off + Int.toNat (i : Int) * 6 = off + i * 6 := by simp
    have hin0 : 0 ≤ (i : Int) ∧ (i : Int) < (l.length : Nat) := by omega
    have hsn := dep_snoc hdep hx
    have hok := okI_bnd x
    have htk := takes_le x.op
    have bad : ¬ (okI x = true ∧ takes x.op ≤ d ∧ d - takes x.op + 1 ≤ 16) → chkX l = 4 := fun h => chkX_bad h64 hdep hx h
    by_cases hop17 : x.op < 1 ∨ 17 < x.op
    · have hc := bad (fun h => by have := (okI_facts h.1).1; omega)
      obtain ⟨q1, q2⟩ := rs_no (l := l) (by rw [hc]; decide)
      rw [q1, q2, hc]
      have hR := rowOf_no (joinM X H) x.op hop17
      (refine LWP.seq <| rgN <| klt rfl rfl (decide_eq_true (by omega)) <| RunK.nil <| LWP.seq <| LWP.condT rfl ?_; refine LWP.skip ?_; refine LWP.seq <| LWP.block <| LWP.seq <| rgN <| kmv rfl <| K.indexX rfl rfl SliceT.h hin0 hio .plain <| K.loadXagg rfl hX (by kernel_rfl) hsz hcs .plain <| K.alloc rfl .plain ?_; refine kas rfl <| K.storeAll rfl rfl rfl rfl rfl rfl .plain ?_; refine RunK.nil <| LWP.seq <| rgN <| kfa rfl rfl ?_; refine kl1 rfl rfl rfl <| kca rfl rfl (hR) <| K.alloc rfl .plain ?_; refine K.storeAll rfl rfl rfl rfl rfl rfl .plain ?_; refine RunK.nil <| LWP.seq <| LWP.seq <| rgN <| kfa rfl rfl ?_; refine kl1 rfl rfl rfl <| K.funcNil rfl (by kernel_rfl) (r := true) (.inl ⟨rfl, rfl⟩) .plain ?_; refine kmv rfl <| RunK.passed rfl rfl rfl <| RunK.passed rfl rfl rfl <| RunK.passed rfl rfl rfl <| kpt rfl rfl <| kmv rfl <| RunK.passed rfl rfl rfl <| RunK.passed rfl rfl rfl <| RunK.passed rfl rfl rfl <| RunK.passed rfl rfl rfl <| kpt rfl rfl <| RunK.nil <| LWP.condT rfl ?_; refine LWP.seq <| rgN <| kas rfl <| kas rfl <| RunK.nil <| LWP.ret ?_)
      exact Leads.done ⟨[], ⟨[_, _], ⟨rfl, rfl, trivial⟩, rfl⟩, trivial, rfl, rfl⟩
    (refine LWP.seq <| rgN <| klt rfl rfl (decide_eq_true (by omega)) <| RunK.nil <| LWP.seq <| LWP.condT rfl ?_; refine LWP.skip ?_; refine LWP.seq <| LWP.block <| LWP.seq <| rgN <| kmv rfl <| K.indexX rfl rfl SliceT.h hin0 hio .plain <| K.loadXagg rfl hX (by kernel_rfl) hsz hcs .plain <| K.alloc rfl .plain ?_; refine kas rfl <| K.storeAll rfl rfl rfl rfl rfl rfl .plain ?_; refine RunK.nil <| LWP.seq ?_)
    refine LWP.meetL (fun σ => ∃ (v : Value) (G : Nat → Option Obj), DeedV G v x.op ∧ MoreM H G ∧ OwnedM C X G ∧ σ = rwSt (some ⟨blk, off, none⟩) l.length cap i d (rwsV q ++ zeR (l.length - i)) [(6, Ln .i64 (i : Nat)), (7, Lp 7), (8, Lp 8)] (rdB8 x (.val v)) (joinM X G)) ?_ ?_
    · by_cases h5 : x.op < 5
      · obtain ⟨f, hDf, hR⟩ : ∃ f, DeedV H (fnV f) x.op ∧ PSpec Tryz.prog (joinM X H) 143 [Ln .i64 x.op] (LRow x.op (.val (fnV f))) := by
          generalize x.op = op at *
          rcases (show op = 1 ∨ op = 2 ∨ op = 3 ∨ op = 4 by omega) with rfl | rfl | rfl | rfl
          · exact ⟨_, deed_num H, rowOf_1 _⟩
          · exact ⟨_, deed_elem H, rowOf_2 _⟩
          · exact ⟨_, deed_here H, rowOf_3 _⟩
          · exact ⟨_, deed_place H, rowOf_4 _⟩
        (refine rgN <| kfa rfl rfl ?_; refine kl1 rfl rfl rfl <| kca rfl rfl (hR) <| K.alloc rfl .plain ?_; refine K.storeAll rfl rfl rfl rfl rfl rfl .plain ?_; refine RunK.nil ?_)
        exact Leads.le (Le.of (by exact ⟨rfl, rfl, rfl, rfl, rfl, rfl, rfl, rfl, rfl, trivial⟩) (by exact ⟨rfl, rfl, rfl, trivial⟩) (by exact rfl) (by exact rfl) (by repeat' (first | refine all_cons_true ?_ ?_ | rfl | exact bytes_inUse | exact vals_inUse | exact mid_inUse rfl))) (Leads.done ⟨_, H, hDf, MoreM.refl H, hO, rfl⟩)
      · have hR := rowOf_fn (joinM X H) x.op (by omega)
        (refine rgN <| kfa rfl rfl ?_; refine kl1 rfl rfl rfl <| K.callMp [(1000001, 600)] (LRow x.op (ptrF (cloF x.op) 600)) [dB 600 x.op] (hR) rfl rfl (by exact trivial) rfl rfl rfl rfl rfl (by exact (.box rfl rfl .nil)) .plain <| K.alloc rfl .plain ?_; refine K.storeAll rfl rfl rfl rfl rfl rfl .plain ?_; refine RunK.nil ?_)
        refine Leads.le (σ' := ⟨[(6, Ln .i64 (i : Nat)), (7, Lp 7), (8, Lp 8), (0, Lx (some ⟨blk, off, none⟩) l.length cap), (4, .sv (.one (.slc 500 0 l.length 6))), (5, Ln .i64 (d : Nat)), (15, Lx (some ⟨blk, off, none⟩) l.length cap), (16, Ln .i64 (l.length : Nat)), (17, Ln .i64 (i : Nat))], rdB8 x (ptrF (cloF x.op) 600) ++ dB 600 x.op :: [(500, some ⟨190, (rwsV q ++ zeR (l.length - i)).map .val, false⟩)], joinM X H⟩) (Le.of (by exact ⟨rfl, rfl, rfl, rfl, rfl, rfl, rfl, rfl, rfl, trivial⟩) (by exact ⟨rfl, rfl, rfl, rfl, trivial⟩) (by exact rfl) (by exact rfl) (by repeat' (first | refine all_cons_true ?_ ?_ | rfl | exact bytes_inUse | exact vals_inUse | exact mid_inUse rfl))) ?_
        refine Leads.fixRsc [] (rdB8 x (ptrF (cloF x.op) 600)) rfl rfl (by exact (by repeat' (first | refine all_cons_true ?_ ?_ | rfl | exact bytes_inUse | exact vals_inUse | exact mid_inUse rfl))) rfl rfl fun ρ G2 hR2 hO2 => ?_
        obtain ⟨k1, k2, k3⟩ := owned_join hO hO2
        rw [joinM_assoc]
        exact Leads.done ⟨.func (.func (cloF x.op)) #[] #[pv ρ.1], joinM H G2, DeedV.mono k3 hR2, k2, k1, rfl⟩
    rintro σ ⟨v, G, hDv, hHG, hOG, rfl⟩
    obtain ⟨f, caps, ev, _⟩ := id hDv
    subst ev
    have hB := tBounded (joinM X G) x hsx _ rfl
    cases hb : bndI x with
    | false =>
      rw [hb] at hB hok
      have hc := bad (fun h => by rw [hok, Bool.and_false] at h; cases h.1)
      obtain ⟨q1, q2⟩ := rs_no (l := l) (by rw [hc]; decide)
      rw [q1, q2, hc]
      (refine LWP.seq <| LWP.seq <| rgN <| kfa rfl rfl ?_; refine kl1 rfl rfl rfl <| K.funcNil rfl (by kernel_rfl) (r := false) (.inr ⟨⟨_, _, _, rfl⟩, rfl⟩) .plain ?_; refine kmv rfl <| K.loadAll rfl rfl rfl (.taken rfl rfl) ?_; refine gca rfl rfl hB rfl rfl <| K.not rfl rfl (.taken rfl rfl) ?_; refine kpf rfl rfl <| kmv rfl <| RunK.passed rfl rfl rfl <| RunK.passed rfl rfl rfl <| RunK.passed rfl rfl rfl <| RunK.passed rfl rfl rfl <| kpt rfl rfl <| RunK.nil <| LWP.condT rfl ?_; refine LWP.seq <| rgN <| kas rfl <| kas rfl <| RunK.nil <| LWP.ret ?_)
      exact Leads.done ⟨[], ⟨[_, _], ⟨rfl, rfl, trivial⟩, rfl⟩, trivial, rfl, rfl⟩
    | true =>
    rw [hb] at hB hok
    rw [decide_eq_true (show 1 ≤ x.op by omega), decide_eq_true (show x.op ≤ 17 by omega)] at hok
    have hok : okI x = true := hok
    by_cases hd : d < takes x.op
    · have hc := bad (fun h => by omega)
      obtain ⟨q1, q2⟩ := rs_no (l := l) (by rw [hc]; decide)
      rw [q1, q2, hc]
      (refine LWP.seq <| LWP.seq <| rgN <| kfa rfl rfl ?_; refine kl1 rfl rfl rfl <| K.funcNil rfl (by kernel_rfl) (r := false) (.inr ⟨⟨_, _, _, rfl⟩, rfl⟩) .plain ?_; refine kmv rfl <| K.loadAll rfl rfl rfl (.taken rfl rfl) ?_; refine gca rfl rfl hB rfl rfl <| K.not rfl rfl (.taken rfl rfl) ?_; refine kpf rfl rfl <| kmv rfl <| gmv rfl rfl rfl <| K.fieldAddr rfl rfl (.taken rfl rfl) ?_; refine K.loadOne rfl rfl rfl (.taken rfl rfl) ?_; refine K.lss rfl rfl (r := true) (decide_eq_true (by omega)) (.taken rfl rfl) ?_; refine kpf rfl rfl <| RunK.nil <| LWP.condT rfl ?_; refine LWP.seq <| rgN <| kas rfl <| kas rfl <| RunK.nil <| LWP.ret ?_)
      exact Leads.done ⟨[], ⟨[_, _], ⟨rfl, rfl, trivial⟩, rfl⟩, trivial, rfl, rfl⟩
    have hix : 0 + Int.toNat (i : Int) * 6 = i * 6 := by rw [Int.toNat_natCast]; omega
    have hpl : (rwsV q).length = i * 6 := by rw [rwsV_len, hqn]
    have hroom : i * 6 + 6 ≤ ((rwsV q ++ zeR (l.length - i)).map CV.val).length := by rw [List.length_map, List.length_append, hpl, zeR_len]; omega
    have hspl : splice ((rwsV q ++ zeR (l.length - i)).map CV.val) (i * 6) ((rowL x.op).map .val ++ [.val (.func (.func f) #[] caps.toArray)]) = (rwsV (q ++ [(x.op, .func (.func f) #[] caps.toArray)]) ++ zeR (l.length - (i + 1))).map CV.val := by
      rw [rwsV_snoc, show l.length - i = (l.length - (i + 1)) + 1 by omega, zeR_succ]
      unfold splice
      simp only [List.map_append, List.append_assoc]
      have hml : ((rwsV q).map CV.val).length = i * 6 := by rw [List.length_map, hpl]
      generalize (rwsV q).map CV.val = R at *
      rw [← hml, List.take_left, List.drop_length_add_append]
      simp [rowVs, rowL]
    have hsub : IntKind.i64.wrap (1 - ((takes x.op : Nat) : Int)) = 1 - ((takes x.op : Nat) : Int) := wrap_i64 (by omega)
    have hadd : IntKind.i64.wrap (((d : Nat) : Int) + (1 - ((takes x.op : Nat) : Int))) = ((d - takes x.op + 1 : Nat) : Int) := by rw [wrap_i64 (by omega)]; omega
    have hinc : IntKind.i64.wrap (((i : Nat) : Int) + 1) = ((i + 1 : Nat) : Int) := by rw [wrap_i64 (by omega)]; omega
    by_cases h16 : 16 < d - takes x.op + 1
    · have hc := bad (fun h => by omega)
      obtain ⟨q1, q2⟩ := rs_no (l := l) (by rw [hc]; decide)
      rw [q1, q2, hc]
      (refine LWP.seq <| LWP.seq <| rgN <| kfa rfl rfl ?_; refine kl1 rfl rfl rfl <| K.funcNil rfl (by kernel_rfl) (r := false) (.inr ⟨⟨_, _, _, rfl⟩, rfl⟩) .plain ?_; refine kmv rfl <| K.loadAll rfl rfl rfl (.taken rfl rfl) ?_; refine gca rfl rfl hB rfl rfl <| K.not rfl rfl (.taken rfl rfl) ?_; refine kpf rfl rfl <| kmv rfl <| gmv rfl rfl rfl <| K.fieldAddr rfl rfl (.taken rfl rfl) ?_; refine K.loadOne rfl rfl rfl (.taken rfl rfl) ?_; refine K.lss rfl rfl (r := false) (decide_eq_false (by omega)) (.taken rfl rfl) ?_; refine kpf rfl rfl <| RunK.nil <| LWP.condF rfl ?_; refine LWP.skip ?_; refine LWP.seq <| rgN <| kmv rfl <| kmv rfl <| K.loadAll rfl rfl rfl .plain ?_; refine K.indexSlc rfl rfl (by omega) hix .plain ?_; refine K.store rfl rfl rfl rfl (by kernel_rfl) hroom hspl .plain <| RunK.nil <| LWP.seq <| rgN <| kmv rfl <| kfa rfl rfl ?_; refine kl1 rfl rfl rfl <| K.sub rfl rfl hsub .plain <| kad rfl rfl hadd <| kas rfl <| RunK.nil <| LWP.seq <| rgN <| kmv rfl <| K.gtr rfl rfl (r := true) (decide_eq_true (by omega)) .plain <| RunK.nil <| LWP.condT rfl ?_; refine LWP.seq <| rgN <| kas rfl <| kas rfl <| RunK.nil <| LWP.ret ?_)
      exact Leads.done ⟨[], ⟨[_, _], ⟨rfl, rfl, trivial⟩, rfl⟩, trivial, rfl, rfl⟩
    · rw [if_pos ⟨hok, by omega, by omega⟩] at hsn
      (refine LWP.seq <| LWP.seq <| rgN <| kfa rfl rfl ?_; refine kl1 rfl rfl rfl <| K.funcNil rfl (by kernel_rfl) (r := false) (.inr ⟨⟨_, _, _, rfl⟩, rfl⟩) .plain ?_; refine kmv rfl <| K.loadAll rfl rfl rfl (.taken rfl rfl) ?_; refine gca rfl rfl hB rfl rfl <| K.not rfl rfl (.taken rfl rfl) ?_; refine kpf rfl rfl <| kmv rfl <| gmv rfl rfl rfl <| K.fieldAddr rfl rfl (.taken rfl rfl) ?_; refine K.loadOne rfl rfl rfl (.taken rfl rfl) ?_; refine K.lss rfl rfl (r := false) (decide_eq_false (by omega)) (.taken rfl rfl) ?_; refine kpf rfl rfl <| RunK.nil <| LWP.condF rfl ?_; refine LWP.skip ?_; refine LWP.seq <| rgN <| kmv rfl <| kmv rfl <| K.loadAll rfl rfl rfl .plain ?_; refine K.indexSlc rfl rfl (by omega) hix .plain ?_; refine K.store rfl rfl rfl rfl (by kernel_rfl) hroom hspl .plain <| RunK.nil <| LWP.seq <| rgN <| kmv rfl <| kfa rfl rfl ?_; refine kl1 rfl rfl rfl <| K.sub rfl rfl hsub .plain <| kad rfl rfl hadd <| kas rfl <| RunK.nil <| LWP.seq <| rgN <| kmv rfl <| K.gtr rfl rfl (r := false) (decide_eq_false (by omega)) .plain <| RunK.nil <| LWP.condF rfl ?_; refine LWP.skip ?_; refine rgN <| kad rfl rfl hinc <| kmv rfl <| RunK.nil ?_)
      refine Leads.le (σ' := rwSt (some ⟨blk, off, none⟩) l.length cap (i + 1) (d - takes x.op + 1) (rwsV (q ++ [(x.op, .func (.func f) #[] caps.toArray)]) ++ zeR (l.length - (i + 1))) [] [] (joinM X G)) (Le.of (by exact ⟨rfl, rfl, rfl, rfl, rfl, rfl, trivial⟩) (by exact ⟨rfl, trivial⟩) (by exact rfl) (by exact rfl) (by repeat' (first | refine all_cons_true ?_ ?_ | rfl | exact bytes_inUse | exact vals_inUse | exact mid_inUse rfl))) (Leads.done ⟨l.length - (i + 1), by omega, i + 1, _, _, G, by omega, rfl, ?_, ?_, hOG, hsn, rfl⟩)
      · rw [List.map_append, hq, List.take_add_one, hx, List.map_append]
        rfl
      · intro p hp
        rcases List.mem_append.1 hp with hp | hp
        · exact (hD p hp).mono hHG
        · rw [List.mem_singleton] at hp
          subst hp
          exact hDv
  · have e : i = l.length := by omega
    subst e
    rw [List.take_length] at hq hdep
    have hz : zeR (l.length - l.length) = [] := by rw [Nat.sub_self]; rfl
    rw [hz, List.append_nil]
    by_cases h1 : d = 1
    · subst h1
      have hc : chkX l = 0 := by unfold chkX; rw [if_neg h64, if_pos hdep]
      obtain ⟨q1, q2⟩ := rs_ok hc
      rw [q1, q2]
      (refine LWP.seq <| rgN <| klt rfl rfl (decide_eq_false (by omega)) <| RunK.nil <| LWP.seq <| LWP.condF rfl ?_; refine LWP.exit <| LWP.seq <| LWP.seq <| rgN <| kmv rfl <| kne rfl rfl (r := false) rfl <| RunK.nil <| LWP.condF rfl ?_; refine LWP.skip ?_; refine LWP.seq <| rgN <| kmv rfl <| kas rfl <| kas rfl <| RunK.nil <| LWP.ret ?_)
      refine Leads.le (σ' := ⟨[(2, .sv (.one (.slc 500 0 l.length 6))), (3, Ln .i64 0)], [(500, some ⟨190, (rwsV q).map .val, false⟩)], joinM X H⟩) (Le.of (by exact ⟨rfl, rfl, trivial⟩) (by exact ⟨rfl, trivial⟩) (by exact rfl) (by exact rfl) (by repeat' (first | refine all_cons_true ?_ ?_ | rfl | exact bytes_inUse | exact vals_inUse | exact mid_inUse rfl))) ?_
      refine Leads.closeRes (R := rowsR l) hO (fun ρ fr g1 g2 g3 => ⟨q, fr, withBlock_at _ _ _, g3, hq, fun p hp => (hD p hp).mono (withBlock_old g1)⟩) (Leads.done ?_)
      exact ⟨[(1000001, 500)], ⟨[_, _], ⟨rfl, rfl, trivial⟩, rfl⟩, (by repeat' (first | exact trivial | refine And.intro ⟨_, rfl, ?_⟩ ?_ | refine And.intro ⟨_, rfl⟩ ?_ | rfl | exact Box.ren_bytes _ _ _ _ | exact Box.ren_vals _ _ _ _ | exact Box.ren_mid rfl)), rfl, rfl⟩
    · have hc : chkX l = 4 := by unfold chkX; rw [if_neg h64, if_neg (fun h => h1 (by rw [hdep] at h; exact Option.some.inj h))]
      obtain ⟨q1, q2⟩ := rs_no (l := l) (by rw [hc]; decide)
      rw [q1, q2, hc]
      (refine LWP.seq <| rgN <| klt rfl rfl (decide_eq_false (by omega)) <| RunK.nil <| LWP.seq <| LWP.condF rfl ?_; refine LWP.exit <| LWP.seq <| LWP.seq <| rgN <| kmv rfl <| kne rfl rfl (r := true) (bne_iff_ne.2 (by omega)) <| RunK.nil <| LWP.condT rfl ?_; refine LWP.seq <| rgN <| kas rfl <| kas rfl <| RunK.nil <| LWP.ret ?_)
      exact Leads.done ⟨[], ⟨[_, _], ⟨rfl, rfl, trivial⟩, rfl⟩, trivial, rfl, rfl⟩
theorem gCheck' (l : List Ins) (ad : Option Addr) (cap : Nat) (hin : InsIn X ad l) (hl : l.length < 1152921504606846976) : PSpec Tryz.prog X 139 [Lx ad l.length cap] (Ln .i64 (chkX l)) := by
  have hR := tRowsOf X l ad cap hin hl
  refine PSpec.intro Tryz.func139 rfl (by kernel_rfl) rfl rfl ?_
  intro C
  by_cases h : chkX l = 0
  · rw [(rs_ok h).1, (rs_ok h).2] at hR
    rw [h]
    (refine LWP.seq <| rgN <| kas rfl <| RunK.nil <| LWP.seq <| rgN <| kmv rfl <| K.callMp [(1000001, 500)] (.tup [.one (.slc 500 0 l.length 6), Sn .i64 0]) [(500, some ⟨0, [], .res (rowsR l)⟩)] (hR) rfl rfl (by exact trivial) rfl rfl rfl rfl rfl (by exact (.box rfl rfl .nil)) .plain <| kmv rfl <| kex rfl rfl <| kex rfl rfl <| kas rfl <| kas rfl <| RunK.nil ?_; refine LWP.seq <| rgN <| kmv rfl <| kas rfl <| RunK.nil <| LWP.ret ?_)
    exact ⟨[_], ⟨rfl, trivial⟩, rfl⟩
  · rw [(rs_no h).1, (rs_no h).2] at hR
    (refine LWP.seq <| rgN <| kas rfl <| RunK.nil <| LWP.seq <| rgN <| kmv rfl <| K.callM [] [] (hR) rfl rfl (by exact trivial) rfl rfl rfl rfl rfl (by exact .nil) .plain <| kmv rfl <| kex rfl rfl <| kex rfl rfl <| kas rfl <| kas rfl <| RunK.nil ?_; refine LWP.seq <| rgN <| kmv rfl <| kas rfl <| RunK.nil <| LWP.ret ?_)
    exact ⟨[_], ⟨rfl, trivial⟩, rfl⟩
end Go.Proofs.YtopiioklkkiedaaGreatDoor
end
section
namespace Go.Lg.Fml
theorem dep_step {okJ : Ins → Bool} {l : List Ins} {m i d : Nat} {x : Ins} (h : dep okJ 0 l = some m) (hd : dep okJ 0 (l.take i) = some d) (hx : l[i]? = some x) : okJ x = true ∧ takes x.op ≤ d ∧ d - takes x.op + 1 ≤ 16 ∧ dep okJ 0 (l.take (i + 1)) = some (d - takes x.op + 1) := by
  have h1 := dep_snoc hd hx
  by_cases c : okJ x = true ∧ takes x.op ≤ d ∧ d - takes x.op + 1 ≤ 16
  · rw [if_pos c] at h1
    exact ⟨c.1, c.2.1, c.2.2, h1⟩
  · rw [if_neg c] at h1
    have := dep_none h1
    rw [h] at this
    cases this
section
variable {V : Type} {one : Ins → List V → Except Int V}
theorem run_snoc {l : List Ins} {i : Nat} {x : Ins} {st : List V} (h : run one (l.take i) [] = .ok st) (hx : l[i]? = some x) : run one (l.take (i + 1)) [] = match one x (st.take (takes x.op)).reverse with | .error e => .error e | .ok v => .ok (v :: st.drop (takes x.op)) := by
  rw [List.take_add_one, hx, run_app, h]
  simp only [Option.toList_some, run]
  cases one x (st.take (takes x.op)).reverse <;> rfl
theorem run_fail {l : List Ins} {i : Nat} {x : Ins} {st : List V} {e : Int} (h : run one (l.take i) [] = .ok st) (hx : l[i]? = some x) (ho : one x (st.take (takes x.op)).reverse = .error e) : run one l [] = .error e := by
  have h1 := run_snoc h hx
  rw [ho] at h1
  rw [← List.take_append_drop (i + 1) l, run_app, h1]
def headX : Except Int (List V) → Except Int V
  | .error e => .error e
  | .ok (v :: _) => .ok v
  | .ok [] => .error 0
end
end Go.Lg.Fml
namespace Go.Proofs.YtopiioklkkiedaaGreatDoor
open Go Go.Lg Go.Lg.Fml Go.Lg.Fld Go.Lg.Arith
set_option maxRecDepth 100000
theorem exR_closed (r : Except Int Nm) : (exR r).closed = true := by cases r <;> rfl
def StepN (Y : Nat → Option Obj) (v : Value) (one : Ins → List Nm → Except Int Nm) : Prop := ∃ (f : FuncId) (caps : List Value), v = .func (.func f) #[] caps.toArray ∧ ∀ Z, MoreM Y Z → ∀ x : Ins, smallI x → ∀ dv : Value, DeedV Z dv x.op → ∀ (tad : Option Addr) (tcap : Nat) (ts : List Nm), NumsIn Z tad ts → ts.length = takes x.op →
  PSpec Tryz.prog Z f ([LRow x.op (.val dv), LIn x, Lx tad ts.length tcap] ++ capL caps) (exR (one x ts))
theorem step_eval {Y : Nat → Option Obj} {blk : Nat} {arr : Array Value} {el : TypeId} {fr : Nat × Nat} {fad : Option Addr} {fcap : Nat} {fs : List (List Nm)} {at_ : Int} (hY : Y blk = some (.cells arr el fr)) (hsp : ∃ sp, arr.toList = [.slice fad fs.length fcap, .int .i64 at_] ++ sp) (hE : EnvIn Y fad fs at_) : StepN Y (.func (.func 105) #[] #[pv blk]) (oneX fs at_) := by
  refine ⟨105, [pv blk], rfl, fun Z hZ x hx dv hD tad tcap ts hts hlen => ?_⟩
  obtain ⟨f, caps, rfl, hF⟩ := hD
  have hP := hF Z (MoreM.refl Z) x rfl hx fad fcap fs at_ (hE.mono hZ) tad tcap ts hts hlen
  have hX := hZ _ _ hY
  obtain ⟨sp, hsp⟩ := hsp
  have hs0 : 0 + 2 ≤ arr.size := by rw [← Array.length_toList, hsp]; simp
  have hc0 : ((arr.toList.drop 0).take 2).map CV.val = [.val (.slice fad fs.length fcap), .val (.int .i64 at_)] := by rw [hsp]; rfl
  show PSpec _ Z _ [LRow x.op (.val (.func (.func f) #[] caps.toArray)), LIn x, Lx tad ts.length tcap, .sv (.one (.val (pv blk)))] (exR (oneX fs at_ x ts))
  rw [exR_eq] at hP ⊢
  generalize exE (oneX fs at_ x ts) = e at *
  generalize exV (oneX fs at_ x ts) = v at *
  obtain ⟨vb, vN⟩ := v
  refine PSpec.intro Tryz.func105 rfl (by kernel_rfl) rfl rfl ?_
  intro C
  (refine LWP.seq <| rgN <| K.box rfl rfl rfl .plain <| K.box rfl rfl rfl .plain <| K.alloc rfl .plain ?_; refine kas rfl <| RunK.nil <| LWP.seq <| rgN <| kfa rfl rfl ?_; refine kl1 rfl rfl rfl <| K.loadAll rfl rfl rfl .plain ?_; refine K.loadXagg rfl hX (by kernel_rfl) hs0 hc0 .plain <| kmv rfl <| K.callF rfl rfl rfl hP .plain ?_; refine kex rfl rfl <| kex rfl rfl <| K.storeAll rfl rfl rfl rfl rfl rfl .plain ?_; refine kas rfl <| RunK.nil <| LWP.ret ?_)
  exact ⟨[_, _], ⟨⟨_, _, rfl, rfl, rfl, .inl ⟨AggT.h, rfl⟩⟩, rfl, trivial⟩, rfl⟩
theorem nums_tail {Z : Nat → Option Obj} {sb : Nat} {arr : Array Value} {el : TypeId} {fr : Nat × Nat} {ns : List Nm} {rest cap : Nat} (hZ : Z sb = some (.cells arr el fr)) (h2 : ∀ u ∈ ns, In2 u.2) (hsp : ∃ sp, arr.toList = nmsV ns ++ sp) (hc : cap = rest → ns.drop rest = []) :
    NumsIn Z (some ⟨sb, if cap = rest then 0 else 0 + rest * 3, none⟩) (ns.drop rest) := by
  have hN := nms_in hZ h2 hsp
  refine ⟨fun i r hi => ?_, fun u hu => h2 u (List.mem_of_mem_drop hu)⟩
  by_cases c : cap = rest
  · rw [hc c] at hi; simp at hi
  · rw [if_neg c]
    rw [List.getElem?_map, List.getElem?_drop] at hi
    obtain ⟨blk, off, arr', el', fr', e1, e2, e3, e4⟩ := hN.rows (rest + i) r (by rw [List.getElem?_map]; exact hi)
    simp only [Option.some.injEq, Addr.mk.injEq] at e1
    obtain ⟨rfl, rfl, _⟩ := e1
    refine ⟨sb, 0 + rest * 3, arr', el', fr', rfl, e2, by omega, ?_⟩
    rw [← e4, show 0 + rest * 3 + i * 3 = 0 + (rest + i) * 3 by omega]
theorem nmsV_app (a b : List Nm) : nmsV (a ++ b) = nmsV a ++ nmsV b := by unfold nmsV; rw [List.map_append, List.flatten_append]
theorem more_join {C : Ctx} {X H : Nat → Option Obj} (hO : OwnedM C X H) : MoreM X (joinM X H) ∧ MoreM H (joinM X H) := by
  refine ⟨fun b o hb => ?_, fun b o hb => joinM_in hb⟩
  cases hc : H b with
  | none => rw [joinM_out hc]; exact hb
  | some o' => have := (hO.own b o' hc).2.2; rw [hb] at this; cases this
variable (X : Nat → Option Obj)
abbrev rnSt (rad ad : Option Addr) (n rcap cap i : Nat) (v : Value) (ms : List (Nat × LV)) (mb : List (Nat × Option Box)) (Y : Nat → Option Obj) : St :=
  ⟨ms ++ [(0, Lx rad n rcap), (1, Lx ad n cap), (2, .sv (.one (.val v))), (6, Lp 6), (15, Lx rad n rcap), (16, Ln .i64 (n : Nat)), (17, Ln .i64 (i : Nat))], mb ++ [(6, some ⟨86, [.val (.bool false), .val (.int .u64 0), .val (.int .u64 0)], false⟩)], Y⟩
set_option maxHeartbeats 12800000 in
theorem tRunN (l : List Ins) (hchk : chkX l = 0) (ad : Option Addr) (cap : Nat) (hin : InsIn X ad l) (rad : Option Addr) (rcap : Nat) (hrows : RowsOK X rad l) (v : Value) (one : Ins → List Nm → Except Int Nm) (hv : StepN X v one)
    (h2 : ∀ x ∈ l, ∀ a u, (∀ w ∈ a, In2 w.2) → one x a = .ok u → In2 u.2) (he : ∀ x a e, a.length = takes x.op → one x a = .error e → e ≠ 0) :
    PSpec Tryz.prog X 104 [Lx rad l.length rcap, Lx ad l.length cap, .sv (.one (.val v))] (exR (headX (run one l []))) := by
  obtain ⟨h64, hdep1⟩ := chkX_zero hchk
  obtain ⟨f, caps, rfl, hF⟩ := hv
  refine PSpec.intro Tryz.func104 rfl (by kernel_rfl) rfl (exR_closed _) ?_
  intro C
  have hmk : slcBuild Tryz.prog 28 16 = some ((List.replicate 16 [Value.bool false, .int .u64 0, .int .u64 0]).flatten, 3, 86) := slcBuild_many (z := #[.bool false, .int .u64 0, .int .u64 0]) (by kernel_rfl) (by kernel_rfl) rfl (by omega)
  (refine LWP.seq <| rgN <| K.alloc rfl .plain ?_; refine kas rfl <| RunK.nil <| LWP.seq <| rgN <| K.makeSlc0 (m := 16) (bytes := 24) rfl rfl hmk (by kernel_rfl) (by omega) rfl .plain ?_; refine kas rfl <| RunK.nil <| LWP.seq <| LWP.seq <| rgN <| kmv rfl <| K.lenX rfl SliceT.h rfl .plain ?_; refine kmv rfl <| RunK.nil <| LWP.block ?_)
  refine LWP.loop (fun k σ => ∃ (i : Nat) (st : List Nm), i ≤ l.length ∧ k = l.length - i ∧ run one (l.take i) [] = .ok st ∧ (∀ w ∈ st, In2 w.2) ∧ dep okI 0 (l.take i) = some st.length ∧ σ = rnSt rad ad l.length rcap cap i (.func (.func f) #[] caps.toArray) [(8, .sv (.one (.slc 500 0 st.length 3)))] [(500, some ⟨86, (nmsV st.reverse).map .val, true⟩)] X) l.length
    ⟨rnSt rad ad l.length rcap cap 0 (.func (.func f) #[] caps.toArray) [(8, .sv (.one (.slc 500 0 0 3)))] [(500, some ⟨86, [], true⟩)] X, Le.ofR [(500, 14), (6, 6)] (by exact ⟨rfl, rfl, rfl, rfl, rfl, rfl, rfl, rfl, trivial⟩) (by repeat' (first | exact trivial | refine And.intro ⟨_, rfl, ?_⟩ ?_ | refine And.intro ⟨_, rfl⟩ ?_ | rfl | exact Box.ren_bytes _ _ _ _ | exact Box.ren_vals _ _ _ _ | exact Box.ren_mid rfl)) (by exact rfl) (by exact rfl) (by repeat' (first | refine all_cons_true ?_ ?_ | rfl | exact bytes_inUse | exact vals_inUse | exact mid_inUse rfl)) (by exact rfl) (by exact rfl), 0, [], by omega, by omega, rfl, fun w hw => absurd hw (by simp), rfl, rfl⟩ ?_
  rintro k σ ⟨i, st, hi, rfl, hst, hst2, hdep, rfl⟩
  by_cases hlt : i < l.length
  · obtain ⟨x, hx⟩ : ∃ x, l[i]? = some x := ⟨_, List.getElem?_eq_getElem hlt⟩
    have hmem := List.mem_of_getElem? hx
    have hsx := hin.small x hmem
    obtain ⟨hok, htk, h16, hdn⟩ := dep_step hdep1 hdep hx
    have hd16 := dep_le (by omega) hdep
    obtain ⟨rblk, roff, rarr, rel, rfr, dv, rfl, hXr, hszr, hcsr, hDv⟩ := hrows.at hx
    obtain ⟨g, gcaps, egv, _⟩ := id hDv
    subst egv
    obtain ⟨blk, off, arr, el, fr, rfl, hX, hsz, hcs, hop⟩ := hin.at hx
    have hio : off + Int.toNat (i : Int) * 6 = off + i * 6 := by simp
    have hior : roff + Int.toNat (i : Int) * 6 = roff + i * 6 := by simp
    have hin0 : 0 ≤ (i : Int) ∧ (i : Int) < (l.length : Nat) := by omega
    obtain ⟨rest, hrest⟩ : ∃ rest, st.length - takes x.op = rest := ⟨_, rfl⟩
    have hsub : IntKind.i64.wrap (((st.length : Nat) : Int) - ((takes x.op : Nat) : Int)) = ((rest : Nat) : Int) := by rw [wrap_i64 (by omega)]; omega
    (refine LWP.seq <| rgN <| klt rfl rfl (decide_eq_true (by omega)) <| RunK.nil <| LWP.seq <| LWP.condT rfl ?_; refine LWP.skip ?_; refine LWP.seq <| LWP.block <| LWP.seq <| rgN <| kmv rfl <| K.indexX rfl rfl SliceT.h hin0 hior .plain <| K.loadXagg rfl hXr (by kernel_rfl) hszr hcsr .plain <| K.alloc rfl .plain ?_; refine kas rfl <| K.storeAll rfl rfl rfl rfl rfl rfl .plain ?_; refine RunK.nil <| LWP.seq <| rgN <| kmv rfl <| K.lenSlc rfl SliceT.h rfl .plain ?_; refine kfa rfl rfl ?_; refine kl1 rfl rfl rfl <| K.sub rfl rfl hsub .plain <| kas rfl <| RunK.nil <| LWP.seq ?_)
    refine LWP.le (σ' := ⟨[(8, .sv (.one (.slc 500 0 st.length 3))), (0, Lx (some ⟨rblk, roff, none⟩) l.length rcap), (1, Lx (some ⟨blk, off, none⟩) l.length cap), (2, .sv (.one (.val (.func (.func f) #[] caps.toArray)))), (6, Lp 6), (9, Ln .i64 (i : Nat)), (10, Lp 10), (11, Ln .i64 (rest : Nat)), (15, Lx (some ⟨rblk, roff, none⟩) l.length rcap), (16, Ln .i64 (l.length : Nat)), (17, Ln .i64 (i : Nat))], [(500, some ⟨86, (nmsV st.reverse).map .val, true⟩), (6, some ⟨86, [.val (.bool false), .val (.int .u64 0), .val (.int .u64 0)], false⟩), (10, some ⟨190, (rowVs (x.op, .func (.func g) #[] gcaps.toArray)).map .val, false⟩)], X⟩) (Le.of (by exact ⟨rfl, rfl, rfl, rfl, rfl, rfl, rfl, rfl, rfl, rfl, rfl, trivial⟩) (by exact ⟨rfl, rfl, rfl, trivial⟩) (by exact rfl) (by exact rfl) (by repeat' (first | refine all_cons_true ?_ ?_ | rfl | exact bytes_inUse | exact vals_inUse | exact mid_inUse rfl))) ?_
    refine LWP.freeze rfl (by exact (by repeat' (first | refine all_cons_true ?_ ?_ | rfl | exact bytes_inUse | exact vals_inUse | exact mid_inUse rfl))) rfl fun sb scap sarr sfr hn hFz hcp hfit hsp => ?_
    have hXZ : MoreM X (withBlock X sb (.cells sarr 86 sfr)) := withBlock_old hn
    have hts : st.reverse.drop rest = (st.take (takes x.op)).reverse := by rw [List.drop_reverse, ← hrest, show st.length - (st.length - takes x.op) = takes x.op by omega]
    have hln : ((st.take (takes x.op)).reverse).length = takes x.op := by rw [List.length_reverse, List.length_take]; omega
    have hN := nums_tail (cap := scap) (rest := rest) (withBlock_at X sb (.cells sarr 86 sfr)) (fun u hu => hst2 u (List.mem_reverse.1 hu)) hsp (fun e => List.drop_eq_nil_of_le (by rw [List.length_reverse]; omega))
    rw [hts] at hN
    have hP := hF _ hXZ x hsx _ (hDv.mono hXZ) _ (scap - rest) _ hN hln
    have hln2 : st.length - rest = ((st.take (takes x.op)).reverse).length := by rw [hln]; omega
    have hXc := hXZ _ _ hX
    have hsn := run_snoc hst hx
    cases hone : one x (st.take (takes x.op)).reverse with
    | error e =>
      have hne := he x _ e hln hone
      rw [run_fail hst hx hone]
      rw [hone] at hP
      show LWP _ _ _ _ _ _
      (refine rgD mixed <| kmv rfl <| K.loadAll rfl rfl rfl .plain ?_; refine kmv rfl <| kmv rfl <| K.indexX rfl rfl SliceT.h hin0 hio .plain <| K.loadXagg rfl hXc (by kernel_rfl) hsz hcs .plain <| kmv rfl <| kmv rfl <| K.cutLoX rfl rfl SliceT.h (by omega) rfl hln2 rfl .plain ?_; refine K.callF rfl rfl rfl hP .plain ?_; refine kmv rfl <| kex rfl rfl <| kex rfl rfl <| K.alloc rfl .plain ?_; refine K.storeAll rfl rfl rfl rfl rfl rfl .plain ?_; refine kas rfl <| RunK.nil <| rgA ?_; refine LWP.seq <| LWP.seq <| rgN <| kmv rfl <| kne rfl rfl (r := true) (bne_iff_ne.2 hne) <| RunK.nil <| LWP.condT rfl ?_; refine LWP.seq <| rgN <| K.loadAll rfl rfl rfl .plain ?_; refine kmv rfl <| K.storeAll rfl rfl rfl rfl rfl rfl .plain ?_; refine kas rfl <| RunK.nil <| LWP.ret ?_)
      exact ⟨[_, _], ⟨⟨_, _, rfl, rfl, rfl, .inl ⟨AggT.h, rfl⟩⟩, rfl, trivial⟩, rfl⟩
    | ok u =>
      rw [hone] at hP hsn
      simp only at hsn
      have hu2 := h2 x hmem _ u (fun w hw => hst2 w (List.mem_of_mem_take (List.mem_reverse.1 hw))) hone
      obtain ⟨ub, uN⟩ := u
      have hP : PSpec Tryz.prog (withBlock X sb (.cells sarr 86 sfr)) f ([LRow x.op (.val (.func (.func g) #[] gcaps.toArray)), LIn x, Lx (some ⟨sb, if scap = rest then 0 else 0 + rest * 3, none⟩) ((st.take (takes x.op)).reverse).length (scap - rest)] ++ capL caps) (.tup [SI ub uN, Sn .i64 0]) := hP
      (refine rgD mixed <| kmv rfl <| K.loadAll rfl rfl rfl .plain ?_; refine kmv rfl <| kmv rfl <| K.indexX rfl rfl SliceT.h hin0 hio .plain <| K.loadXagg rfl hXc (by kernel_rfl) hsz hcs .plain <| kmv rfl <| kmv rfl <| K.cutLoX rfl rfl SliceT.h (by omega) rfl hln2 rfl .plain ?_; refine K.callF rfl rfl rfl hP .plain ?_; refine kmv rfl <| kex rfl rfl <| kex rfl rfl <| K.alloc rfl .plain ?_; refine K.storeAll rfl rfl rfl rfl rfl rfl .plain ?_; refine kas rfl <| RunK.nil <| rgA ?_; refine LWP.seq <| LWP.seq <| rgN <| kmv rfl <| kne rfl rfl (r := false) rfl <| RunK.nil <| LWP.condF rfl ?_; refine LWP.skip ?_)
      have hspl : nmsV st.reverse = nmsV (st.reverse.take rest) ++ nmsV (st.reverse.drop rest) := by rw [← nmsV_app, List.take_append_drop]
      have hsp2 : ∃ sp, sarr.toList = nmsV (st.reverse.take rest) ++ sp := by
        obtain ⟨sp, hsp⟩ := hsp
        exact ⟨_, by rw [hsp, hspl, List.append_assoc]⟩
      have hrl : (st.reverse.take rest).length = rest := by rw [List.length_take, List.length_reverse]; omega
      refine LWP.le (σ' := ⟨[(8, .sv (.one (.val (.slice (some ⟨sb, 0, none⟩) st.length scap)))), (0, Lx (some ⟨rblk, roff, none⟩) l.length rcap), (1, Lx (some ⟨blk, off, none⟩) l.length cap), (2, .sv (.one (.val (.func (.func f) #[] caps.toArray)))), (6, Lp 6), (11, Ln .i64 (rest : Nat)), (12, Lp 12), (15, Lx (some ⟨rblk, roff, none⟩) l.length rcap), (16, Ln .i64 (l.length : Nat)), (17, Ln .i64 (i : Nat))], [(6, some ⟨86, [.val (.bool false), .val (.int .u64 0), .val (.int .u64 0)], false⟩), (12, some ⟨86, cI ub uN, false⟩)], withBlock X sb (.cells sarr 86 sfr)⟩) (Le.of (by exact ⟨rfl, rfl, rfl, rfl, rfl, rfl, rfl, rfl, rfl, rfl, trivial⟩) (by exact ⟨rfl, rfl, trivial⟩) (by exact rfl) (by exact rfl) (by repeat' (first | refine all_cons_true ?_ ?_ | rfl | exact bytes_inUse | exact vals_inUse | exact mid_inUse rfl))) ?_
      refine LWP.thaw (k := 500) (sz := 3) (vals := nmsV (st.reverse.take rest)) hn hFz hcp hfit hsp2 rfl rfl rfl (by decide) ?_
      have hl3 : ((nmsV (st.reverse.take rest)).map CV.val).length = rest * 3 := by rw [nmsV_len, hrl]
      have hnc := nmsV_snoc (st.reverse.take rest) (ub, uN)
      have hinc : IntKind.i64.wrap (((i : Nat) : Int) + 1) = ((i + 1 : Nat) : Int) := by rw [wrap_i64 (by omega)]; omega
      have hst' : st.reverse.take rest = (st.drop (takes x.op)).reverse := by rw [List.take_reverse, ← hrest, show st.length - (st.length - takes x.op) = takes x.op by omega]
      have hlen2 : (((ub, uN) : Nm) :: st.drop (takes x.op)).length = rest + 1 := by rw [List.length_cons, List.length_drop]; omega
      (refine rgD mixed <| kmv rfl <| kmv rfl <| K.cutSlc rfl rfl SliceT.h (by omega) .plain <| K.loadAll rfl rfl rfl .plain ?_; refine K.buildSlc (zs := [Value.bool false, .int .u64 0, .int .u64 0]) (sz := 3) (e := 86) (cs' := [.val (.bool ub), .val (.int .u64 (uN / 18446744073709551616)), .val (.int .u64 (uN % 18446744073709551616))]) (by kernel_rfl) rfl rfl rfl rfl rfl rfl .plain <| K.appendSlc (by_ := 24) (e2 := 86) (l2 := [.val (.bool ub), .val (.int .u64 (uN / 18446744073709551616)), .val (.int .u64 (uN % 18446744073709551616))]) (nl := rest + 1) (nc := (nmsV (st.reverse.take rest ++ [(ub, uN)])).map .val) rfl rfl hl3 rfl rfl (Nat.le_refl _) rfl rfl (by kernel_rfl) (by kernel_rfl) (by omega) (by omega) rfl rfl hnc .plain <| kas rfl <| RunK.nil <| rgA ?_; refine rgN <| kad rfl rfl hinc <| kmv rfl <| RunK.nil ?_)
      exact ⟨l.length - (i + 1), rnSt (some ⟨rblk, roff, none⟩) (some ⟨blk, off, none⟩) l.length rcap cap (i + 1) (.func (.func f) #[] caps.toArray) [(8, .sv (.one (.slc 500 0 (rest + 1) 3)))] [(500, some ⟨86, (nmsV (st.reverse.take rest ++ [(ub, uN)])).map .val, true⟩)] X, by omega, Le.ofR [(500, 49), (6, 6)] (by exact ⟨rfl, rfl, rfl, rfl, rfl, rfl, rfl, rfl, trivial⟩) (by repeat' (first | exact trivial | refine And.intro ⟨_, rfl, ?_⟩ ?_ | refine And.intro ⟨_, rfl⟩ ?_ | rfl | exact Box.ren_bytes _ _ _ _ | exact Box.ren_vals _ _ _ _ | exact Box.ren_mid rfl)) (by exact rfl) (by exact rfl) (by repeat' (first | refine all_cons_true ?_ ?_ | rfl | exact bytes_inUse | exact vals_inUse | exact mid_inUse rfl)) (by exact rfl) (by exact rfl), i + 1, (ub, uN) :: st.drop (takes x.op), by omega, rfl, hsn, (fun w hw => by
        rcases List.mem_cons.1 hw with rfl | hw
        · exact hu2
        · exact hst2 w (List.mem_of_mem_drop hw)), by rw [hdn, hlen2]; congr 1; omega, by rw [hlen2, List.reverse_cons, ← hst']⟩
  · have e : i = l.length := by omega
    subst e
    rw [List.take_length] at hst hdep
    have hl1 : st.length = 1 := by rw [hdep1] at hdep; exact (Option.some.inj hdep).symm
    match st, hl1, hst, hst2 with
    | [(ub, uN)], _, hst, hst2 =>
    rw [hst]
    show LWP _ _ _ _ _ _
    refine LWP.le (σ' := rnSt rad ad l.length rcap cap l.length (.func (.func f) #[] caps.toArray) [(8, .sv (.one (.slc 500 0 1 3)))] [(500, some ⟨86, cI ub uN, true⟩)] X) (Le.of (by exact ⟨rfl, rfl, rfl, rfl, rfl, rfl, rfl, rfl, trivial⟩) (by exact ⟨rfl, rfl, trivial⟩) (by exact rfl) (by exact rfl) (by repeat' (first | refine all_cons_true ?_ ?_ | rfl | exact bytes_inUse | exact vals_inUse | exact mid_inUse rfl))) ?_
    (refine LWP.seq <| rgN <| klt rfl rfl (decide_eq_false (by omega)) <| RunK.nil <| LWP.seq <| LWP.condF rfl ?_; refine LWP.exit <| LWP.seq <| rgN <| kmv rfl <| K.indexSlc (off' := 0) rfl rfl (by omega) rfl .plain ?_; refine K.loadPart rfl rfl rfl rfl .plain ?_; refine K.storeAll rfl rfl rfl rfl rfl rfl .plain ?_; refine kas rfl <| RunK.nil <| LWP.ret ?_)
    exact ⟨[_, _], ⟨⟨_, _, rfl, rfl, rfl, .inl ⟨AggT.h, rfl⟩⟩, rfl, trivial⟩, rfl⟩
theorem run_len {V : Type} {one : Ins → List V → Except Int V} {okJ : Ins → Bool} : ∀ {l : List Ins} {st st' : List V} {n m : Nat}, st.length = n → dep okJ n l = some m → run one l st = .ok st' → st'.length = m
  | [], st, st', n, m, h, hd, hr => by
    simp only [dep, Option.some.injEq] at hd
    simp only [run, Except.ok.injEq] at hr
    rw [← hr, h, hd]
  | x :: l, st, st', n, m, h, hd, hr => by
    simp only [dep] at hd
    split at hd
    · rename_i c
      simp only [run] at hr
      cases ho : one x (st.take (takes x.op)).reverse with
      | error e => rw [ho] at hr; cases hr
      | ok v =>
        rw [ho] at hr
        exact run_len (n := n - takes x.op + 1) (by rw [List.length_cons, List.length_drop, h]) hd hr
    · cases hd
set_option maxHeartbeats 6400000 in
theorem gEval' (l : List Ins) (ad : Option Addr) (cap : Nat) (hin : InsIn X ad l) (hbig : l.length < 1152921504606846976) (fad : Option Addr) (fcap : Nat) (fs : List (List Nm)) (at_ : Int) (hE : EnvIn X fad fs at_) (hf2 : ∀ r ∈ fs, ∀ u ∈ r, In2 u.2) :
    PSpec Tryz.prog X 70 [Lx ad l.length cap, LEnv fad fs.length fcap at_] (exR (evX l fs at_)) := by
  have hR := tRowsOf X l ad cap hin hbig
  by_cases h : chkX l = 0
  · rw [(rs_ok h).1, (rs_ok h).2] at hR
    refine PSpec.intro Tryz.func70 rfl (by kernel_rfl) rfl (exR_closed _) ?_
    intro C
    (refine LWP.seq <| rgN <| K.box rfl rfl rfl .plain <| K.alloc rfl .plain ?_; refine kas rfl <| RunK.nil <| LWP.seq <| rgN <| kmv rfl <| K.callMp [(1000001, 500)] (.tup [.one (.slc 500 0 l.length 6), Sn .i64 0]) [(500, some ⟨0, [], .res (rowsR l)⟩)] (hR) rfl rfl (by exact trivial) rfl rfl rfl rfl rfl (by exact (.box rfl rfl .nil)) .plain <| kmv rfl <| kex rfl rfl <| kex rfl rfl <| kas rfl <| kas rfl <| RunK.nil <| LWP.seq <| LWP.seq ?_; refine rgN <| kmv rfl <| kne rfl rfl ((bne_eq_false_iff_eq.2 (by omega))) <| RunK.nil <| LWP.condF rfl ?_; refine LWP.skip ?_; refine LWP.seq ?_)
    refine LWP.le (σ' := ⟨[(6, .sv (.one (.slc 500 0 l.length 6))), (3, Lp 3), (0, Lx ad l.length cap), (4, Lp 4), (5, Ln .i64 0), (7, Ln .i64 0)], [(500, some ⟨0, [], .res (rowsR l)⟩), (3, some ⟨100, [.val (.slice fad fs.length fcap), .val (.int .i64 at_)], false⟩), (4, some ⟨86, [.val (.bool false), .val (.int .u64 0), .val (.int .u64 0)], false⟩)], X⟩) (Le.of (by exact ⟨rfl, rfl, rfl, rfl, rfl, rfl, trivial⟩) (by exact ⟨rfl, rfl, rfl, trivial⟩) (by exact rfl) (by exact rfl) (by repeat' (first | refine all_cons_true ?_ ?_ | rfl | exact bytes_inUse | exact vals_inUse | exact mid_inUse rfl))) ?_
    refine LWP.fixRes rfl rfl rfl fun ρ H rcap hRr hO _ _ => ?_
    obtain ⟨m1, m2⟩ := more_join hO
    have hrows := rows_fix hRr m2
    refine LWP.le (σ' := ⟨[(3, Lp 3), (6, Lx (some ⟨ρ.1, 0, none⟩) l.length rcap), (0, Lx ad l.length cap), (4, Lp 4), (5, Ln .i64 0), (7, Ln .i64 0)], [(3, some ⟨100, ([.slice fad fs.length fcap, .int .i64 at_] : List Value).map .val, false⟩), (4, some ⟨86, [.val (.bool false), .val (.int .u64 0), .val (.int .u64 0)], false⟩)], joinM X H⟩) (Le.of (by exact ⟨rfl, rfl, rfl, rfl, rfl, rfl, trivial⟩) (by exact ⟨rfl, rfl, trivial⟩) (by exact rfl) (by exact rfl) (by repeat' (first | refine all_cons_true ?_ ?_ | rfl | exact bytes_inUse | exact vals_inUse | exact mid_inUse rfl))) ?_
    refine LWP.freezePtr rfl rfl rfl fun eb earr efr hn hF hsp => ?_
    have m3 : MoreM (joinM X H) (withBlock (joinM X H) eb (.cells earr 100 efr)) := withBlock_old hn
    have hS := step_eval (withBlock_at (joinM X H) eb (.cells earr 100 efr)) hsp (hE.mono (m1.trans m3))
    have hP := tRunN _ l h ad cap (hin.mono (m1.trans m3)) (some ⟨ρ.1, 0, none⟩) rcap (hrows.mono m3) _ (oneX fs at_) hS (fun x hx a u ha ho => one_in2 hf2 (hin.small x hx).2.2.2 hE.place.2 ha ho) (fun x a e hl ho => one_err hl ho)
    have hev : evX l fs at_ = lastX (run (oneX fs at_) l []) := if_pos h
    rw [hev]
    cases hr : run (oneX fs at_) l [] with
    | error e =>
      have hne : e ≠ 0 := by
        have := evX_err (l := l) (fs := fs) (at_ := at_) (e := e) (by rw [hev, hr]; rfl)
        exact this
      rw [hr] at hP
      show LWP _ _ _ _ _ _
      (refine rgN <| kmv rfl <| kmv rfl <| K.makeFunc rfl rfl .plain ?_; refine kca rfl rfl hP <| kmv rfl <| kex rfl rfl <| kex rfl rfl <| K.alloc rfl .plain ?_; refine K.storeAll rfl rfl rfl rfl rfl rfl .plain ?_; refine kas rfl <| RunK.nil <| LWP.seq <| LWP.block <| LWP.seq <| rgN <| kmv rfl <| kne rfl rfl (r := true) (bne_iff_ne.2 hne) <| kas rfl <| RunK.nil <| LWP.condT rfl ?_; refine LWP.seq <| rgN <| K.build rfl rfl (by exact rfl) (by exact nl3 rfl rfl rfl rfl) .plain ?_; refine kmv rfl <| K.storeAll rfl rfl rfl rfl rfl rfl .plain ?_; refine kas rfl <| RunK.nil <| LWP.ret ?_)
      exact ⟨[_, _], ⟨⟨_, _, rfl, rfl, rfl, .inl ⟨AggT.h, rfl⟩⟩, rfl, trivial⟩, rfl⟩
    | ok st =>
      have hl1 := run_len rfl (chkX_zero h).2 hr
      match st, hl1, hr with
      | [(ub, uN)], _, hr =>
      rw [hr] at hP
      have hP : PSpec Tryz.prog (withBlock (joinM X H) eb (.cells earr 100 efr)) 104 [Lx (some ⟨ρ.1, 0, none⟩) l.length rcap, Lx ad l.length cap, .sv (.one (.val (.func (.func 105) #[] #[pv eb])))] (.tup [SI ub uN, Sn .i64 0]) := hP
      have hu2 : In2 uN := by
        obtain ⟨t, ht, hfl⟩ := parse (chkX_zero h).2
        have h5 : t.ev (oneX fs at_) = .ok (ub, uN) := by
          have h6 := run_flat (one := oneX fs at_) (t := t) (rest := []) (st := []) ht
          rw [List.append_nil, hfl, hr] at h6
          cases hv : t.ev (oneX fs at_) with
          | error e => rw [hv] at h6; cases h6
          | ok v => rw [hv] at h6; simp only [run, Except.ok.injEq, List.cons.injEq, and_true] at h6; rw [h6]
        exact tree_in2 hf2 hE.place.2 (fun x hx => (hin.small x (by rw [← hfl]; exact hx)).2.2.2) h5
      have hG := tForm (withBlock (joinM X H) eb (.cells earr 100 efr)) (ub, uN) hu2 _ rfl
      show LWP _ _ _ _ _ _
      cases hg : gd (ub, uN) with
      | false =>
        rw [hg] at hG
        rw [show lastX (.ok [(ub, uN)]) = .error 4 by unfold lastX; simp only; rw [hg]; rfl]
        (refine rgN <| kmv rfl <| kmv rfl <| K.makeFunc rfl rfl .plain ?_; refine kca rfl rfl hP <| kmv rfl <| kex rfl rfl <| kex rfl rfl <| K.alloc rfl .plain ?_; refine K.storeAll rfl rfl rfl rfl rfl rfl .plain ?_; refine kas rfl <| RunK.nil <| LWP.seq <| LWP.block <| LWP.seq <| rgN <| kmv rfl <| kne rfl rfl (r := false) rfl <| kas rfl <| RunK.nil <| LWP.condF rfl ?_; refine LWP.seq <| rgN <| K.loadAll rfl rfl rfl .plain ?_; refine kca rfl rfl (hG) <| K.not rfl rfl .plain <| kas rfl <| RunK.nil <| LWP.condT rfl ?_; refine LWP.seq <| rgN <| K.build rfl rfl (by exact rfl) (by exact nl3 rfl rfl rfl rfl) .plain ?_; refine K.storeAll rfl rfl rfl rfl rfl rfl .plain ?_; refine kas rfl <| RunK.nil <| LWP.ret ?_)
        exact ⟨[_, _], ⟨⟨_, _, rfl, rfl, rfl, .inl ⟨AggT.h, rfl⟩⟩, rfl, trivial⟩, rfl⟩
      | true =>
        rw [hg] at hG
        rw [show lastX (.ok [(ub, uN)]) = .ok (ub, uN) by unfold lastX; simp only; rw [hg]; rfl]
        (refine rgN <| kmv rfl <| kmv rfl <| K.makeFunc rfl rfl .plain ?_; refine kca rfl rfl hP <| kmv rfl <| kex rfl rfl <| kex rfl rfl <| K.alloc rfl .plain ?_; refine K.storeAll rfl rfl rfl rfl rfl rfl .plain ?_; refine kas rfl <| RunK.nil <| LWP.seq <| LWP.block <| LWP.seq <| rgN <| kmv rfl <| kne rfl rfl (r := false) rfl <| kas rfl <| RunK.nil <| LWP.condF rfl ?_; refine LWP.seq <| rgN <| K.loadAll rfl rfl rfl .plain ?_; refine kca rfl rfl (hG) <| K.not rfl rfl .plain <| kas rfl <| RunK.nil <| LWP.condF rfl ?_; refine LWP.skip ?_; refine LWP.seq <| rgN <| K.loadAll rfl rfl rfl .plain ?_; refine K.storeAll rfl rfl rfl rfl rfl rfl .plain ?_; refine kas rfl <| RunK.nil <| LWP.ret ?_)
        exact ⟨[_, _], ⟨⟨_, _, rfl, rfl, rfl, .inl ⟨AggT.h, rfl⟩⟩, rfl, trivial⟩, rfl⟩
  · rw [(rs_no h).1, (rs_no h).2] at hR
    rw [show evX l fs at_ = .error (chkX l) from if_neg h]
    refine PSpec.intro Tryz.func70 rfl (by kernel_rfl) rfl rfl ?_
    intro C
    (refine LWP.seq <| rgN <| K.box rfl rfl rfl .plain <| K.alloc rfl .plain ?_; refine kas rfl <| RunK.nil <| LWP.seq <| rgN <| kmv rfl <| K.callM [] [] (hR) rfl rfl (by exact trivial) rfl rfl rfl rfl rfl (by exact .nil) .plain <| kmv rfl <| kex rfl rfl <| kex rfl rfl <| kas rfl <| kas rfl <| RunK.nil <| LWP.seq <| LWP.seq ?_; refine rgN <| kmv rfl <| kne rfl rfl (r := true) (bne_iff_ne.2 h) <| RunK.nil <| LWP.condT rfl ?_; refine LWP.seq <| rgN <| K.build rfl rfl (by exact rfl) (by exact nl3 rfl rfl rfl rfl) .plain ?_; refine kmv rfl <| K.storeAll rfl rfl rfl rfl rfl rfl .plain ?_; refine kas rfl <| RunK.nil <| LWP.ret ?_)
    exact ⟨[_, _], ⟨⟨_, _, rfl, rfl, rfl, .inl ⟨AggT.h, rfl⟩⟩, rfl, trivial⟩, rfl⟩
end Go.Proofs.YtopiioklkkiedaaGreatDoor
end
