/- A piece of a proof over this program: contracts of its functions, and a logic to prove them by. -/
import Derived.Test.YtfmohdliifmmfaaLg13
namespace Go.Lg
open Go Go.RowKit
def CV.ren (f : Nat → Nat) : CV → CV
  | .val v => .val v
  | .junk => .junk
  | .ptr k off => .ptr (f k) off
  | .slc k off n sz => .slc (f k) off n sz
def SV.ren (f : Nat → Nat) : SV → SV
  | .one c => .one (c.ren f)
  | .agg l => .agg (l.map (CV.ren f))
def LV.ren (f : Nat → Nat) : LV → LV
  | .sv s => .sv (s.ren f)
  | .tup l => .tup (l.map (SV.ren f))
def Box.ren (f : Nat → Nat) (b : Box) : Box := ⟨b.elem, b.cells.map (CV.ren f), b.row⟩
/-- a finite renaming -/
def rn (l : List (Nat × Nat)) (k : Nat) : Nat := (look k l).getD k
section
variable {S T : Nat → Option (Option Box)} {ι κ : Nat → Nat × Nat} {f : Nat → Nat}
/-- what is known under the names of S, is known of the images under f -/
def Maps (S T : Nat → Option (Option Box)) (ι κ : Nat → Nat × Nat) (f : Nat → Nat) : Prop :=
  ∀ k, S k ≠ none → T (f k) ≠ none ∧ ∀ b', T (f k) = some (some b') → κ (f k) = ι k ∧ ∃ b, S k = some (some b)
theorem CV.rel_maps (h : Maps S T ι κ f) {c : CV} {v : Value} (hr : c.rel S ι v) : (c.ren f).rel T κ v := by
  cases c with
  | val u => exact hr
  | junk => trivial
  | ptr k off =>
    simp only [CV.rel, CV.ren] at hr ⊢
    cases hk : S k with
    | none => simp [hk] at hr
    | some x =>
      obtain ⟨h1, h2⟩ := h k (by simp [hk])
      cases hk' : T (f k) with
      | none => exact absurd hk' h1
      | some x' =>
        cases x' with
        | none =>
          cases x with
          | none => simpa [hk] using hr
          | some _ => rw [hk] at hr; exact ⟨_, hr⟩
        | some b' =>
          obtain ⟨e, b, hb⟩ := h2 b' hk'
          rw [hb] at hr
          simp only at hr ⊢
          rw [e]
          exact hr
  | slc k off n sz =>
    simp only [CV.rel, CV.ren] at hr ⊢
    cases hk : S k with
    | none => simp [hk] at hr
    | some x =>
      obtain ⟨h1, h2⟩ := h k (by simp [hk])
      cases hk' : T (f k) with
      | none => exact absurd hk' h1
      | some x' =>
        cases x' with
        | none =>
          cases x with
          | none => simpa [hk] using hr
          | some _ => rw [hk] at hr; obtain ⟨c, h3, h4, _⟩ := hr; exact ⟨_, c, h3, h4⟩
        | some b' =>
          obtain ⟨e, b, hb⟩ := h2 b' hk'
          rw [hb] at hr
          simp only at hr ⊢
          rw [e]
          exact hr
theorem CVs.rel_maps (h : Maps S T ι κ f) : ∀ {l : List CV} {vs : List Value}, CVs.rel S ι l vs → CVs.rel T κ (l.map (CV.ren f)) vs
  | [], [], _ => trivial
  | _ :: _, _ :: _, hr => ⟨CV.rel_maps h hr.1, CVs.rel_maps h hr.2⟩
  | [], _ :: _, hr => hr.elim
  | _ :: _, [], hr => hr.elim
theorem SV.rel_maps (h : Maps S T ι κ f) {s : SV} {v : Value} (hr : s.rel S ι v) : (s.ren f).rel T κ v := by
  cases s with
  | one c => exact CV.rel_maps h hr
  | agg l => obtain ⟨arr, e, hl⟩ := hr; exact ⟨arr, e, CVs.rel_maps h hl⟩
theorem SVs.rel_maps (h : Maps S T ι κ f) : ∀ {l : List SV} {vs : List Value}, SVs.rel S ι l vs → SVs.rel T κ (l.map (SV.ren f)) vs
  | [], [], _ => trivial
  | _ :: _, _ :: _, hr => ⟨SV.rel_maps h hr.1, SVs.rel_maps h hr.2⟩
  | [], _ :: _, hr => hr.elim
  | _ :: _, [], hr => hr.elim
theorem LV.rel_maps (h : Maps S T ι κ f) {s : LV} {v : Value} (hr : s.rel S ι v) : (s.ren f).rel T κ v := by
  cases s with
  | sv s => exact SV.rel_maps h hr
  | tup l => obtain ⟨arr, e, hl⟩ := hr; exact ⟨arr, e, SVs.rel_maps h hl⟩
theorem Box.rel_maps (h : Maps S T ι κ f) {b : Box} {vs : List Value} (hr : b.rel S ι vs) : (b.ren f).rel T κ vs := by
  unfold Box.rel at hr ⊢
  unfold Box.ren
  cases hb : b.row with
  | false => rw [hb] at hr; exact CVs.rel_maps h hr
  | true => rw [hb] at hr; obtain ⟨us, sp, e, hl⟩ := hr; exact ⟨us, sp, e, CVs.rel_maps h hl⟩
/-- back: of the images under f to the names, where the list holds all that are used -/
def Back (bx : List (Nat × Option Box)) (T : Nat → Option (Option Box)) (f : Nat → Nat) : Prop :=
  ∀ k x, look k bx = some x → (∀ b, x = some b → ∃ b', T (f k) = some (some b')) ∧ ∃ y, T (f k) = some y
variable {bx : List (Nat × Option Box)}
theorem CV.rel_back (h : Back bx T f) {c : CV} (hu : c.inUse bx = true) {v : Value} (hr : (c.ren f).rel T κ v) : c.rel (fun k => look k bx) (fun k => κ (f k)) v := by
  cases c with
  | val u => exact hr
  | junk => trivial
  | ptr k off =>
    simp only [CV.inUse, Option.isSome_iff_exists] at hu
    obtain ⟨x, hx⟩ := hu
    obtain ⟨h1, y, hy⟩ := h k x hx
    simp only [CV.rel, CV.ren, hx] at hr ⊢
    cases x with
    | none =>
      rw [hy] at hr
      cases y with
      | none => exact hr
      | some b => exact ⟨_, hr⟩
    | some b => obtain ⟨b', hb'⟩ := h1 b rfl; rw [hb'] at hr; exact hr
  | slc k off m sz =>
    simp only [CV.inUse, Option.isSome_iff_exists] at hu
    obtain ⟨x, hx⟩ := hu
    obtain ⟨h1, y, hy⟩ := h k x hx
    simp only [CV.rel, CV.ren, hx] at hr ⊢
    cases x with
    | none =>
      rw [hy] at hr
      cases y with
      | none => exact hr
      | some b => obtain ⟨c, h3, h4, _⟩ := hr; exact ⟨_, c, h3, h4⟩
    | some b => obtain ⟨b', hb'⟩ := h1 b rfl; rw [hb'] at hr; exact hr
theorem CVs.rel_back (h : Back bx T f) : ∀ {l : List CV} {vs : List Value}, l.all (CV.inUse bx) = true → CVs.rel T κ (l.map (CV.ren f)) vs → CVs.rel (fun k => look k bx) (fun k => κ (f k)) l vs
  | [], [], _, _ => trivial
  | _ :: _, _ :: _, hu, hr => by
    simp only [List.all_cons, Bool.and_eq_true] at hu
    exact ⟨CV.rel_back h hu.1 hr.1, CVs.rel_back h hu.2 hr.2⟩
  | [], _ :: _, _, hr => hr.elim
  | _ :: _, [], _, hr => hr.elim
theorem SV.rel_back (h : Back bx T f) {s : SV} (hu : s.inUse bx = true) {v : Value} (hr : (s.ren f).rel T κ v) : s.rel (fun k => look k bx) (fun k => κ (f k)) v := by
  cases s with
  | one c => exact CV.rel_back h hu hr
  | agg l => obtain ⟨arr, e, hl⟩ := hr; exact ⟨arr, e, CVs.rel_back h hu hl⟩
theorem SVs.rel_back (h : Back bx T f) : ∀ {l : List SV} {vs : List Value}, l.all (SV.inUse bx) = true → SVs.rel T κ (l.map (SV.ren f)) vs → SVs.rel (fun k => look k bx) (fun k => κ (f k)) l vs
  | [], [], _, _ => trivial
  | _ :: _, _ :: _, hu, hr => by
    simp only [List.all_cons, Bool.and_eq_true] at hu
    exact ⟨SV.rel_back h hu.1 hr.1, SVs.rel_back h hu.2 hr.2⟩
  | [], _ :: _, _, hr => hr.elim
  | _ :: _, [], _, hr => hr.elim
theorem LV.rel_back (h : Back bx T f) {s : LV} (hu : s.inUse bx = true) {v : Value} (hr : (s.ren f).rel T κ v) : s.rel (fun k => look k bx) (fun k => κ (f k)) v := by
  cases s with
  | sv s => exact SV.rel_back h hu hr
  | tup l => obtain ⟨arr, e, hl⟩ := hr; exact ⟨arr, e, SVs.rel_back h hu hl⟩
theorem LVs.rel_back (h : Back bx T f) : ∀ {l : List LV} {vs : List Value}, l.all (LV.inUse bx) = true → LVs.rel T κ (l.map (LV.ren f)) vs → LVs.rel (fun k => look k bx) (fun k => κ (f k)) l vs
  | [], [], _, _ => trivial
  | _ :: _, _ :: _, hu, hr => by
    simp only [List.all_cons, Bool.and_eq_true] at hu
    exact ⟨LV.rel_back h hu.1 hr.1, LVs.rel_back h hu.2 hr.2⟩
  | [], _ :: _, _, hr => hr.elim
  | _ :: _, [], _, hr => hr.elim
theorem Box.rel_back (h : Back bx T f) {b : Box} (hu : b.cells.all (CV.inUse bx) = true) {vs : List Value} (hr : (b.ren f).rel T κ vs) : b.rel (fun k => look k bx) (fun k => κ (f k)) vs := by
  unfold Box.rel at hr ⊢
  unfold Box.ren at hr
  cases hb : b.row with
  | false => rw [hb] at hr; exact CVs.rel_back h hu hr
  | true => rw [hb] at hr; obtain ⟨us, sp, e, hl⟩ := hr; exact ⟨us, sp, e, CVs.rel_back h hu hl⟩
end
/-- the boxes of a list lie in the state, under their images -/
def boxesAt (σ : St) (f : Nat → Nat) : List (Nat × Option Box) → Prop
  | [] => True
  | (k, some b) :: r => (∃ b', σ.stat (f k) = some (some b') ∧ b.ren f = b') ∧ boxesAt σ f r
  | (k, none) :: r => (∃ x, σ.stat (f k) = some x) ∧ boxesAt σ f r
theorem ren_bytes (f : Nat → Nat) : ∀ (l : List UInt8), (l.map bc).map (CV.ren f) = l.map bc
  | [] => rfl
  | c :: l => by rw [List.map_cons, List.map_cons, ren_bytes f l]; rfl
theorem Box.ren_bytes (f : Nat → Nat) (e : TypeId) (l : List UInt8) (r : Bool) : Box.ren f ⟨e, l.map bc, r⟩ = ⟨e, l.map bc, r⟩ := by
  unfold Box.ren
  simp only [Go.Lg.ren_bytes]
theorem bytes_inUse {bx : List (Nat × Option Box)} : ∀ {l : List UInt8}, (l.map bc).all (CV.inUse bx) = true
  | [] => rfl
  | c :: l => by rw [List.map_cons, List.all_cons, bytes_inUse]; rfl
theorem all_cons_true {α : Type} {f : α → Bool} {x : α} {l : List α} (h : f x = true) (t : l.all f = true) : (x :: l).all f = true := by rw [List.all_cons, h, t]; rfl
/-- the images of boxes -/
inductive PostEq (f : Nat → Nat) : List (Nat × Option Box) → List (Nat × Option Box) → Prop
  | nil : PostEq f [] []
  | dead {k j : Nat} {r r' : List (Nat × Option Box)} (hk : f k = j) (h : PostEq f r r') : PostEq f ((k, none) :: r) ((j, none) :: r')
  | box {k j : Nat} {b b' : Box} {r r' : List (Nat × Option Box)} (hk : f k = j) (hb : b.ren f = b') (h : PostEq f r r') : PostEq f ((k, some b) :: r) ((j, some b') :: r')
theorem PostEq.eq {f : Nat → Nat} {l l' : List (Nat × Option Box)} (h : PostEq f l l') : (l.map fun p => (f p.1, p.2.map (Box.ren f))) = l' := by
  induction h with
  | nil => rfl
  | dead hk _ ih => rw [List.map_cons, ih, ← hk]; rfl
  | box hk hb _ ih => rw [List.map_cons, ih, ← hk, ← hb]; rfl
theorem boxesAt_look {σ : St} {f : Nat → Nat} : ∀ {l : List (Nat × Option Box)}, boxesAt σ f l → ∀ k x, look k l = some x → (∀ b, x = some b → σ.stat (f k) = some (some (b.ren f))) ∧ (∃ y, σ.stat (f k) = some y) ∧ (k, x) ∈ l
  | [], _, k, x, h => by simp [look] at h
  | (k', ob) :: r, hb, k, x, h => by
    simp only [look] at h
    cases e : Nat.beq k' k with
    | true =>
      have := Nat.eq_of_beq_eq_true e
      subst this
      rw [e] at h
      simp at h
      subst h
      cases ob with
      | none => exact ⟨fun b h2 => (by cases h2), hb.1, List.mem_cons_self⟩
      | some b =>
        obtain ⟨⟨b1, h3, h4⟩, _⟩ := hb
        subst h4
        exact ⟨fun b' h2 => (by cases h2; exact h3), ⟨_, h3⟩, List.mem_cons_self⟩
    | false =>
      rw [e] at h
      have hr : boxesAt σ f r := by cases ob <;> exact hb.2
      obtain ⟨h1, h2, h3⟩ := boxesAt_look hr k x h
      exact ⟨h1, h2, by simp [h3]⟩
/-- no two names of a list have one image -/
def injOn (f : Nat → Nat) : List Nat → Bool
  | [] => true
  | k :: r => r.all (fun j => !Nat.beq (f k) (f j)) && injOn f r
theorem injOn_spec {f : Nat → Nat} : ∀ {l : List Nat}, injOn f l = true → ∀ i j, i ∈ l → j ∈ l → f i = f j → i = j
  | [], _, i, _, h, _, _ => by simp at h
  | k :: r, h, i, j, hi, hj, e => by
    simp only [injOn, Bool.and_eq_true, List.all_eq_true, Bool.not_eq_true'] at h
    obtain ⟨h1, h2⟩ := h
    rcases List.mem_cons.1 hi with rfl | hi'
    · rcases List.mem_cons.1 hj with rfl | hj'
      · rfl
      · have := h1 j hj'
        rw [e, Nat.beq_refl] at this
        cases this
    · rcases List.mem_cons.1 hj with rfl | hj'
      · have := h1 i hi'
        rw [e, Nat.beq_refl] at this
        cases this
      · exact injOn_spec h2 i j hi' hj' e
theorem look_key {α : Type} {k : Nat} {l : List (Nat × α)} {x : α} (h : look k l = some x) : k ∈ l.map (·.1) := by
  apply Classical.byContradiction
  intro hn
  rw [look_none hn] at h
  cases h
theorem key_look {α : Type} {k : Nat} : ∀ {l : List (Nat × α)}, k ∈ l.map (·.1) → ∃ x, look k l = some x
  | [], h => by simp at h
  | (k', x) :: r, h => by
    simp only [look]
    cases e : Nat.beq k' k with
    | true => exact ⟨x, by simp⟩
    | false =>
      have hne : k ≠ k' := fun h2 => by subst h2; rw [Nat.beq_refl] at e; cases e
      simp only [List.map_cons, List.mem_cons] at h
      obtain ⟨y, hy⟩ := key_look (h.resolve_left hne)
      exact ⟨y, by simpa using hy⟩
/-- a state that says less, under other names -/
theorem Le.ofR {n : Nat} {C : Ctx} {σ : St} (f : List (Nat × Nat)) {s : List (Nat × LV)} {bx : List (Nat × Option Box)} {X : Nat → Option Obj}
    (hs : slotsIn σ (s.map fun p => (p.1, p.2.ren (rn f)))) (hb : boxesAt σ (rn f) bx) (hX : σ.X = X)
    (hu : s.all (fun p => p.2.inUse bx) = true) (hub : bx.all (fun p => match p.2 with | some b => b.cells.all (CV.inUse bx) | none => true) = true)
    (hi : injOn (rn f) (bx.map (·.1)) = true) (hk : bx.all (fun p => Nat.blt p.1 1000000 || Nat.beq (rn f p.1) p.1) = true) : Le n C σ ⟨s, bx, X⟩ := by
  refine ⟨fun ι a w h => ?_⟩
  have hback : Back bx σ.stat (rn f) := fun k x hx => ⟨fun b e => ⟨_, (boxesAt_look hb k x hx).1 b e⟩, (boxesAt_look hb k x hx).2.1⟩
  refine ⟨fun k => ι (rn f k), {
    defers := h.defers, size := h.size
    slots := fun d lv hd => ?_
    boxes := fun k b hk => ?_
    own := fun k b hk => ?_
    inj := fun k k' b b' hk hk' he => ?_
    keep := fun k b hk2 hlt => ?_
    ext := by rw [← hX]; exact h.ext
    frame := h.frame, big := h.big, os := h.os, tape := h.tape, output := h.output }⟩
  · have hd2 : look d (s.map fun p => (p.1, p.2.ren (rn f))) = some (lv.ren (rn f)) ∧ (d, lv) ∈ s := by
      clear hs hu
      induction s with
      | nil => simp [St.slot, look] at hd
      | cons p s ih =>
        simp only [St.slot, look, List.map_cons] at hd ⊢
        cases e : Nat.beq p.1 d with
        | true =>
          have := Nat.eq_of_beq_eq_true e
          rw [e] at hd
          simp at hd
          exact ⟨by simp [hd], by rw [← this, ← hd]; simp⟩
        | false =>
          rw [e] at hd
          obtain ⟨h1, h2⟩ := ih hd
          exact ⟨by simpa using h1, by simp [h2]⟩
    obtain ⟨h1, -⟩ := slotsIn_look hs d _ hd2.1
    obtain ⟨v, hv, hr⟩ := h.slots d _ h1
    exact ⟨v, hv, LV.rel_back hback (List.all_eq_true.1 hu _ hd2.2) hr⟩
  · obtain ⟨h1, -, h2⟩ := boxesAt_look hb k _ hk
    obtain ⟨arr, fr, harr, ht, hsz, hr⟩ := h.boxes _ _ (h1 b rfl)
    have hu' : b.cells.all (CV.inUse bx) = true := by simpa using List.all_eq_true.1 hub _ h2
    exact ⟨arr, fr, harr, ht, hsz, Box.rel_back hback hu' hr⟩
  · have := h.own _ _ ((boxesAt_look hb k _ hk).1 b rfl)
    exact ⟨this.1, by rw [← hX]; exact this.2⟩
  · have := h.inj _ _ _ _ ((boxesAt_look hb k _ hk).1 b rfl) ((boxesAt_look hb k' _ hk').1 b' rfl) he
    exact injOn_spec hi k k' (look_key hk) (look_key hk') this
  · have h2 := List.all_eq_true.1 hk _ (boxesAt_look hb k _ hk2).2.2
    simp only [Bool.or_eq_true] at h2
    have e : rn f k = k := by
      rcases h2 with h2 | h2
      · have : k < 1000000 := by rw [Nat.blt_eq] at h2; exact h2
        omega
      · exact Nat.eq_of_beq_eq_true h2
    have h3 := (boxesAt_look hb k _ hk2).1 b rfl
    have h4 := h.keep _ _ h3 (by rw [e]; exact hlt)
    simp only [e] at h4 ⊢
    exact h4
end Go.Lg
