/- A piece of a proof over this program: contracts of its functions, and a logic to prove them by. -/
import Derived.Test.YtfmohdliifmmfaaLg1
namespace Go.Lg
open Go

def edgeOn (e : Edge) : Bool := Region.binds .any e

def maskOf (o : Oper) (acc : List Nat) : Nat :=
  o.after.toList.foldl (fun s e => if edgeOn e then s ||| 1 <<< e.on ||| acc.getD e.on 0 else s) 0

def masks : List Oper → List Nat → List Nat
  | [], acc => acc
  | o :: os, acc => masks os (acc ++ [maskOf o acc])

def hits (xs ys : List Nat) : Bool := xs.any fun x => ys.any fun y => Nat.beq x y

/-- does the one write where the other looks or writes? -/
def clash (lx : List Nat) (ex : Eff) (ly : List Nat) (ey : Eff) : Bool :=
  let sx := ex.slots.map (·.1)
  let sy := ey.slots.map (·.1)
  let bx := ex.boxes.map (·.1)
  let by_ := ey.boxes.map (·.1)
  hits sx ly || hits sx sy || hits sy lx || hits bx by_ || hits bx ey.foot || hits by_ ex.foot

def clashes (lx : List Nat) (ex : Eff) (i : Nat) : List (List Nat × Eff × Nat) → Bool
  | [] => true
  | (ly, ey, m) :: r => (!clash lx ex ly ey || m.testBit i) && clashes lx ex i r

def pairs : Nat → List (List Nat × Eff × Nat) → Bool
  | _, [] => true
  | i, (lx, ex, _) :: r => clashes lx ex i r && pairs (i + 1) r

def edgesBack : Nat → List Oper → Bool
  | _, [] => true
  | i, o :: os => o.after.toList.all (fun e => !edgeOn e || Nat.blt e.on i) && edgesBack (i + 1) os

def zip3 : List (List Nat) → List Eff → List Nat → List (List Nat × Eff × Nat)
  | a :: as, b :: bs, c :: cs => (a, b, c) :: zip3 as bs cs
  | _, _, _ => []

def check (ops : List Oper) (es : List Eff) : Bool :=
  edgesBack 0 ops && pairs 0 (zip3 (ops.map (looks ops)) es (masks ops []))

inductive Run (P : Program) (n : Nat) (ops : List Oper) : List Oper → St → List Eff → St → Prop
  | nil (σ : St) : Run P n ops [] σ [] σ
  | cons {o : Oper} {os : List Oper} {σ σ' : St} {e : Eff} {es : List Eff} (h : Step P n ops o σ e) (r : Run P n ops os (e.app σ) es σ') : Run P n ops (o :: os) σ (e :: es) σ'

theorem Run.length {P : Program} {n : Nat} {ops os : List Oper} {σ σ' : St} {es : List Eff} (h : Run P n ops os σ es σ') : os.length = es.length := by
  induction h with
  | nil => rfl
  | cons _ _ ih => simp [ih]

/-- the effects of those in D, in the order of the text -/
def upto (D : Nat → Bool) : Nat → List Eff → St → St
  | _, [], σ => σ
  | i, e :: es, σ => upto D (i + 1) es (bif D i then e.app σ else σ)

theorem Run.step {P : Program} {n : Nat} {ops : List Oper} : ∀ {os : List Oper} {σ σ' : St} {es : List Eff}, Run P n ops os σ es σ' → ∀ (s i : Nat) (o : Oper), os[i]? = some o →
    ∃ e, es[i]? = some e ∧ Step P n ops o (upto (fun j => decide (j < s + i)) s es σ) e := by
  intro os σ σ' es h
  have none_ : ∀ (es : List Eff) (s i : Nat) (σ : St), i ≤ s → upto (fun j => decide (j < i)) s es σ = σ := by
    intro es
    induction es with
    | nil => intro s i σ _; rfl
    | cons e es ih =>
      intro s i σ hi
      have : decide (s < i) = false := by simp; omega
      simp only [upto, this, cond_false]
      exact ih (s + 1) i σ (by omega)
  induction h with
  | nil => intro s i o ho; simp at ho
  | @cons o' os σ σ' e es hstep r ih =>
    intro s i o ho
    cases i with
    | zero =>
      simp at ho
      subst ho
      refine ⟨e, rfl, ?_⟩
      have : upto (fun j => decide (j < s + 0)) s (e :: es) σ = σ := none_ (e :: es) s (s + 0) σ (by omega)
      rw [this]
      exact hstep
    | succ i =>
      simp at ho
      obtain ⟨e', he', hs'⟩ := ih (s + 1) i o ho
      refine ⟨e', by simpa using he', ?_⟩
      have h1 : decide (s < s + (i + 1)) = true := by simp
      simp only [upto, h1, cond_true]
      have : s + 1 + i = s + (i + 1) := by omega
      rw [this] at hs'
      exact hs'

theorem Run.final {P : Program} {n : Nat} {ops os : List Oper} {σ σ' : St} {es : List Eff} (h : Run P n ops os σ es σ') : ∀ (s : Nat) (D : Nat → Bool), (∀ j, s ≤ j → j < s + es.length → D j = true) → upto D s es σ = σ' := by
  induction h with
  | nil => intro s D _; rfl
  | cons _ _ ih =>
    intro s D hD
    have : D s = true := hD s (Nat.le_refl _) (by simp)
    simp only [upto, this, cond_true]
    exact ih (s + 1) D fun j h1 h2 => hD j (by omega) (by simp; omega)

/-- an effect writes none of these -/
structure Off (e : Eff) (T K : Nat → Prop) : Prop where
  slot : ∀ t, T t → t ∉ e.slots.map (·.1)
  box : ∀ k, K k → k ∉ e.boxes.map (·.1)

structure On (T K : Nat → Prop) (σ σ' : St) : Prop where
  slot : ∀ t, T t → σ.slot t = σ'.slot t
  stat : ∀ k, K k → σ.stat k = σ'.stat k
  X : σ.X = σ'.X

theorem On.refl (T K : Nat → Prop) (σ : St) : On T K σ σ := ⟨fun _ _ => rfl, fun _ _ => rfl, rfl⟩

theorem look_append {α : Type} (k : Nat) (l l' : List (Nat × α)) : look k (l ++ l') = (look k l).or (look k l') := by
  induction l with
  | nil => simp [look]
  | cons x l ih =>
    obtain ⟨k', a⟩ := x
    simp only [List.cons_append, look]
    cases Nat.beq k' k <;> simp [ih]

theorem look_none {α : Type} {k : Nat} {l : List (Nat × α)} (h : k ∉ l.map (·.1)) : look k l = none := by
  induction l with
  | nil => rfl
  | cons x l ih =>
    obtain ⟨k', a⟩ := x
    simp only [List.map_cons, List.mem_cons, not_or] at h
    have : Nat.beq k' k = false := by
      cases hb : Nat.beq k' k with
      | false => rfl
      | true => exact absurd (Nat.eq_of_beq_eq_true hb).symm h.1
    simp [look, this, ih h.2]

theorem Eff.slot_app (e : Eff) (σ : St) (t : Nat) : (e.app σ).slot t = (look t e.slots).or (σ.slot t) := look_append _ _ _
theorem Eff.stat_app (e : Eff) (σ : St) (t : Nat) : (e.app σ).stat t = (look t e.boxes).or (σ.stat t) := look_append _ _ _

theorem On.app {T K : Nat → Prop} {σ σ' : St} (h : On T K σ σ') (e : Eff) : On T K (e.app σ) (e.app σ') :=
  ⟨fun t ht => by rw [Eff.slot_app, Eff.slot_app, h.slot t ht], fun k hk => by rw [Eff.stat_app, Eff.stat_app, h.stat k hk], h.X⟩

theorem On.left {T K : Nat → Prop} {σ σ' : St} (h : On T K σ σ') {e : Eff} (he : Off e T K) : On T K (e.app σ) σ' :=
  ⟨fun t ht => by rw [Eff.slot_app, look_none (he.slot t ht)]; simpa using h.slot t ht, fun k hk => by rw [Eff.stat_app, look_none (he.box k hk)]; simpa using h.stat k hk, h.X⟩

theorem On.symm {T K : Nat → Prop} {σ σ' : St} (h : On T K σ σ') : On T K σ' σ := ⟨fun t ht => (h.slot t ht).symm, fun k hk => (h.stat k hk).symm, h.X.symm⟩

theorem upto_on {T K : Nat → Prop} {D D' : Nat → Bool} : ∀ (es : List Eff) (s : Nat) (σ σ' : St), On T K σ σ' → (∀ i e, es[i]? = some e → D (s + i) ≠ D' (s + i) → Off e T K) → On T K (upto D s es σ) (upto D' s es σ')
  | [], _, _, _, h, _ => h
  | e :: es, s, σ, σ', h, hd => by
    simp only [upto]
    refine upto_on es (s + 1) _ _ ?_ fun i e' he' hne => hd (i + 1) e' (by simpa using he') (by simpa [Nat.add_assoc, Nat.add_comm 1 i] using hne)
    have h0 := hd 0 e rfl
    simp only [Nat.add_zero] at h0
    cases h1 : D s <;> cases h2 : D' s <;> simp only [cond_true, cond_false]
    · exact h
    · exact (h.symm.left (h0 (by simp [h1, h2]))).symm
    · exact h.left (h0 (by simp [h1, h2]))
    · exact h.app e

def apartE (e e' : Eff) : Prop := Off e (· ∈ e'.slots.map (·.1)) (· ∈ e'.boxes.map (·.1))

theorem app_swap {e e' : Eff} (h : apartE e e') (σ : St) : Same (e.app (e'.app σ)) (e'.app (e.app σ)) := by
  refine ⟨fun t => ?_, fun k => ?_, rfl⟩
  · simp only [Eff.slot_app]
    by_cases ht : t ∈ e'.slots.map (·.1)
    · rw [look_none (h.slot t ht)]; simp
    · rw [look_none ht]; simp
  · simp only [Eff.stat_app]
    by_cases ht : k ∈ e'.boxes.map (·.1)
    · rw [look_none (h.box k ht)]; simp
    · rw [look_none ht]; simp

theorem Same.on {σ σ' : St} (h : Same σ σ') (T K : Nat → Prop) : On T K σ σ' := ⟨fun t _ => h.slot t, fun t _ => h.stat t, h.X⟩
theorem On.same {σ σ' : St} (h : On (fun _ => True) (fun _ => True) σ σ') : Same σ σ' := ⟨fun t => h.slot t trivial, fun t => h.stat t trivial, h.X⟩

theorem upto_same (D : Nat → Bool) (s : Nat) (es : List Eff) {σ σ' : St} (h : Same σ σ') : Same (upto D s es σ) (upto D s es σ') :=
  (upto_on es s σ σ' (h.on _ _) fun _ _ _ hne => absurd rfl hne).same

theorem Same.app {σ σ' : St} (h : Same σ σ') (e : Eff) : Same (e.app σ) (e.app σ') := ((h.on (fun _ => True) (fun _ => True)).app e).same

theorem upto_late {D : Nat → Bool} {e : Eff} : ∀ (es : List Eff) (s : Nat) (σ : St), (∀ i e', es[i]? = some e' → D (s + i) = true → apartE e e') → Same (upto D s es (e.app σ)) (e.app (upto D s es σ))
  | [], _, σ, _ => Same.refl _
  | e' :: es, s, σ, h => by
    simp only [upto]
    have hrest := fun i e'' (he : es[i]? = some e'') (hD : D (s + 1 + i) = true) => h (i + 1) e'' (by simpa using he) (by simpa [Nat.add_assoc, Nat.add_comm 1 i] using hD)
    cases hs : D s
    · simp only [cond_false]
      exact upto_late es (s + 1) σ hrest
    · simp only [cond_true]
      have h0 := h 0 e' rfl (by simpa using hs)
      refine (upto_same D (s + 1) es (app_swap h0 σ).symm).trans ?_
      exact upto_late es (s + 1) (e'.app σ) hrest

theorem upto_insert {D D' : Nat → Bool} {i : Nat} {e : Eff} : ∀ (es : List Eff) (s : Nat) (σ : St) (j : Nat), i = s + j → es[j]? = some e → D i = false → D' i = true → (∀ k, k ≠ i → D' k = D k) →
    (∀ k e', es[k]? = some e' → j < k → D (s + k) = true → apartE e e') → Same (upto D' s es σ) (e.app (upto D s es σ))
  | [], _, _, j, _, he, _, _, _, _ => by simp at he
  | e' :: es, s, σ, 0, hi, he, h0, h1, hne, hap => by
    simp at he hi
    subst he; subst hi
    have e1 : upto D' i (e' :: es) σ = upto D' (i + 1) es (e'.app σ) := by simp [upto, h1]
    have e2 : upto D i (e' :: es) σ = upto D (i + 1) es σ := by simp [upto, h0]
    rw [e1, e2]
    have e3 : Same (upto D' (i + 1) es (e'.app σ)) (upto D (i + 1) es (e'.app σ)) :=
      (upto_on es (i + 1) _ _ (On.refl _ _ _) fun k _ _ hk => absurd (hne (i + 1 + k) (by omega)) hk).same
    refine e3.trans (upto_late es (i + 1) σ fun k e'' hk hD => hap (k + 1) e'' (by simpa using hk) (by omega) (by simpa [Nat.add_assoc, Nat.add_comm 1 k] using hD))
  | e' :: es, s, σ, j + 1, hi, he, h0, h1, hne, hap => by
    have hs : D' s = D s := hne s (by omega)
    simp only [upto, hs]
    exact upto_insert es (s + 1) _ j (by omega) (by simpa using he) h0 h1 hne fun k e'' hk hlt hD => hap (k + 1) e'' (by simpa using hk) (by omega) (by simpa [Nat.add_assoc, Nat.add_comm 1 k] using hD)

end Go.Lg
