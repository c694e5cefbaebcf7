/- A piece of a proof over this program: contracts of its functions, and a logic to prove them by. -/
import Derived.Test.YtfmohdliifmmfaaLg2
namespace Go.Lg
open Go

def Closed (ops : List Oper) (D : Nat → Bool) : Prop := ∀ j o, ops[j]? = some o → D j = true → ∀ e ∈ o.after.toList, edgeOn e = true → D e.on = true

theorem testBit_shift_one (k i : Nat) (h : (1 <<< k).testBit i = true) : i = k := by
  rw [Nat.shiftLeft_eq, Nat.one_mul, Nat.testBit_two_pow] at h
  exact (of_decide_eq_true h).symm

theorem maskOf_bits {o : Oper} {acc : List Nat} {D : Nat → Bool} (hacc : ∀ j i, (acc.getD j 0).testBit i = true → D j = true → D i = true)
    (he : ∀ e ∈ o.after.toList, edgeOn e = true → D e.on = true) (i : Nat) (h : (maskOf o acc).testBit i = true) : D i = true := by
  unfold maskOf at h
  have key : ∀ (l : List Edge) (s : Nat), (∀ e ∈ l, edgeOn e = true → D e.on = true) → (∀ i, s.testBit i = true → D i = true) →
      (l.foldl (fun s e => if edgeOn e then s ||| 1 <<< e.on ||| acc.getD e.on 0 else s) s).testBit i = true → D i = true := by
    intro l
    induction l with
    | nil => intro s _ hs h; exact hs i h
    | cons e l ih =>
      intro s hl hs h
      refine ih _ (fun e' he' => hl e' (List.mem_cons_of_mem _ he')) ?_ h
      intro k hk
      dsimp only at hk
      by_cases hon : edgeOn e = true
      · rw [if_pos hon, Nat.testBit_or, Nat.testBit_or] at hk
        have hd := hl e (by simp) hon
        simp only [Bool.or_eq_true] at hk
        rcases hk with (hk | hk) | hk
        · exact hs k hk
        · rw [testBit_shift_one _ _ hk]; exact hd
        · exact hacc _ _ hk hd
      · rw [if_neg hon] at hk
        exact hs k hk
  exact key _ 0 he (by simp) h

theorem masks_spec {ops : List Oper} {D : Nat → Bool} (hc : Closed ops D) : ∀ (os : List Oper) (acc : List Nat), (∀ k, os[k]? = ops[acc.length + k]?) →
    (∀ j i, (acc.getD j 0).testBit i = true → D j = true → D i = true) →
    (∀ j, j < acc.length → (masks os acc).getD j 0 = acc.getD j 0) ∧
    (∀ j i, ((masks os acc).getD j 0).testBit i = true → D j = true → D i = true) ∧
    (∀ k o, os[k]? = some o → (∀ e ∈ o.after.toList, edgeOn e = true → D e.on = true) → ∀ i, ((masks os acc).getD (acc.length + k) 0).testBit i = true → D i = true)
  | [], acc, _, hacc => ⟨fun _ _ => rfl, hacc, fun k o h => by simp at h⟩
  | o :: os, acc, hos, hacc => by
    have hlen : (acc ++ [maskOf o acc]).length = acc.length + 1 := by simp
    have hget : ∀ j, (acc ++ [maskOf o acc]).getD j 0 = if j < acc.length then acc.getD j 0 else if j = acc.length then maskOf o acc else 0 := by
      intro j
      simp only [List.getD_eq_getElem?_getD, List.getElem?_append]
      by_cases h : j < acc.length
      · simp [h]
      · simp only [h, if_false]
        by_cases h' : j = acc.length
        · subst h'; simp
        · have : ∃ m, j - acc.length = m + 1 := ⟨j - acc.length - 1, by omega⟩
          obtain ⟨m, hm⟩ := this
          simp [hm, h']
    have h0 : ops[acc.length]? = some o := by simpa using (hos 0).symm
    have hacc' : ∀ j i, ((acc ++ [maskOf o acc]).getD j 0).testBit i = true → D j = true → D i = true := by
      intro j i hb hd
      rw [hget] at hb
      by_cases h : j < acc.length
      · rw [if_pos h] at hb; exact hacc j i hb hd
      · rw [if_neg h] at hb
        by_cases h' : j = acc.length
        · rw [if_pos h'] at hb
          subst h'
          exact maskOf_bits hacc (hc _ o h0 hd) i hb
        · rw [if_neg h'] at hb
          simp at hb
    obtain ⟨h1, h2, h3⟩ := masks_spec hc os (acc ++ [maskOf o acc]) (fun k => by
      have := hos (k + 1)
      rw [hlen]
      simpa [Nat.add_assoc, Nat.add_comm 1 k] using this) hacc'
    refine ⟨fun j hj => ?_, h2, fun k o' ho' he i hi => ?_⟩
    · show (masks os (acc ++ [maskOf o acc])).getD j 0 = _
      rw [h1 j (by rw [hlen]; omega), hget, if_pos hj]
    · cases k with
      | zero =>
        simp at ho'
        subst ho'
        rw [Nat.add_zero] at hi
        have hi' : ((masks os (acc ++ [maskOf o acc])).getD acc.length 0).testBit i = true := hi
        rw [h1 acc.length (by rw [hlen]; omega), hget, if_neg (by omega), if_pos rfl] at hi'
        exact maskOf_bits hacc he i hi'
      | succ k =>
        refine h3 k o' (by simpa using ho') he i ?_
        rw [hlen]
        have : acc.length + 1 + k = acc.length + (k + 1) := by omega
        rw [this]
        exact hi

theorem hits_false {xs ys : List Nat} (h : hits xs ys = false) {x : Nat} (hx : x ∈ xs) : x ∉ ys := by
  intro hy
  simp only [hits, List.any_eq_false] at h
  have := h x hx
  simp only [Bool.not_eq_true, List.any_eq_false] at this
  exact absurd (this x hy) (by simp [Nat.beq_refl])

theorem clashes_spec {lx : List Nat} {ex : Eff} {i : Nat} : ∀ {l : List (List Nat × Eff × Nat)}, clashes lx ex i l = true → ∀ (k : Nat) (ly : List Nat) (ey : Eff) (m : Nat), l[k]? = some (ly, ey, m) → clash lx ex ly ey = false ∨ m.testBit i = true
  | [], _, k, _, _, _, hk => by simp at hk
  | (ly', ey', m') :: r, h, k, ly, ey, m, hk => by
    simp only [clashes, Bool.and_eq_true, Bool.or_eq_true, Bool.not_eq_true'] at h
    cases k with
    | zero => simp at hk; obtain ⟨rfl, rfl, rfl⟩ := hk; exact h.1
    | succ k => exact clashes_spec h.2 k ly ey m (by simpa using hk)

theorem pairs_spec : ∀ {l : List (List Nat × Eff × Nat)} {s : Nat}, pairs s l = true → ∀ (i j : Nat) (x y : List Nat × Eff × Nat), i < j → l[i]? = some x → l[j]? = some y → clash x.1 x.2.1 y.1 y.2.1 = false ∨ y.2.2.testBit (s + i) = true
  | [], _, _, i, _, _, _, _, hi, _ => by simp at hi
  | (lx, ex, m) :: r, s, h, i, j, x, y, hij, hi, hj => by
    simp only [pairs, Bool.and_eq_true] at h
    cases i with
    | zero =>
      obtain ⟨j, rfl⟩ : ∃ j', j = j' + 1 := ⟨j - 1, by omega⟩
      simp at hi
      subst hi
      obtain ⟨ly, ey, m'⟩ := y
      exact clashes_spec h.1 j ly ey m' (by simpa using hj)
    | succ i =>
      obtain ⟨j, rfl⟩ : ∃ j', j = j' + 1 := ⟨j - 1, by omega⟩
      have := pairs_spec h.2 i j x y (by omega) (by simpa using hi) (by simpa using hj)
      rw [show s + 1 + i = s + (i + 1) by omega] at this
      exact this

theorem zip3_get : ∀ {as : List (List Nat)} {bs : List Eff} {cs : List Nat} {i : Nat} {a : List Nat} {b : Eff} {c : Nat}, as[i]? = some a → bs[i]? = some b → cs[i]? = some c → (zip3 as bs cs)[i]? = some (a, b, c)
  | [], _, _, i, _, _, _, h, _, _ => by simp at h
  | _ :: _, [], _, i, _, _, _, _, h, _ => by simp at h
  | _ :: _, _ :: _, [], i, _, _, _, _, _, h => by simp at h
  | a :: as, b :: bs, c :: cs, 0, a', b', c', h, h', h'' => by simp at h h' h''; subst h h' h''; rfl
  | a :: as, b :: bs, c :: cs, i + 1, a', b', c', h, h', h'' => by
    simp only [zip3, List.getElem?_cons_succ]
    exact zip3_get (by simpa using h) (by simpa using h') (by simpa using h'')

theorem masks_length : ∀ (os : List Oper) (acc : List Nat), (masks os acc).length = acc.length + os.length
  | [], acc => by simp [masks]
  | o :: os, acc => by rw [masks, masks_length os]; simp; omega

theorem edgesBack_spec : ∀ {os : List Oper} {s : Nat}, edgesBack s os = true → ∀ (i : Nat) (o : Oper), os[i]? = some o → ∀ e ∈ o.after.toList, edgeOn e = true → e.on < s + i
  | [], _, _, i, _, h => by simp at h
  | o' :: os, s, h, i, o, hi => by
    simp only [edgesBack, Bool.and_eq_true, List.all_eq_true, Bool.or_eq_true, Bool.not_eq_true'] at h
    cases i with
    | zero =>
      simp at hi
      subst hi
      intro e he hon
      rcases h.1 e he with h' | h'
      · rw [hon] at h'; simp at h'
      · simpa [Nat.blt_eq] using h'
    | succ i =>
      intro e he hon
      have := edgesBack_spec h.2 i o (by simpa using hi) e he hon
      omega

/-- what a clash that is none says -/
structure NoClash (lx : List Nat) (ex : Eff) (ly : List Nat) (ey : Eff) : Prop where
  a : ∀ t ∈ ex.slots.map (·.1), t ∉ ly
  b : ∀ t ∈ ex.slots.map (·.1), t ∉ ey.slots.map (·.1)
  c : ∀ t ∈ ey.slots.map (·.1), t ∉ lx
  d : ∀ t ∈ ex.boxes.map (·.1), t ∉ ey.boxes.map (·.1)
  e : ∀ t ∈ ex.boxes.map (·.1), t ∉ ey.foot
  f : ∀ t ∈ ey.boxes.map (·.1), t ∉ ex.foot

theorem noClash {lx : List Nat} {ex : Eff} {ly : List Nat} {ey : Eff} (h : clash lx ex ly ey = false) : NoClash lx ex ly ey := by
  simp only [clash, Bool.or_eq_false_iff] at h
  obtain ⟨⟨⟨⟨⟨h1, h2⟩, h3⟩, h4⟩, h5⟩, h6⟩ := h
  exact ⟨fun t ht => hits_false h1 ht, fun t ht => hits_false h2 ht, fun t ht => hits_false h3 ht, fun t ht => hits_false h4 ht, fun t ht => hits_false h5 ht, fun t ht => hits_false h6 ht⟩

def dstsOK (n : Nat) (ops : List Oper) : Bool := ops.all fun o => match o.dst with | some d => Nat.blt d n | none => true

theorem dstsOK_spec {n : Nat} {ops : List Oper} (h : dstsOK n ops = true) {o : Oper} (ho : o ∈ ops) : ∀ d, o.dst = some d → d < n := by
  intro d hd
  have := List.all_eq_true.1 h o ho
  rw [hd] at this
  simpa [Nat.blt_eq] using this

/-- one operation of the region, in the machine -/
theorem Step.wp {P : Program} {n : Nat} {ops : List Oper} {o : Oper} {σ : St} {e : Eff} (h : Step P n ops o σ e) {C : Ctx} {ι : Nat → Nat × Nat} {a : Act} {w : World} (hr : Rel n C ι σ a w)
    (hd : ∀ d, o.dst = some d → d < n) {next : Act → World → Prop} {Q : Exit → Act → World → Prop} (hn : ∀ ι' a' w', Rel n C ι' (e.app σ) a' w' → next a' w') :
    if Region.wanted o (yielded ops.toArray a.tmps) then o.wp P a w next Q ∨ (o.asks P a w ∧ LetsOut Q) else next (a.put o.dst undef) w := by
  have yl : ∀ (j t : Nat) (b : Bool), (ops[j]?).bind (·.dst) = some t → σ.slot t = some (.sv (.one (.val (.bool b)))) → yielded ops.toArray a.tmps j = some b := by
    intro j t b ht hb
    obtain ⟨v, hv, hvr⟩ := hr.slots t _ hb
    simp only [LV.rel, SV.rel, CV.rel] at hvr
    subst hvr
    have : (ops.toArray[j]?).bind (·.dst) = some t := by simpa using ht
    simp only [yielded, this, Option.bind_some, hv]
  cases h with
  | plain hg h =>
    rw [if_pos (by simp [Region.wanted, hg])]
    exact .inl (h σ ⟨fun _ _ => rfl, fun _ _ => rfl, rfl⟩ C ι a w hr hd next Q hn)
  | taken j t b hg ht hb h =>
    rw [if_pos (by simp [Region.wanted, hg, yl j t b ht hb])]
    exact .inl (h σ ⟨fun _ _ => rfl, fun _ _ => rfl, rfl⟩ C ι a w hr hd next Q hn)
  | skipped j t b v hg ht hb hne he =>
    have ny : yielded ops.toArray a.tmps j ≠ some b := by
      obtain ⟨v', hv, hvr⟩ := hr.slots t _ hb
      simp only [LV.rel, SV.rel, CV.rel] at hvr
      subst hvr
      have : (ops.toArray[j]?).bind (·.dst) = some t := by simpa using ht
      simp only [yielded, this, Option.bind_some, hv]
      split
      · rename_i b' hb'
        intro he
        injection hb' with hb'
        injection he with he
        exact hne (by rw [hb', he])
      · intro he; cases he
    rw [if_neg (by simp [Region.wanted, hg, ny])]
    subst he
    cases hdst : o.dst with
    | none =>
      refine hn ι _ w ?_
      rw [hdst]
      exact hr
    | some d =>
      refine hn ι _ w ?_
      rw [hdst]
      exact hr.put (hd d hdst) (by simp [LV.rel, SV.rel, CV.rel])

theorem run_any {P : Program} {n : Nat} {ops : List Oper} {σ σ' : St} {es : List Eff} (hrun : Run P n ops ops σ es σ') (hchk : check ops es = true) (hdst : dstsOK n ops = true)
    {C : Ctx} {Q : Exit → Act → World → Prop} (hQ : ∀ ι a w, Rel n C ι σ' a w → Q .normal a w) :
    ∀ (fuel : Nat) (listed : Array Bool) (ι : Nat → Nat × Nat) (a : Act) (w : World), listed.size = ops.length → Closed ops (fun j => listed.getD j false) →
      (List.range ops.length).countP (fun j => !listed.getD j false) ≤ fuel →
      Rel n C ι (upto (fun j => listed.getD j false) 0 es σ) a w → wpAny P .any ops.toArray Q fuel listed a w := by
  simp only [check, Bool.and_eq_true] at hchk
  obtain ⟨hback, hpairs⟩ := hchk
  have hlen : ops.length = es.length := hrun.length
  -- whoever is ready: none of theirs waits
  have hready : ∀ (listed : Array Bool) (i : Nat), listed.size = ops.length → (i ∈ Region.ready .any ops.toArray listed ↔ ∃ o, ops[i]? = some o ∧ listed.getD i false = false ∧ ∀ e ∈ o.after.toList, edgeOn e = true → listed.getD e.on false = true) := by
    intro listed i hsz
    simp only [Region.ready, List.mem_filter, List.mem_range, Bool.and_eq_true, Bool.not_eq_true']
    constructor
    · rintro ⟨hi, h1, h2⟩
      have hi' : i < ops.length := by simpa using hi
      refine ⟨ops[i], by simp [hi'], ?_, ?_⟩
      · have : i < listed.size := by omega
        simpa [Array.getD, this] using h1
      · intro e he hon
        simp only [List.getElem?_toArray, List.getElem?_eq_getElem hi', Option.map_some, Option.getD_some] at h2
        rw [← Array.all_toList, List.all_eq_true] at h2
        have := h2 e he
        simp only [Bool.or_eq_true, Bool.not_eq_true'] at this
        rcases this with this | this
        · unfold edgeOn at hon; rw [hon] at this; simp at this
        · exact this
    · rintro ⟨o, ho, h1, h2⟩
      have hi : i < ops.length := (List.getElem?_eq_some_iff.1 ho).1
      refine ⟨by simpa using hi, ?_, ?_⟩
      · have : i < listed.size := by omega
        simpa [Array.getD, this] using h1
      · simp only [List.getElem?_toArray, ho, Option.map_some, Option.getD_some]
        rw [← Array.all_toList, List.all_eq_true]
        intro e he
        simp only [Bool.or_eq_true, Bool.not_eq_true']
        by_cases hon : edgeOn e = true
        · exact .inr (h2 e he hon)
        · left; unfold edgeOn at hon; simpa using hon
  -- none is ready: all are done
  have hdone : ∀ (listed : Array Bool), listed.size = ops.length → Region.ready .any ops.toArray listed = [] → ∀ j, j < ops.length → listed.getD j false = true := by
    intro listed hsz hnil j
    induction j using Nat.strongRecOn with
    | _ j ih =>
      intro hj
      cases hl : listed.getD j false with
      | true => rfl
      | false =>
        have : j ∈ Region.ready .any ops.toArray listed := (hready listed j hsz).2 ⟨ops[j], by simp [hj], hl, fun e he hon => ih e.on (by
          have := edgesBack_spec hback j ops[j] (by simp [hj]) e he hon
          omega) (by
          have := edgesBack_spec hback j ops[j] (by simp [hj]) e he hon
          omega)⟩
        rw [hnil] at this
        simp at this
  have hfin : ∀ (listed : Array Bool) (ι : Nat → Nat × Nat) (a : Act) (w : World), listed.size = ops.length → Region.ready .any ops.toArray listed = [] → Rel n C ι (upto (fun j => listed.getD j false) 0 es σ) a w → Q .normal a w := by
    intro listed ι a w hsz hnil hr
    have e := hrun.final 0 (fun j => listed.getD j false) (fun j _ hj => hdone listed hsz hnil j (by omega))
    rw [e] at hr
    exact hQ ι a w hr
  intro fuel
  induction fuel with
  | zero =>
    intro listed ι a w hsz hcl hcnt hr
    have hall : ∀ j, j < ops.length → listed.getD j false = true := by
      intro j hj
      have h0 : (List.range ops.length).countP (fun j => !listed.getD j false) = 0 := by omega
      rw [List.countP_eq_zero] at h0
      simpa using h0 j (by simpa using hj)
    have hnil : Region.ready .any ops.toArray listed = [] := by
      apply List.eq_nil_iff_forall_not_mem.2
      intro i hi
      obtain ⟨o, ho, h1, _⟩ := (hready listed i hsz).1 hi
      have := hall i (List.getElem?_eq_some_iff.1 ho).1
      rw [this] at h1
      simp at h1
    exact ⟨hnil, hfin listed ι a w hsz hnil hr⟩
  | succ fuel ih =>
    intro listed ι a w hsz hcl hcnt hr
    refine ⟨fun hnil => hfin listed ι a w hsz hnil hr, fun i hi => ?_⟩
    obtain ⟨o, ho, hun, hedges⟩ := (hready listed i hsz).1 hi
    have hilt : i < ops.length := (List.getElem?_eq_some_iff.1 ho).1
    obtain ⟨e, he, hstep⟩ := hrun.step 0 i o ho
    simp only [Nat.zero_add] at hstep
    -- the masks
    obtain ⟨_, hm2, hm3⟩ := masks_spec hcl ops [] (fun k => by simp) (by simp)
    have hml : (masks ops []).length = ops.length := by simp [masks_length]
    have hent : ∀ j o' e', ops[j]? = some o' → es[j]? = some e' → (zip3 (ops.map (looks ops)) es (masks ops []))[j]? = some (looks ops o', e', (masks ops []).getD j 0) := by
      intro j o' e' ho' he'
      have hj : j < ops.length := (List.getElem?_eq_some_iff.1 ho').1
      exact zip3_get (by simp [ho']) he' (by rw [List.getD_eq_getElem?_getD, List.getElem?_eq_getElem (by omega)]; rfl)
    -- against each other operation: no clash, or an order
    have hpre : ∀ j e', es[j]? = some e' → j < i → listed.getD j false = false → Off e' (· ∈ looks ops o ++ e.slots.map (·.1)) (fun k => k ∈ e.foot ∨ k ∈ e.boxes.map (·.1)) := by
      intro j e' he' hji hl
      have hj : j < ops.length := by omega
      have := pairs_spec hpairs j i _ _ hji (hent j ops[j] e' (by simp [hj]) he') (hent i o e ho he)
      rcases this with hcl' | hord
      · have nc := noClash hcl'
        refine ⟨fun t ht hmem => ?_, fun k hk hmem => ?_⟩
        · rcases List.mem_append.1 ht with ht | ht
          · exact nc.a t hmem ht
          · exact nc.b t hmem ht
        · rcases hk with hk | hk
          · exact nc.e k hmem hk
          · exact nc.d k hmem hk
      · simp only [Nat.zero_add] at hord
        have := hm3 i o ho hedges j (by simpa using hord)
        rw [this] at hl
        simp at hl
    have hpost : ∀ j e', es[j]? = some e' → i < j → listed.getD j false = true → NoClash (looks ops o) e (looks ops (ops.getD j default)) e' := by
      intro j e' he' hij hl
      have hj : j < ops.length := by have := (List.getElem?_eq_some_iff.1 he').1; omega
      have hoj : ops[j]? = some (ops.getD j default) := by simp [List.getD_eq_getElem?_getD, List.getElem?_eq_getElem hj]
      have := pairs_spec hpairs i j _ _ hij (hent i o e ho he) (hent j _ e' hoj he')
      rcases this with hcl' | hord
      · exact noClash hcl'
      · simp only [Nat.zero_add] at hord
        have := hm2 j i (by simpa using hord) hl
        rw [this] at hun
        simp at hun
    -- what it looks at is as in the text's order
    have hon := upto_on (T := (· ∈ looks ops o ++ e.slots.map (·.1))) (K := fun k => k ∈ e.foot ∨ k ∈ e.boxes.map (·.1)) (D := fun j => listed.getD j false) (D' := fun j => decide (j < i)) es 0 σ σ (On.refl _ _ _) (by
      intro j e' he' hne
      simp only [Nat.zero_add] at hne
      by_cases hji : j < i
      · have hl : listed.getD j false = false := by
          cases h : listed.getD j false with
          | false => rfl
          | true => rw [h] at hne; simp [hji] at hne
        exact hpre j e' he' hji hl
      · have hl : listed.getD j false = true := by
          cases h : listed.getD j false with
          | true => rfl
          | false => rw [h] at hne; simp [hji] at hne
        have hij : i < j := by
          rcases Nat.lt_or_ge i j with h | h
          · exact h
          · have : i = j := by omega
            subst this
            rw [hl] at hun
            simp at hun
        have nc := hpost j e' he' hij hl
        refine ⟨fun t ht hmem => ?_, fun k hk hmem => ?_⟩
        · rcases List.mem_append.1 ht with ht | ht
          · exact nc.c t hmem ht
          · exact nc.b t ht hmem
        · rcases hk with hk | hk
          · exact nc.f k hmem hk
          · exact nc.d k hk hmem)
    have hstep' := hstep.agree (σ' := upto (fun j => listed.getD j false) 0 es σ)
      ⟨fun d hd => hon.slot d (by simp [hd]), fun k hk => hon.stat k hk, hon.X⟩
    have hgo := hstep'.wp hr (dstsOK_spec hdst (List.mem_of_getElem? ho)) (Q := Q) (next := wpAny P .any ops.toArray Q fuel (listed.setIfInBounds i true)) (by
      intro ι' a' w' hr'
      have hget : ∀ j, (listed.setIfInBounds i true).getD j false = if j = i then true else listed.getD j false := by
        intro j
        simp only [Array.getD_eq_getD_getElem?, Array.getElem?_setIfInBounds]
        by_cases h : i = j
        · subst h; simp [show i < listed.size by omega]
        · simp [h, show ¬ j = i from fun e => h e.symm]
      refine ih _ ι' a' w' (by simpa using hsz) ?_ ?_ ?_
      · intro j o' ho' hd' e' he' hone
        simp only [hget] at hd' ⊢
        by_cases h1 : e'.on = i
        · rw [if_pos h1]
        · rw [if_neg h1]
          by_cases h2 : j = i
          · subst h2
            rw [ho] at ho'
            simp at ho'
            subst ho'
            exact hedges e' he' hone
          · rw [if_neg h2] at hd'
            exact hcl j o' ho' hd' e' he' hone
      · have hlt : (List.range ops.length).countP (fun j => !(listed.setIfInBounds i true).getD j false) < (List.range ops.length).countP (fun j => !listed.getD j false) := by
          have hmem : i ∈ List.range ops.length := by simpa using hilt
          have gen : ∀ l : List Nat, i ∈ l → l.countP (fun j => !(listed.setIfInBounds i true).getD j false) < l.countP (fun j => !listed.getD j false) := by
            have le : ∀ l : List Nat, l.countP (fun j => !(listed.setIfInBounds i true).getD j false) ≤ l.countP (fun j => !listed.getD j false) := by
              intro l
              apply List.countP_mono_left
              intro x _ hx
              rw [hget] at hx
              by_cases h : x = i
              · simp [h] at hx
              · simpa [h] using hx
            intro l
            induction l with
            | nil => intro h; simp at h
            | cons x l ihl =>
              intro h
              rw [List.countP_cons, List.countP_cons, hget]
              by_cases hx : x = i
              · subst hx
                have := le l
                simp only [if_true, hun, Bool.not_true, Bool.not_false, Bool.false_eq_true, if_false]
                omega
              · have := ihl (by simpa [Ne.symm hx] using h)
                simp only [hx, if_false]
                omega
          exact gen _ hmem
        omega
      · refine hr'.same (Same.symm ?_)
        refine upto_insert (i := i) (D := fun j => listed.getD j false) es 0 σ i (by simp) he hun (by simp [hget]) (fun k hk => by simp [hget, hk]) ?_
        intro k e' hk hik hD
        simp only [Nat.zero_add] at hD
        have nc := hpost k e' hk hik hD
        exact ⟨fun t ht hmem => nc.b t hmem ht, fun t ht hmem => nc.d t hmem ht⟩)
    unfold wpOp
    have : ops.toArray[i]? = some o := by simpa using ho
    rw [this]
    exact hgo

end Go.Lg
