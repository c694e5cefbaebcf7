/- A piece of a proof over this program: contracts of its functions, and a logic to prove them by. -/
import Derived.Test.YtnomcmklhbjfjaaGreatDoorP2
import Derived.Test.YtnomcmklhbjfjaaGreatDoorP4
import Derived.Test.YtnomcmklhbjfjaaGreatDoorP5
import Derived.StringKeys
import Derived.WideMake
import Derived.Test.YtnomcmklhbjfjaaGreatDoorRows
section
namespace Go.Lg
open Go Go.RowKit
section
variable {n : Nat} {C : Ctx} {σ : St} {ι : Nat → Nat × Nat} {a : Act} {w : World}
theorem Rel.resStep (hr : Rel n C ι σ a w) {k : Nat} {e : TypeId} {cs : List CV} {R : Rsc} (hk : σ.stat k = some (some ⟨e, cs, .res R⟩)) :
    ∃ H, R.holds (ι k) H ∧ (∀ b o, H b = some o → w.heap[b]? = some o) ∧ H (ι k).1 ≠ none ∧
      ∀ (w' : World) (H' : Nat → Option Obj) (R' : Rsc), (∀ b, H b = none → b < w.heap.size → w'.heap[b]? = w.heap[b]?) → (∀ b o, H' b = some o → w'.heap[b]? = some o ∧ Loose o) → (∀ b, H' b ≠ none → H b ≠ none) → H' (ι k).1 ≠ none → R'.holds (ι k) H' →
        w.heap.size ≤ w'.heap.size → w'.os = w.os → w'.tape = w.tape → w'.output = w.output → Rel n C ι ⟨σ.slots, (k, some ⟨0, [], .res R'⟩) :: σ.boxes, σ.X⟩ a w' := by
  obtain ⟨F, hF⟩ := hr.res
  refine ⟨F k, (hF.holds k _ _ _ hk).1, fun b o ho => (hF.mem k b o ho).2.1, (hF.holds k _ _ _ hk).2, fun w' H' R' hw hH' hsub hroot hR' hsz hos htp hou => ?_⟩
  have hst : ∀ j, (⟨σ.slots, (k, some ⟨0, [], .res R'⟩) :: σ.boxes, σ.X⟩ : St).stat j = if j = k then some (some ⟨0, [], .res R'⟩) else σ.stat j := fun j => stat_cons _ _ _ _ j _
  have live : ∀ j b, (⟨σ.slots, (k, some ⟨0, [], .res R'⟩) :: σ.boxes, σ.X⟩ : St).stat j = some (some b) → ∃ b0, σ.stat j = some (some b0) ∧ (j ≠ k → b = b0) := fun j b hj => by
    rw [hst] at hj
    by_cases e : j = k
    · exact ⟨_, by rw [e]; exact hk, fun h => absurd e h⟩
    · rw [if_neg e] at hj; exact ⟨b, hj, fun _ => rfl⟩
  have hlater : Later σ.stat (⟨σ.slots, (k, some ⟨0, [], .res R'⟩) :: σ.boxes, σ.X⟩ : St).stat ι ι := later_same ι fun j hj => by
    rw [hst]
    by_cases e : j = k
    · rw [if_pos e, e]; exact ⟨by simp, fun _ _ => ⟨_, hk⟩⟩
    · rw [if_neg e]; exact ⟨hj, fun b1 hb1 => ⟨b1, hb1⟩⟩
  have hout : ∀ b o, F k b = none → w.heap[b]? = some o → w'.heap[b]? = some o := fun b o h1 h2 => by rw [hw b h1 (Array.getElem?_eq_some_iff.1 h2).1]; exact h2
  have hnot : ∀ b, (∀ o, F k b = some o → False) → F k b = none := fun b h => by
    cases ho : F k b with
    | none => rfl
    | some o => exact (h o ho).elim
  exact {
    defers := hr.defers, size := hr.size
    slots := fun d lv hd => by
      obtain ⟨v, hv, hvr⟩ := hr.slots d lv hd
      exact ⟨v, hv, LV.rel_later hlater hvr⟩
    boxes := fun j b hj hbk => by
      by_cases ej : j = k
      · rw [hst, if_pos ej] at hj
        simp only [Option.some.injEq] at hj
        subst hj
        cases hbk
      · obtain ⟨b0, h0, h1⟩ := live j b hj
        have := h1 ej
        subst this
        obtain ⟨arr, fr, g1, g2, g3, g4⟩ := hr.boxes j b h0 hbk
        exact ⟨arr, fr, hout _ _ (hnot _ fun o ho => ej ((hF.mem k _ o ho).2.2.2.2.2 j b h0 rfl)) g1, g2, g3, Box.rel_later hlater g4⟩
    own := fun j b hj => by obtain ⟨b0, h0, _⟩ := live j b hj; exact hr.own j b0 h0
    inj := fun i j bi bj hi hj he => by
      obtain ⟨b1, h1, _⟩ := live i bi hi
      obtain ⟨b2, h2, _⟩ := live j bj hj
      exact hr.inj i j b1 b2 h1 h2 he
    keep := fun j b hj hge => by obtain ⟨b0, h0, _⟩ := live j b hj; exact hr.keep j b0 h0 hge
    ext := fun b o hb => hout b o (hnot _ fun o' ho => by
      have := (hF.mem k b o' ho).2.2.2.2.1
      have hb : σ.X b = some o := hb
      rw [hb] at this; cases this) (hr.ext b o hb)
    res := by
      refine ⟨fun j => open Classical in if j = k then H' else F j, fun j e' cs' R1 hj => ?_, fun j b o ho => ?_, fun i j b h1 h2 => ?_⟩
      · rw [hst] at hj
        by_cases ej : j = k
        · rw [if_pos ej] at hj
          cases hj
          rw [if_pos ej, ej]
          exact ⟨hR', hroot⟩
        · rw [if_neg ej] at hj
          rw [if_neg ej]
          exact hF.holds j e' cs' R1 hj
      · by_cases ej : j = k
        · rw [if_pos ej] at ho
          cases ho2 : F k b with
          | none => exact absurd ho2 (hsub b (by rw [ho]; simp))
          | some o2 =>
            obtain ⟨_, h2, _, h4, h5, h6⟩ := hF.mem k b o2 ho2
            refine ⟨⟨0, [], R', by rw [hst, if_pos ej]⟩, (hH' b o ho).1, (hH' b o ho).2, h4, h5, fun i bi hi ei => ?_⟩
            obtain ⟨b0, h0, _⟩ := live i bi hi
            rw [ej]; exact h6 i b0 h0 ei
        · rw [if_neg ej] at ho
          obtain ⟨⟨e1, cs1, R1, h1⟩, h2, h3, h4, h5, h6⟩ := hF.mem j b o ho
          refine ⟨⟨e1, cs1, R1, by rw [hst, if_neg ej]; exact h1⟩, hout b o (hnot _ fun o' ho' => ej (hF.apart j k b (by rw [ho]; simp) (by rw [ho']; simp))) h2, h3, h4, h5, fun i bi hi ei => ?_⟩
          obtain ⟨b0, h0, _⟩ := live i bi hi
          exact h6 i b0 h0 ei
      · by_cases ei : i = k
        · by_cases ej : j = k
          · rw [ei, ej]
          · rw [if_pos ei] at h1
            rw [if_neg ej] at h2
            rw [ei]; exact hF.apart k j b (hsub b h1) h2
        · by_cases ej : j = k
          · rw [if_neg ei] at h1
            rw [if_pos ej] at h2
            rw [ej]; exact hF.apart i k b h1 (hsub b h2)
          · rw [if_neg ei] at h1
            rw [if_neg ej] at h2
            exact hF.apart i j b h1 h2
    frame := fun b hb hn => by
      rw [← hr.frame b hb hn]
      refine hw b (hnot _ fun o ho => ?_) (Nat.lt_of_lt_of_le hb hr.big)
      rcases (hF.mem k b o ho).2.2.2.1 with h1 | h1
      · exact hn h1
      · omega
    big := Nat.le_trans hr.big hsz
    os := hos.trans hr.os, tape := htp.trans hr.tape, output := hou.trans hr.output }
theorem Rel.resNew (hr : Rel n C ι σ a w) {k m : Nat} {o : Obj} {R : Rsc} (hlt : k < 1000000) (hk : σ.stat k = none) (ho : Loose o) (hR : ∀ b, R.holds (b, m) (withBlock (fun _ => none) b o)) :
    Rel n C (put1 ι k (w.heap.size, m)) ⟨σ.slots, (k, some ⟨0, [], .res R⟩) :: σ.boxes, σ.X⟩ a (w.alloc o) := by
  obtain ⟨F, hF⟩ := hr.res
  have hst : ∀ j, (⟨σ.slots, (k, some ⟨0, [], .res R⟩) :: σ.boxes, σ.X⟩ : St).stat j = if j = k then some (some ⟨0, [], .res R⟩) else σ.stat j := fun j => stat_cons _ _ _ _ j _
  have hlater : Later σ.stat (⟨σ.slots, (k, some ⟨0, [], .res R⟩) :: σ.boxes, σ.X⟩ : St).stat ι (put1 ι k (w.heap.size, m)) := by
    intro j hj
    have hne : j ≠ k := by rintro rfl; exact hj hk
    rw [hst, if_neg hne]
    exact ⟨hj, fun b' hb' => ⟨by simp [put1, hne], b', hb'⟩⟩
  have hXlt : ∀ j o, σ.X j = some o → j < w.heap.size := fun j o hj => (Array.getElem?_eq_some_iff.1 (hr.ext j o hj)).1
  have hFlt : ∀ j b, F j b ≠ none → b < w.heap.size := fun j b hb => by
    cases h : F j b with
    | none => exact absurd h hb
    | some o => exact (Array.getElem?_eq_some_iff.1 (hF.mem j b o h).2.1).1
  have hnew : (w.alloc o).heap[w.heap.size]? = some o := heap_alloc_new w _
  exact {
    defers := hr.defers, size := hr.size
    slots := fun d lv hd => by
      obtain ⟨v, hv, hvr⟩ := hr.slots d lv hd
      exact ⟨v, hv, LV.rel_later hlater hvr⟩
    boxes := fun j b hj hbk => by
      rw [hst] at hj
      by_cases e : j = k
      · rw [if_pos e] at hj
        simp only [Option.some.injEq] at hj
        subst hj
        cases hbk
      · rw [if_neg e] at hj
        obtain ⟨arr, fr, g1, g2, g3, g4⟩ := hr.boxes j b hj hbk
        refine ⟨arr, fr, ?_, g2, by simp only [put1, e, if_false]; exact g3, Box.rel_later hlater g4⟩
        simp only [put1, e, if_false]
        rw [heap_alloc_lt (hr.blocklt hj)]
        exact g1
    own := fun j b hj => by
      rw [hst] at hj
      by_cases e : j = k
      · subst e
        simp only [put1, if_true]
        refine ⟨.inr hr.big, ?_⟩
        show σ.X w.heap.size = none
        cases hx : σ.X w.heap.size with
        | none => rfl
        | some o => exact absurd (hXlt _ o hx) (by omega)
      · rw [if_neg e] at hj
        simp only [put1, e, if_false]
        exact hr.own j b hj
    inj := fun i j bi bj hi hj heq => by
      rw [hst] at hi hj
      by_cases ei : i = k
      · by_cases ej : j = k
        · rw [ei, ej]
        · rw [if_neg ej] at hj
          have := hr.blocklt hj
          simp only [put1, ei, if_true, ej, if_false] at heq
          omega
      · rw [if_neg ei] at hi
        by_cases ej : j = k
        · have := hr.blocklt hi
          simp only [put1, ej, if_true, ei, if_false] at heq
          omega
        · rw [if_neg ej] at hj
          simp only [put1, ei, ej, if_false] at heq
          exact hr.inj i j bi bj hi hj heq
    keep := fun j b hj hge => by
      rw [hst] at hj
      have e : j ≠ k := by omega
      rw [if_neg e] at hj
      simp only [put1, e, if_false]
      exact hr.keep j b hj hge
    ext := fun j o hj => by rw [heap_alloc_lt (hXlt j o hj)]; exact hr.ext j o hj
    res := by
      refine ⟨fun j => open Classical in if j = k then withBlock (fun _ => none) w.heap.size o else F j, fun j e' cs' R1 hj => ?_, fun j b ob hob => ?_, fun i j b h1 h2 => ?_⟩
      · rw [hst] at hj
        by_cases ej : j = k
        · rw [if_pos ej] at hj
          cases hj
          rw [if_pos ej]
          simp only [put1, ej, if_true]
          exact ⟨hR _, by rw [withBlock_at]; simp⟩
        · rw [if_neg ej] at hj
          rw [if_neg ej]
          simp only [put1, ej, if_false]
          exact hF.holds j e' cs' R1 hj
      · by_cases ej : j = k
        · rw [if_pos ej] at hob
          unfold withBlock at hob
          split at hob
          · rename_i eb
            cases hob
            subst eb
            refine ⟨⟨0, [], R, by rw [hst, if_pos ej]⟩, hnew, ho, .inr hr.big, ?_, fun i bi hi ei => ?_⟩
            · cases hx : σ.X w.heap.size with
              | none => rfl
              | some o' => exact absurd (hXlt _ o' hx) (by omega)
            · rw [hst] at hi
              by_cases e : i = k
              · rw [e, ej]
              · rw [if_neg e] at hi
                simp only [put1, e, if_false] at ei
                have := hr.blocklt hi
                omega
          · cases hob
        · rw [if_neg ej] at hob
          obtain ⟨⟨e1, cs1, R1, h1⟩, h2, h3, h4, h5, h6⟩ := hF.mem j b ob hob
          have hlt := (Array.getElem?_eq_some_iff.1 h2).1
          refine ⟨⟨e1, cs1, R1, by rw [hst, if_neg ej]; exact h1⟩, by rw [heap_alloc_lt hlt]; exact h2, h3, h4, h5, fun i bi hi ei => ?_⟩
          rw [hst] at hi
          by_cases e : i = k
          · simp only [put1, e, if_true] at ei
            omega
          · rw [if_neg e] at hi
            simp only [put1, e, if_false] at ei
            exact h6 i bi hi ei
      · have hb : ∀ i, i ≠ k → F i b ≠ none → withBlock (fun _ => none) w.heap.size o b = none := fun i _ h => by
          have := hFlt i b h
          unfold withBlock
          rw [if_neg (by omega)]
        by_cases ei : i = k
        · by_cases ej : j = k
          · rw [ei, ej]
          · rw [if_pos ei] at h1
            rw [if_neg ej] at h2
            exact absurd (hb j ej h2) h1
        · by_cases ej : j = k
          · rw [if_neg ei] at h1
            rw [if_pos ej] at h2
            exact absurd (hb i ei h1) h2
          · rw [if_neg ei] at h1
            rw [if_neg ej] at h2
            exact hF.apart i j b h1 h2
    frame := fun j hj hn => by rw [heap_alloc_lt (Nat.lt_of_lt_of_le hj hr.big)]; exact hr.frame j hj hn
    big := by simp; exact Nat.le_succ_of_le hr.big
    os := hr.os, tape := hr.tape, output := hr.output }
end
structure KL (P : Program) (k : TypeId) : Prop where
  check : ∀ (w : World) (em : Bool) {v : Value} {l : Lit}, Go.keyOf P k v = some l → (Instr.checkKey em 10000 k v).run P w = .ok () w
  find : ∀ (w : World) {x : Value} {lx : Lit}, Go.keyOf P k x = some lx → ∀ es : List MapEntry, (∀ e ∈ es, ∃ l, Go.keyOf P k e.key = some l) →
    ((Instr.findKey k x es).run P w = .ok none w ∧ ∀ e ∈ es, e.key ≠ x) ∨ ∃ j e, (Instr.findKey k x es).run P w = .ok (some (j, e.val)) w ∧ es[j]? = some e ∧ e.key = x
  stays : ∀ (w : World) {v : Value} {l : Lit}, Go.keyOf P k v = some l → (Instr.keyThatStays v v).run P w = .ok v w
theorem KL.of {P : Program} {k : TypeId} (L : WideMaps.KeyLaw P k) : KL P k := ⟨L.check, L.find, L.stays⟩
theorem KL.str {P : Program} {k : TypeId} (h : P.underlying k = some .string) : KL P k := .of (WideMaps.string_law h)
theorem keyOf_int {P : Program} {k : TypeId} {q : IntKind} (hk : P.underlying k = some (.int q)) {v : Value} : Go.keyOf P k v = mapKey P k v := by unfold Go.keyOf; simp only [hk]
theorem int_of_keyOf {P : Program} {k : TypeId} {q : IntKind} (hk : P.underlying k = some (.int q)) {v : Value} {l : Lit} (h : Go.keyOf P k v = some l) : ∃ n, v = .int q n := by
  rw [keyOf_int hk] at h
  unfold mapKey at h
  cases v <;> simp [hk] at h
  rename_i q' n
  exact ⟨n, by rw [h.1.1]⟩
open Go.MapKept Go.WideShapes Go.WideMaps in
theorem KL.int {P : Program} {k : TypeId} {q : IntKind} (hk : P.underlying k = some (.int q)) : KL P k where
  check w em _ _ h := by
    obtain ⟨n, rfl⟩ := int_of_keyOf hk h
    exact run_checkKey hk (d := .int q) (k := .int q n) rfl em 9999
  find w _ _ hx es hes := by
    obtain ⟨n, rfl⟩ := int_of_keyOf hk hx
    have hks : ∀ x ∈ es, IsKey (.int q) x.key := fun x hxm => by
      obtain ⟨l, hl⟩ := hes x hxm
      obtain ⟨n', e⟩ := int_of_keyOf hk hl
      rw [e]
      exact rfl
    rcases findNow_spec (d := .int q) (k := .int q n) rfl es 0 hks with ⟨h1, h2⟩ | ⟨j, e0, h1, h2, h3⟩
    · exact Or.inl ⟨run_findKey hk h1, h2⟩
    · exact Or.inr ⟨j, e0, by simpa using run_findKey hk h1, h2, h3⟩
  stays w _ _ h := by
    obtain ⟨n, rfl⟩ := int_of_keyOf hk h
    exact run_keyThatStays (d := .int q) (k := .int q n) rfl
def mapR (P : Program) (kt : TypeId) (m : List (Value × Value)) : Rsc := ⟨fun ρ H => ∃ es clock, H = withBlock (fun _ => none) ρ.1 (.map es clock) ∧ es.toList.map (fun x : MapEntry => (x.key, x.val)) = m ∧ (m.map (·.1)).Nodup ∧ ∀ p ∈ m, ∃ l, Go.keyOf P kt p.1 = some l⟩
def At (m : List (Value × Value)) (key v z : Value) : Prop := (key, v) ∈ m ∨ ((∀ p ∈ m, p.1 ≠ key) ∧ v = z)
def Put (m : List (Value × Value)) (key v : Value) (m' : List (Value × Value)) : Prop := (∃ i old, m[i]? = some (key, old) ∧ m' = m.set i (key, v)) ∨ ((∀ p ∈ m, p.1 ≠ key) ∧ m' = m ++ [(key, v)])
theorem same_ix {m : List (Value × Value)} (hnd : (m.map (·.1)).Nodup) {i j : Nat} {key v u : Value} (hi : m[i]? = some (key, v)) (hj : m[j]? = some (key, u)) : i = j := by
  have hpi : (m.map (·.1))[i]? = some key := by rw [List.getElem?_map, hi]; rfl
  have hpj : (m.map (·.1))[j]? = some key := by rw [List.getElem?_map, hj]; rfl
  obtain ⟨hi, hie⟩ := List.getElem?_eq_some_iff.1 hpi
  obtain ⟨hjj, hje⟩ := List.getElem?_eq_some_iff.1 hpj
  have hp := List.pairwise_iff_getElem.1 hnd
  rcases Nat.lt_trichotomy i j with h | h | h
  · exact absurd (hie.trans hje.symm) (hp i j hi hjj h)
  · exact h
  · exact absurd (hje.trans hie.symm) (hp j i hjj hi h)
theorem same_at {m : List (Value × Value)} (hnd : (m.map (·.1)).Nodup) {i j : Nat} {key v u : Value} (hi : m[i]? = some (key, v)) (hj : m[j]? = some (key, u)) : v = u := by
  have e := same_ix hnd hi hj
  subst e
  rw [hi] at hj
  simp only [Option.some.injEq, Prod.mk.injEq] at hj
  exact hj.2
def mapOf (P : Program) (t : TypeId) : Option (TypeId × TypeId) := match P.underlying t with | some (.map k e) => some (k, e) | _ => none
theorem mapOf_spec {P : Program} {t k e : TypeId} (h : mapOf P t = some (k, e)) : P.underlying t = some (.map k e) := by
  unfold mapOf at h
  split at h
  · rename_i h1; cases h; exact h1
  · cases h
section
variable {P : Program} {n : Nat} {ops os : List Oper} {acc : List Eff} {K : List Eff → St → Prop} {s : List (Nat × LV)} {bx : List (Nat × Option Box)} {X : Nat → Option Obj} {σ : St}
theorem LOK.makeMap {d k : Nat} {t kt : TypeId} {ty : TypeId} {pos : String} {after_ : Array Edge} {g : Option (Nat × Bool)} (hk : σ.fresh k = true) :
    LOK P n ops ⟨some d, .makeMap t none, ty, pos, after_, g⟩ σ ⟨[(d, .sv (.one (.mp k)))], [], [(k, some ⟨0, [], .res (mapR P kt [])⟩)]⟩ :=
  LOK.make fun σ' ha C ι a w hr => by
    have hk' : σ'.stat k = none := (ha.stat k (.inr (by simp))).trans (St.fresh_none hk)
    have hlt := St.fresh_lt hk
    have hrun := run_makeMap_plain (P := P) (w := w) t
    refine ⟨.map (some w.heap.size), w.alloc (.map #[] 0), put1 ι k (w.heap.size, 0), ?_, ?_, ?_⟩
    · simp only [execOp, Option.map_none, Sem.run_bind, hrun, Result.andThen_ok, Sem.run_pure]
    · exact hr.resNew hlt hk' trivial fun b => ⟨#[], 0, rfl, rfl, List.nodup_nil, fun _ h => by cases h⟩
    · simp [LV.rel, SV.rel, CV.rel, stat_cons, put1]
theorem K.makeMap {d : Nat} {t : TypeId} (kt : TypeId) {ty : TypeId} {pos : String} {after_ : Array Edge} {g : Option (Nat × Bool)} (hk : (⟨s, bx, X⟩ : St).fresh d = true) (hw : Want ops s g)
    (kont : RunK P n ops os ⟨(d, .sv (.one (.mp d))) :: s, (d, some ⟨0, [], .res (mapR P kt [])⟩) :: bx, X⟩ (⟨[(d, .sv (.one (.mp d)))], [], [(d, some ⟨0, [], .res (mapR P kt [])⟩)]⟩ :: acc) K) :
    RunK P n ops (⟨some d, .makeMap t none, ty, pos, after_, g⟩ :: os) ⟨s, bx, X⟩ acc K := RunK.g2 (LOK.makeMap hk) hw kont
theorem LOK.lookup {d k : Nat} {t kt et : TypeId} {x y : Operand} {ty : TypeId} {pos : String} {after_ : Array Edge} {g : Option (Nat × Bool)} {m : List (Value × Value)} {e : TypeId} {cs : List CV} {key v z : Value} {l : Lit}
    (hx : σ.ev x = some (.sv (.one (.mp k)))) (hy : σ.ev y = some (.sv (.one (.val key)))) (hk : σ.stat k = some (some ⟨e, cs, .res (mapR P kt m)⟩)) (hm : mapOf P t = some (kt, et)) (L : KL P kt) (hkey : Go.keyOf P kt key = some l) (hz : (P.info? et).bind (·.zero) = some z) (hat : At m key v z) :
    LOK P n ops ⟨some d, .lookup t x y false, ty, pos, after_, g⟩ σ ⟨[(d, .sv (.one (.val v)))], [k], []⟩ :=
  LOK.value fun σ' ha C ι a w hr => by
    have hk' := (ha.stat k (.inl (by simp))).trans hk
    have hv := hr.ev ((ha.ev (x := x) (by simp [Op.operands])).trans hx)
    have hkv : a.eval y = key := hr.ev ((ha.ev (x := y) (by simp [Op.operands])).trans hy)
    simp only [LV.rel, SV.rel, CV.rel, hk'] at hv
    obtain ⟨H, ⟨es, clock, rfl, he, hnd, hkeys⟩, hH, _⟩ := hr.resStep hk'
    have hb := hH (ι k).1 _ (withBlock_at _ _ _)
    have ht := mapOf_spec hm
    have hzr : (zeroValue et).run P w = .ok z w := by
      cases hi : P.info? et with
      | none => rw [hi] at hz; cases hz
      | some i => rw [hi] at hz; have hz : i.zero = some z := hz; simp [zeroValue, typeInfo, hi, hz]
    have hall : ∀ x ∈ es.toList, ∃ l, Go.keyOf P kt x.key = some l := fun x hx => by
      refine hkeys (x.key, x.val) ?_
      rw [← he]
      exact List.mem_map.2 ⟨x, hx, rfl⟩
    have hrun : (Instr.lookup t (.map (some (ι k).1)) key false).run P w = .ok v w := by
      rcases L.find w hkey es.toList hall with ⟨h1, h2⟩ | ⟨j, e0, h1, h2, h3⟩
      · have hvz : v = z := by
          rcases hat with h4 | ⟨_, h4⟩
          · rw [← he] at h4
            obtain ⟨x, hx, hxe⟩ := List.mem_map.1 h4
            cases hxe
            exact absurd rfl (h2 x hx)
          · exact h4
        simp [Instr.lookup, run_underlying ht, MapKept.run_getObj_map hb, L.check w _ hkey, h1, hzr, Result.andThen, hvz]
      · have hmem : e0 ∈ es.toList := List.mem_of_getElem? h2
        have hv0 : e0.val = v := by
          rcases hat with h4 | ⟨h4, _⟩
          · obtain ⟨i, hi⟩ := List.getElem?_of_mem h4
            have hmj : m[j]? = some (key, e0.val) := by rw [← he, List.getElem?_map, h2, ← h3]; rfl
            exact (same_at hnd hmj hi)
          · refine absurd h3 (h4 (e0.key, e0.val) ?_)
            rw [← he]
            exact List.mem_map.2 ⟨e0, hmem, rfl⟩
        simp [Instr.lookup, run_underlying ht, MapKept.run_getObj_map hb, L.check w _ hkey, h1, Result.andThen, hv0]
    exact ⟨v, by simp only [execOp, hv, hkv, Sem.run_bind, hrun, Result.andThen_ok, Sem.run_pure], rfl⟩
theorem K.lookup {d k : Nat} {t kt et : TypeId} {x y : Operand} {ty : TypeId} {pos : String} {after_ : Array Edge} {g : Option (Nat × Bool)} {m : List (Value × Value)} {e : TypeId} {cs : List CV} {key v z : Value} {l : Lit}
    (hx : (⟨s, bx, X⟩ : St).ev x = some (.sv (.one (.mp k)))) (hy : (⟨s, bx, X⟩ : St).ev y = some (.sv (.one (.val key)))) (hk : (⟨s, bx, X⟩ : St).stat k = some (some ⟨e, cs, .res (mapR P kt m)⟩)) (hm : mapOf P t = some (kt, et)) (L : KL P kt) (hkey : Go.keyOf P kt key = some l) (hz : (P.info? et).bind (·.zero) = some z) (hat : At m key v z) (hw : Want ops s g)
    (kont : RunK P n ops os ⟨(d, .sv (.one (.val v))) :: s, bx, X⟩ (⟨[(d, .sv (.one (.val v)))], [k], []⟩ :: acc) K) :
    RunK P n ops (⟨some d, .lookup t x y false, ty, pos, after_, g⟩ :: os) ⟨s, bx, X⟩ acc K := RunK.g1 (LOK.lookup hx hy hk hm L hkey hz hat) hw kont
theorem LOK.mapUpdate {k : Nat} {t kt et : TypeId} {x y u : Operand} {ty : TypeId} {pos : String} {after_ : Array Edge} {g : Option (Nat × Bool)} {m m' : List (Value × Value)} {e : TypeId} {cs : List CV} {key v : Value} {l : Lit} {lv : LV}
    (hx : σ.ev x = some (.sv (.one (.mp k)))) (hy : σ.ev y = some (.sv (.one (.val key)))) (hu : σ.ev u = some lv) (hlv : ∀ (S : Nat → Option (Option Box)) (ι : Nat → Nat × Nat) (w : Value), lv.rel S ι w → w = v) (hk : σ.stat k = some (some ⟨e, cs, .res (mapR P kt m)⟩)) (hm : mapOf P t = some (kt, et)) (L : KL P kt) (hkey : Go.keyOf P kt key = some l) (hput : Put m key v m') :
    LOK P n ops ⟨none, .mapUpdate t x y u, ty, pos, after_, g⟩ σ ⟨[], [], [(k, some ⟨0, [], .res (mapR P kt m')⟩)]⟩ :=
  LOK.act fun σ' ha C ι a w hr => by
    have hk' := (ha.stat k (.inr (by simp))).trans hk
    have hv := hr.ev ((ha.ev (x := x) (by simp [Op.operands])).trans hx)
    have hkv : a.eval y = key := hr.ev ((ha.ev (x := y) (by simp [Op.operands])).trans hy)
    have huv : a.eval u = v := hlv _ _ _ (hr.ev ((ha.ev (x := u) (by simp [Op.operands])).trans hu))
    simp only [LV.rel, SV.rel, CV.rel, hk'] at hv
    obtain ⟨H, ⟨es, clock, hHe, he, hnd, hkeys⟩, hH, _, hstep⟩ := hr.resStep hk'
    have hb := hH (ι k).1 (.map es clock) (by rw [hHe]; exact withBlock_at _ _ _)
    have ht := mapOf_spec hm
    have hall : ∀ x ∈ es.toList, ∃ l, Go.keyOf P kt x.key = some l := fun x hx => by
      refine hkeys (x.key, x.val) ?_
      rw [← he]
      exact List.mem_map.2 ⟨x, hx, rfl⟩
    have hset := fun (o' : Obj) => MapKept.heap_set (o' := o') hb
    have hmain : ∃ es' clock', (Instr.mapUpdate t (.map (some (ι k).1)) key v).run P w = .ok () { w with heap := w.heap.setIfInBounds (ι k).1 (.map es' clock') } ∧ es'.toList.map (fun x : MapEntry => (x.key, x.val)) = m' ∧ (m'.map (·.1)).Nodup ∧ ∀ p ∈ m', ∃ l, Go.keyOf P kt p.1 = some l := by
      rcases L.find w hkey es.toList hall with ⟨h1, h2⟩ | ⟨j, e0, h1, h2, h3⟩
      · have hno : ∀ p ∈ m, p.1 ≠ key := fun p hp => by
          rw [← he] at hp
          obtain ⟨x, hx, rfl⟩ := List.mem_map.1 hp
          exact h2 x hx
        have hm' : m' = m ++ [(key, v)] := by
          rcases hput with ⟨i, old, h4, _⟩ | ⟨_, h4⟩
          · exact absurd rfl (hno _ (List.mem_of_getElem? h4))
          · exact h4
        refine ⟨es.push { key := key, val := v, born := clock }, clock + 1, ?_, by rw [hm', Array.toList_push, List.map_append, he]; rfl, ?_, ?_⟩
        · simp [Instr.mapUpdate, run_underlying ht, MapKept.run_getObj_map hb, L.check w _ hkey, h1, MapKept.run_setObj_map _ hb, Result.andThen]
        · rw [hm', List.map_append]
          refine List.nodup_append.2 ⟨hnd, by simp, fun x hx y hy e => ?_⟩
          obtain ⟨p, hp, rfl⟩ := List.mem_map.1 hx
          simp at hy
          rw [hy] at e
          exact hno p hp e
        · intro p hp
          rw [hm'] at hp
          rcases List.mem_append.1 hp with hp | hp
          · exact hkeys p hp
          · simp at hp; subst hp; exact ⟨l, hkey⟩
      · have hj : es[j]? = some e0 := by simpa using h2
        have hmj : m[j]? = some (key, e0.val) := by rw [← he, List.getElem?_map, h2, ← h3]; rfl
        have hm' : m' = m.set j (key, v) := by
          rcases hput with ⟨i, old, h4, h5⟩ | ⟨h4, _⟩
          · have hij : i = j := same_ix hnd h4 hmj
            rw [h5, hij]
          · exact absurd rfl (h4 _ (List.mem_of_getElem? hmj))
        refine ⟨es.modify j fun x => { x with key := key, val := v }, clock, ?_, ?_, ?_, ?_⟩
        · have hst := L.stays w hkey
          have hks : ((es[j]?).map (·.key)).getD key = key := by rw [hj]; exact h3
          simp [Instr.mapUpdate, run_underlying ht, MapKept.run_getObj_map hb, L.check w _ hkey, h1, hj, h3, hst, MapKept.run_setObj_map _ hb, Result.andThen]
        · rw [hm', ← he]
          apply List.ext_getElem?
          intro i
          rw [List.getElem?_map, Array.getElem?_toList, Array.getElem?_modify, List.getElem?_set, List.getElem?_map, Array.getElem?_toList]
          by_cases hij : j = i
          · subst hij
            simp [hj]
            have := (Array.getElem?_eq_some_iff.1 hj).1
            omega
          · simp [hij]
        · rw [hm', List.map_set]
          have : (m.map (·.1)).set j key = m.map (·.1) := by
            apply List.ext_getElem?
            intro i
            rw [List.getElem?_set]
            by_cases hij : j = i
            · subst hij
              rw [if_pos rfl, List.getElem?_map, hmj]
              have := (List.getElem?_eq_some_iff.1 hmj).1
              simp [this]
            · rw [if_neg hij]
          rw [this]; exact hnd
        · intro p hp
          rw [hm'] at hp
          rcases List.mem_or_eq_of_mem_set hp with hp | rfl
          · exact hkeys p hp
          · exact ⟨l, hkey⟩
    obtain ⟨es', clock', hrun, he', hnd', hkeys'⟩ := hmain
    refine ⟨{ w with heap := w.heap.setIfInBounds (ι k).1 (.map es' clock') }, ι, by simp only [execOp, hv, hkv, huv, Sem.run_bind, hrun, Result.andThen_ok, Sem.run_pure], ?_⟩
    refine hstep _ (withBlock (fun _ => none) (ι k).1 (.map es' clock')) _ (fun b hb2 _ => ?_) (fun b o ho => ?_) (fun b h => ?_) (by rw [withBlock_at]; simp) ⟨es', clock', rfl, he', hnd', hkeys'⟩ (by simp) rfl rfl rfl
    · refine (hset _).2 b fun e => ?_
      rw [hHe, e, withBlock_at] at hb2
      cases hb2
    · unfold withBlock at ho
      split at ho
      · rename_i e; cases ho; subst e
        exact ⟨(hset _).1, trivial⟩
      · cases ho
    · rw [hHe]
      unfold withBlock at h ⊢
      split
      · simp
      · rename_i hne; rw [if_neg hne] at h; exact h
theorem K.mapUpdate {k : Nat} {t kt et : TypeId} {x y u : Operand} {ty : TypeId} {pos : String} {after_ : Array Edge} {g : Option (Nat × Bool)} {m : List (Value × Value)} (m' : List (Value × Value)) {e : TypeId} {cs : List CV} {key v : Value} {l : Lit}
    (hx : (⟨s, bx, X⟩ : St).ev x = some (.sv (.one (.mp k)))) (hy : (⟨s, bx, X⟩ : St).ev y = some (.sv (.one (.val key)))) (hu : (⟨s, bx, X⟩ : St).ev u = some (.sv (.one (.val v)))) (hk : (⟨s, bx, X⟩ : St).stat k = some (some ⟨e, cs, .res (mapR P kt m)⟩)) (hm : mapOf P t = some (kt, et)) (L : KL P kt) (hkey : Go.keyOf P kt key = some l) (hput : Put m key v m') (hw : Want ops s g)
    (kont : RunK P n ops os ⟨s, (k, some ⟨0, [], .res (mapR P kt m')⟩) :: bx, X⟩ (⟨[], [], [(k, some ⟨0, [], .res (mapR P kt m')⟩)]⟩ :: acc) K) :
    RunK P n ops (⟨none, .mapUpdate t x y u, ty, pos, after_, g⟩ :: os) ⟨s, bx, X⟩ acc K := RunK.g3 (LOK.mapUpdate hx hy hu (fun _ _ _ h => h) hk hm L hkey hput) hw kont
end
end Go.Lg
end
section
namespace Go.Lg
open Go Go.RowKit
section
variable {P : Program} {n : Nat} {C : Ctx} {c : Code} {Q : Exit → St → Prop} {X : Nat → Option Obj}
theorem Rel.freezePtr {ι : Nat → Nat × Nat} {a : Act} {w : World} {s : List (Nat × LV)} {bx : List (Nat × Option Box)} {d k off : Nat} {el : TypeId} {vals : List Value} {row : Bool}
    (hs : s.all (fun p => p.2.inUse bx) = true) (hb : bx.all (fun p => match p.2 with | some b => b.cells.all (CV.inUse bx) | none => true) = true) (hk : look k bx = none)
    (hr : Rel n C ι ⟨(d, .sv (.one (.ptr k off))) :: s, (k, some ⟨el, vals.map .val, row⟩) :: bx, X⟩ a w) :
    ∃ (blk : Nat) (arr : Array Value) (fr : Nat × Nat), X blk = none ∧ Frozen C blk arr fr ∧ (∃ sp, arr.toList = vals ++ sp) ∧
      Rel n C ι ⟨(d, .sv (.one (.val (.pointer (some ⟨blk, off, none⟩))))) :: s, bx, withBlock X blk (.cells arr el fr)⟩ a w := by
  have hst : (⟨(d, .sv (.one (.ptr k off))) :: s, (k, some ⟨el, vals.map .val, row⟩) :: bx, X⟩ : St).stat k = some (some ⟨el, vals.map .val, row⟩) := by
    simp [St.stat, look]
  have hlk : ∀ k' x, look k' bx = some x → k' ≠ k := fun k' x h' e => by rw [e, hk] at h'; cases h'
  have hstb : ∀ k' x, look k' bx = some x → (⟨(d, .sv (.one (.ptr k off))) :: s, (k, some ⟨el, vals.map .val, row⟩) :: bx, X⟩ : St).stat k' = some x := fun k' x h' => by
    simp only [St.stat, look]
    cases e : Nat.beq k k' with
    | true => exact absurd (Nat.eq_of_beq_eq_true e).symm (hlk k' x h')
    | false => exact h'
  obtain ⟨arr, fr, harr, hth, hsz, hbr⟩ := hr.boxes k _ hst rfl
  obtain ⟨v, hv, hvr⟩ := hr.slots d (.sv (.one (.ptr k off))) (by simp [St.slot, look])
  simp only [LV.rel, SV.rel, CV.rel] at hvr
  rw [hst] at hvr
  subst hvr
  have hXn : X (ι k).1 = none := (hr.own k _ hst).2
  have hsp : ∃ sp, arr.toList = vals ++ sp := by
    unfold Box.rel at hbr
    cases hrow : row with
    | false =>
      rw [hrow] at hbr
      exact ⟨[], by rw [List.append_nil]; exact rel_vals hbr⟩
    | true =>
      rw [hrow] at hbr
      obtain ⟨us, sp, e, hl⟩ := hbr
      exact ⟨sp, by rw [e, rel_vals hl]⟩
  refine ⟨(ι k).1, arr, fr, hXn, ⟨(hr.own k _ hst).1, hth⟩, hsp, ?_⟩
  have hon : SameOn bx (⟨(d, .sv (.one (.ptr k off))) :: s, (k, some ⟨el, vals.map .val, row⟩) :: bx, X⟩ : St).stat (fun k => look k bx) := fun k' x h' => (hstb k' x h').trans h'.symm
  exact {
    defers := hr.defers, size := hr.size
    slots := fun d' lv hd => by
      simp only [St.slot, look] at hd
      cases e : Nat.beq d d' with
      | true =>
        rw [e] at hd
        simp at hd
        subst hd
        have := Nat.eq_of_beq_eq_true e
        subst this
        exact ⟨_, hv, rfl⟩
      | false =>
        rw [e] at hd
        have hd : look d' s = some lv := by simpa using hd
        obtain ⟨v', hv', hr'⟩ := hr.slots d' lv (by simp only [St.slot, look, e]; exact hd)
        exact ⟨v', hv', LV.rel_on hon (List.all_eq_true.1 hs _ (look_mem hd)) hr'⟩
    res := by
      obtain ⟨F, hF⟩ := hr.res
      refine hF.keep (fun j e cs R hj => ⟨hstb j _ hj, rfl⟩) (fun _ _ _ _ _ hj => hj) (fun _ _ ho => ho) (fun b _ hx hne _ => ?_) (fun j bj hj => .inl ⟨bj, hstb j _ hj, rfl⟩)
      show withBlock X (ι k).1 _ b = none
      unfold withBlock
      rw [if_neg (fun e => hne k _ hst rfl e.symm)]
      exact hx
    boxes := fun k' b hb' hbk => by
      have hb' : look k' bx = some (some b) := hb'
      obtain ⟨arr', fr', h1, h2, h3, h4⟩ := hr.boxes k' b (hstb k' _ hb') hbk
      exact ⟨arr', fr', h1, h2, h3, Box.rel_on hon (by simpa using List.all_eq_true.1 hb _ (look_mem hb')) h4⟩
    own := fun k' b hb' => by
      have hb' : look k' bx = some (some b) := hb'
      obtain ⟨h1, h2⟩ := hr.own k' b (hstb k' _ hb')
      refine ⟨h1, ?_⟩
      show withBlock X (ι k).1 _ (ι k').1 = none
      unfold withBlock
      rw [if_neg (fun e => hlk k' _ hb' (hr.inj k' k b _ (hstb k' _ hb') hst e))]
      exact h2
    inj := fun k1 k2 b1 b2 h1 h2 he => hr.inj k1 k2 b1 b2 (hstb k1 _ h1) (hstb k2 _ h2) he
    keep := fun k' b hb' hge => hr.keep k' b (hstb k' _ hb') hge
    ext := fun b o hbo => by
      have hbo : withBlock X (ι k).1 (.cells arr el fr) b = some o := hbo
      unfold withBlock at hbo
      by_cases e : b = (ι k).1
      · rw [if_pos e] at hbo
        rw [e, harr]; exact hbo
      · rw [if_neg e] at hbo
        exact hr.ext b o hbo
    frame := hr.frame, big := hr.big, os := hr.os, tape := hr.tape, output := hr.output }
theorem LWP.freezePtr {s : List (Nat × LV)} {bx : List (Nat × Option Box)} {d k off : Nat} {el : TypeId} {vals : List Value} {row : Bool}
    (hs : s.all (fun p => p.2.inUse bx) = true) (hb : bx.all (fun p => match p.2 with | some b => b.cells.all (CV.inUse bx) | none => true) = true) (hk : look k bx = none)
    (h : ∀ (blk : Nat) (arr : Array Value) (fr : Nat × Nat), X blk = none → Frozen C blk arr fr → (∃ sp, arr.toList = vals ++ sp) →
      LWP P n C c Q ⟨(d, .sv (.one (.val (.pointer (some ⟨blk, off, none⟩))))) :: s, bx, withBlock X blk (.cells arr el fr)⟩) :
    LWP P n C c Q ⟨(d, .sv (.one (.ptr k off))) :: s, (k, some ⟨el, vals.map .val, row⟩) :: bx, X⟩ := by
  refine ⟨fun ι a w hr => ?_⟩
  obtain ⟨blk, arr, fr, h1, h2, h5, h6⟩ := hr.freezePtr hs hb hk
  exact (h blk arr fr h1 h2 h5).out ι a w h6
end
section
variable {P : Program} {n : Nat} {ops os : List Oper} {acc : List Eff} {K : List Eff → St → Prop} {s : List (Nat × LV)} {bx : List (Nat × Option Box)} {X : Nat → Option Obj} {σ : St}
theorem LOK.makeFunc {d : Nat} {fn : Fn} {caps : List Operand} {us : List Value} {lvs : List LV} {ty : TypeId} {pos : String} {after_ : Array Edge} {g : Option (Nat × Bool)} (hc : evs σ caps = some lvs) (hu : plainLVs lvs = some us) :
    LOK P n ops ⟨some d, .makeFunc fn #[] caps.toArray, ty, pos, after_, g⟩ σ ⟨[(d, .sv (.one (.val (.func fn #[] us.toArray))))], [], []⟩ :=
  LOK.value fun σ' ha C ι a w hr => by
    have hc' : evs σ' caps = some lvs := by
      rw [evs_agree fun x hx => ha.ev (by simp [Op.operands, hx])]
      exact hc
    have e : caps.map a.eval = us := plainLVs_rel hu (evs_rel hr hc')
    exact ⟨.func fn #[] us.toArray, by rw [← e]; simp [execOp, Instr.makeFunc], rfl⟩
theorem K.makeFunc {d : Nat} {fn : Fn} {caps : List Operand} {us : List Value} {lvs : List LV} {ty : TypeId} {pos : String} {after_ : Array Edge} {g : Option (Nat × Bool)} (hc : evs ⟨s, bx, X⟩ caps = some lvs) (hu : plainLVs lvs = some us) (hw : Want ops s g)
    (kont : RunK P n ops os ⟨(d, .sv (.one (.val (.func fn #[] us.toArray)))) :: s, bx, X⟩ (⟨[(d, .sv (.one (.val (.func fn #[] us.toArray))))], [], []⟩ :: acc) K) :
    RunK P n ops (⟨some d, .makeFunc fn #[] caps.toArray, ty, pos, after_, g⟩ :: os) ⟨s, bx, X⟩ acc K := RunK.g1 (LOK.makeFunc hc hu) hw kont
theorem LOK.callF {d : Nat} {x : Operand} {f : FuncId} {caps : List Value} {args : List Operand} {tys : Array TypeId} {ty : TypeId} {pos : String} {after_ : Array Edge} {g : Option (Nat × Bool)} {lvs : List LV} {r : LV} (hx : σ.ev x = some (.sv (.one (.val (.func (.func f) #[] caps.toArray))))) (hargs : evs σ args = some lvs) (hcl : lvs.all LV.closed = true) (hs : PSpec P σ.X f (lvs ++ caps.map fun v => .sv (.one (.val v))) r) :
    LOK P n ops ⟨some d, .call ⟨.value x, args.toArray, tys⟩, ty, pos, after_, g⟩ σ ⟨[(d, r)], [], []⟩ := by
  refine ⟨fun σ' ha C ι a w hr hd next Q hn => ?_⟩
  have hargs' : evs σ' args = some lvs := by
    rw [evs_agree fun y hy => ha.ev (by simp [Op.operands, Call.operands, hy])]
    exact hargs
  have hv : a.eval x = .func (.func f) #[] caps.toArray := hr.ev ((ha.ev (x := x) (by simp [Op.operands, Call.operands])).trans hx)
  have hrel := LVs.rel_closed (S' := noS) (ι' := fun _ => (0, 0)) hcl (evs_rel hr hargs')
  have happ : ∀ {l : List LV} {us : List Value}, LVs.rel noS (fun _ => (0, 0)) l us → LVs.rel noS (fun _ => (0, 0)) (l ++ caps.map fun v => .sv (.one (.val v))) (us ++ caps) := fun {l} => by
    induction l with
    | nil =>
      intro us h
      cases us with
      | cons => exact h.elim
      | nil =>
        simp only [List.nil_append]
        have key : ∀ cs : List Value, LVs.rel noS (fun _ => (0, 0)) (cs.map fun v => LV.sv (.one (.val v))) cs := fun cs => by
          induction cs with
          | nil => trivial
          | cons c cs ih => exact ⟨rfl, ih⟩
        exact key caps
    | cons a l ih =>
      intro us h
      cases us with
      | nil => exact h.elim
      | cons u us => exact ⟨h.1, ih h.2⟩
  have hc := hs.out w (args.toArray.map a.eval ++ caps.toArray) (fun b o hb => hr.ext b o (by rw [ha.X]; exact hb)) (by simpa using happ hrel)
  unfold Oper.wp
  have hrun : (execOp a.eval ⟨some d, .call ⟨.value x, args.toArray, tys⟩, ty, pos, after_, g⟩).run P w = .ok (.enter f (args.toArray.map a.eval ++ caps.toArray)) w := by
    simp only [execOp, resolve, hv, Deferred.ofValue, invoke, Sem.run_bind, Sem.run_pure, Result.andThen_ok]
    simp [run_enter hs.enters]
  rw [hrun]
  refine hc.mono ?_
  rintro e w' ⟨v, rfl, hv, hb⟩
  exact hn ι _ w' ((hr.below hb).put (hd d rfl) (LV.rel_later (later_noS _ _ _) hv))
theorem K.callF {d : Nat} {x : Operand} {f : FuncId} {caps : List Value} {args : List Operand} {tys : Array TypeId} {ty : TypeId} {pos : String} {after_ : Array Edge} {g : Option (Nat × Bool)} {lvs : List LV} {r : LV} (hx : (⟨s, bx, X⟩ : St).ev x = some (.sv (.one (.val (.func (.func f) #[] caps.toArray))))) (hargs : evs ⟨s, bx, X⟩ args = some lvs) (hcl : lvs.all LV.closed = true) (hs : PSpec P X f (lvs ++ caps.map fun v => .sv (.one (.val v))) r) (hw : Want ops s g)
    (kont : RunK P n ops os ⟨(d, r) :: s, bx, X⟩ (⟨[(d, r)], [], []⟩ :: acc) K) :
    RunK P n ops (⟨some d, .call ⟨.value x, args.toArray, tys⟩, ty, pos, after_, g⟩ :: os) ⟨s, bx, X⟩ acc K := RunK.g1 (LOK.callF hx hargs hcl hs) hw kont
theorem LOK.lookupOk {d k : Nat} {t kt et : TypeId} {x y : Operand} {ty : TypeId} {pos : String} {after_ : Array Edge} {g : Option (Nat × Bool)} {m : List (Value × Value)} {e : TypeId} {cs : List CV} {key v z : Value} {l : Lit} {r : Bool} (sv : SV)
    (hx : σ.ev x = some (.sv (.one (.mp k)))) (hy : σ.ev y = some (.sv (.one (.val key)))) (hk : σ.stat k = some (some ⟨e, cs, .res (mapR P kt m)⟩)) (hm : mapOf P t = some (kt, et)) (L : KL P kt) (hkey : Go.keyOf P kt key = some l) (hz : (P.info? et).bind (·.zero) = some z) (hat : At m key v z) (hsv : ∀ (S : Nat → Option (Option Box)) (ι : Nat → Nat × Nat), sv.rel S ι v) (hr : r = true ↔ ∃ p ∈ m, p.1 = key) :
    LOK P n ops ⟨some d, .lookup t x y true, ty, pos, after_, g⟩ σ ⟨[(d, .tup [sv, .one (.val (.bool r))])], [k], []⟩ :=
  LOK.value fun σ' ha C ι a w hrl => by
    have hk' := (ha.stat k (.inl (by simp))).trans hk
    have hv := hrl.ev ((ha.ev (x := x) (by simp [Op.operands])).trans hx)
    have hkv : a.eval y = key := hrl.ev ((ha.ev (x := y) (by simp [Op.operands])).trans hy)
    simp only [LV.rel, SV.rel, CV.rel, hk'] at hv
    obtain ⟨H, ⟨es, clock, rfl, he, hnd, hkeys⟩, hH, _⟩ := hrl.resStep hk'
    have hb := hH (ι k).1 _ (withBlock_at _ _ _)
    have ht := mapOf_spec hm
    have hzr : (zeroValue et).run P w = .ok z w := by
      cases hi : P.info? et with
      | none => rw [hi] at hz; cases hz
      | some i => rw [hi] at hz; have hz : i.zero = some z := hz; simp [zeroValue, typeInfo, hi, hz]
    have hall : ∀ x ∈ es.toList, ∃ l, Go.keyOf P kt x.key = some l := fun x hx => by
      refine hkeys (x.key, x.val) ?_
      rw [← he]
      exact List.mem_map.2 ⟨x, hx, rfl⟩
    have hrun : (Instr.lookup t (.map (some (ι k).1)) key true).run P w = .ok (.tuple #[v, .bool r]) w := by
      rcases L.find w hkey es.toList hall with ⟨h1, h2⟩ | ⟨j, e0, h1, h2, h3⟩
      · have hvz : v = z := by
          rcases hat with h4 | ⟨_, h4⟩
          · rw [← he] at h4
            obtain ⟨x, hx, hxe⟩ := List.mem_map.1 h4
            cases hxe
            exact absurd rfl (h2 x hx)
          · exact h4
        have hr0 : r = false := by
          cases r with
          | false => rfl
          | true =>
            obtain ⟨p, hp, h5⟩ := hr.1 rfl
            rw [← he] at hp
            obtain ⟨x, hx, rfl⟩ := List.mem_map.1 hp
            exact absurd h5 (h2 x hx)
        simp [Instr.lookup, run_underlying ht, MapKept.run_getObj_map hb, L.check w _ hkey, h1, hzr, Result.andThen, hvz, hr0]
      · have hmem : e0 ∈ es.toList := List.mem_of_getElem? h2
        have hv0 : e0.val = v := by
          rcases hat with h4 | ⟨h4, _⟩
          · obtain ⟨i, hi⟩ := List.getElem?_of_mem h4
            have hmj : m[j]? = some (key, e0.val) := by rw [← he, List.getElem?_map, h2, ← h3]; rfl
            exact (same_at hnd hmj hi)
          · refine absurd h3 (h4 (e0.key, e0.val) ?_)
            rw [← he]
            exact List.mem_map.2 ⟨e0, hmem, rfl⟩
        have hr1 : r = true := by
          refine hr.2 ⟨(e0.key, e0.val), ?_, h3⟩
          rw [← he]
          exact List.mem_map.2 ⟨e0, hmem, rfl⟩
        simp [Instr.lookup, run_underlying ht, MapKept.run_getObj_map hb, L.check w _ hkey, h1, Result.andThen, hv0, hr1]
    exact ⟨.tuple #[v, .bool r], by simp only [execOp, hv, hkv, Sem.run_bind, hrun, Result.andThen_ok, Sem.run_pure], ⟨_, rfl, hsv _ _, rfl, trivial⟩⟩
theorem K.lookupOk {d k : Nat} {t kt et : TypeId} {x y : Operand} {ty : TypeId} {pos : String} {after_ : Array Edge} {g : Option (Nat × Bool)} {m : List (Value × Value)} {e : TypeId} {cs : List CV} {key v z : Value} {l : Lit} {r : Bool} (sv : SV)
    (hx : (⟨s, bx, X⟩ : St).ev x = some (.sv (.one (.mp k)))) (hy : (⟨s, bx, X⟩ : St).ev y = some (.sv (.one (.val key)))) (hk : (⟨s, bx, X⟩ : St).stat k = some (some ⟨e, cs, .res (mapR P kt m)⟩)) (hm : mapOf P t = some (kt, et)) (L : KL P kt) (hkey : Go.keyOf P kt key = some l) (hz : (P.info? et).bind (·.zero) = some z) (hat : At m key v z) (hsv : ∀ (S : Nat → Option (Option Box)) (ι : Nat → Nat × Nat), sv.rel S ι v) (hr : r = true ↔ ∃ p ∈ m, p.1 = key) (hw : Want ops s g)
    (kont : RunK P n ops os ⟨(d, .tup [sv, .one (.val (.bool r))]) :: s, bx, X⟩ (⟨[(d, .tup [sv, .one (.val (.bool r))])], [k], []⟩ :: acc) K) :
    RunK P n ops (⟨some d, .lookup t x y true, ty, pos, after_, g⟩ :: os) ⟨s, bx, X⟩ acc K := RunK.g1 (LOK.lookupOk sv hx hy hk hm L hkey hz hat hsv hr) hw kont
theorem agg0_of (S : Nat → Option (Option Box)) (ι : Nat → Nat × Nat) (w : Value) (h : LV.rel S ι (.sv (.agg [])) w) : w = .agg #[] := by
  obtain ⟨arr, rfl, h⟩ := h
  cases hl : arr.toList with
  | nil => rw [show arr = #[] by simpa using hl]
  | cons a l => rw [hl] at h; exact h.elim
theorem agg0_rel (S : Nat → Option (Option Box)) (ι : Nat → Nat × Nat) : SV.rel S ι (.agg []) (.agg #[]) := ⟨#[], rfl, trivial⟩
theorem K.mapPut {k : Nat} {t kt et : TypeId} {x y u : Operand} {ty : TypeId} {pos : String} {after_ : Array Edge} {g : Option (Nat × Bool)} {m : List (Value × Value)} (m' : List (Value × Value)) {e : TypeId} {cs : List CV} {key : Value} {l : Lit}
    (hx : (⟨s, bx, X⟩ : St).ev x = some (.sv (.one (.mp k)))) (hy : (⟨s, bx, X⟩ : St).ev y = some (.sv (.one (.val key)))) (hu : (⟨s, bx, X⟩ : St).ev u = some (.sv (.agg []))) (hk : (⟨s, bx, X⟩ : St).stat k = some (some ⟨e, cs, .res (mapR P kt m)⟩)) (hm : mapOf P t = some (kt, et)) (L : KL P kt) (hkey : Go.keyOf P kt key = some l) (hput : Put m key (.agg #[]) m') (hw : Want ops s g)
    (kont : RunK P n ops os ⟨s, (k, some ⟨0, [], .res (mapR P kt m')⟩) :: bx, X⟩ (⟨[], [], [(k, some ⟨0, [], .res (mapR P kt m')⟩)]⟩ :: acc) K) :
    RunK P n ops (⟨none, .mapUpdate t x y u, ty, pos, after_, g⟩ :: os) ⟨s, bx, X⟩ acc K := RunK.g3 (LOK.mapUpdate hx hy hu agg0_of hk hm L hkey hput) hw kont
end
theorem Le.trans {n : Nat} {C : Ctx} {σ1 σ2 σ3 : St} (h : Le n C σ1 σ2) (h' : Le n C σ2 σ3) : Le n C σ1 σ3 := ⟨fun ι a w hr => by
  obtain ⟨ι1, h1⟩ := h.out ι a w hr
  exact h'.out ι1 a w h1⟩
end Go.Lg
end
section
namespace Go.Lg.Fld
open Go Go.Lg
def nmM (ns : List (List UInt8)) : List (Value × Value) := ns.map fun l => (.string ⟨l.toArray⟩, .agg #[])
theorem nmM_at (ns : List (List UInt8)) (l : List UInt8) : At (nmM ns) (.string ⟨l.toArray⟩) (.agg #[]) (.agg #[]) := by
  by_cases h : l ∈ ns
  · exact .inl (List.mem_map.2 ⟨l, h, rfl⟩)
  · refine .inr ⟨fun p hp e => ?_, rfl⟩
    obtain ⟨l', hl', rfl⟩ := List.mem_map.1 hp
    simp only [Value.string.injEq, ByteArray.mk.injEq] at e
    exact h (by rw [show l = l' from (List.toArray_inj e.symm)]; exact hl')
theorem nmM_any (ns : List (List UInt8)) (l : List UInt8) (r : Bool) (hr : ns.any (fun m => m == l) = r) : r = true ↔ ∃ p ∈ nmM ns, p.1 = .string ⟨l.toArray⟩ := by
  subst hr
  rw [List.any_eq_true]
  constructor
  · rintro ⟨m, hm, he⟩
    rw [beq_iff_eq] at he
    subst he
    exact ⟨_, List.mem_map.2 ⟨m, hm, rfl⟩, rfl⟩
  · rintro ⟨p, hp, e⟩
    obtain ⟨l', hl', rfl⟩ := List.mem_map.1 hp
    simp only [Value.string.injEq, ByteArray.mk.injEq] at e
    exact ⟨l', hl', by rw [beq_iff_eq]; exact List.toArray_inj e⟩
theorem nmM_put {ns : List (List UInt8)} {l : List UInt8} (h : ns.any (fun m => m == l) = false) : Put (nmM ns) (.string ⟨l.toArray⟩) (.agg #[]) (nmM (ns ++ [l])) := by
  refine .inr ⟨fun p hp e => ?_, by unfold nmM; rw [List.map_append]; rfl⟩
  obtain ⟨l', hl', rfl⟩ := List.mem_map.1 hp
  simp only [Value.string.injEq, ByteArray.mk.injEq] at e
  rw [List.any_eq_false] at h
  exact h l' hl' (by rw [beq_iff_eq]; exact List.toArray_inj e)
end Go.Lg.Fld
namespace Go.Proofs.YtnomcmklhbjfjaaGreatDoor
open Go Go.Lg Go.Lg.Fld
set_option maxRecDepth 100000
variable (X : Nat → Option Obj)
theorem isLetter_spec (c : UInt8) : PSpec Tryz.prog X 85 [Ln .u8 (c.toNat : Nat)] (Lb (letB c)) := by
  refine PSpec.intro Tryz.func85 rfl (by kernel_rfl) rfl rfl ?_
  intro C
  unfold letB
  by_cases h : 97 ≤ c.toNat
  · rw [decide_eq_true h, Bool.true_and]
    (refine LWP.seq <| LWP.region (by kernel_rfl) <| kas rfl <| RunK.nil <| LWP.seq <| LWP.region (by kernel_rfl) <| kmv rfl <| K.leq rfl rfl (decide_eq_true (by omega)) .plain <| kmv rfl <| gmv rfl rfl rfl <| K.leq rfl rfl (r := decide (c.toNat ≤ 122)) (by rw [decide_eq_decide]; omega) (.taken rfl rfl) ?_; refine kpt rfl rfl <| kas rfl <| RunK.nil <| LWP.ret ?_)
    exact ⟨[_], ⟨rfl, trivial⟩, rfl⟩
  · rw [decide_eq_false h, Bool.false_and]
    (refine LWP.seq <| LWP.region (by kernel_rfl) <| kas rfl <| RunK.nil <| LWP.seq <| LWP.region (by kernel_rfl) <| kmv rfl <| K.leq rfl rfl (decide_eq_false (by omega)) .plain <| kmv rfl <| RunK.passed rfl rfl rfl <| RunK.passed rfl rfl rfl <| kpf rfl rfl <| kas rfl <| RunK.nil ?_; refine LWP.ret ?_)
    exact ⟨[_], ⟨rfl, trivial⟩, rfl⟩
theorem isDigit_spec (c : UInt8) : PSpec Tryz.prog X 86 [Ln .u8 (c.toNat : Nat)] (Lb (digB c)) := by
  refine PSpec.intro Tryz.func86 rfl (by kernel_rfl) rfl rfl ?_
  intro C
  unfold digB
  by_cases h : 48 ≤ c.toNat
  · rw [decide_eq_true h, Bool.true_and]
    (refine LWP.seq <| LWP.region (by kernel_rfl) <| kas rfl <| RunK.nil <| LWP.seq <| LWP.region (by kernel_rfl) <| kmv rfl <| K.leq rfl rfl (decide_eq_true (by omega)) .plain <| kmv rfl <| gmv rfl rfl rfl <| K.leq rfl rfl (r := decide (c.toNat ≤ 57)) (by rw [decide_eq_decide]; omega) (.taken rfl rfl) ?_; refine kpt rfl rfl <| kas rfl <| RunK.nil <| LWP.ret ?_)
    exact ⟨[_], ⟨rfl, trivial⟩, rfl⟩
  · rw [decide_eq_false h, Bool.false_and]
    (refine LWP.seq <| LWP.region (by kernel_rfl) <| kas rfl <| RunK.nil <| LWP.seq <| LWP.region (by kernel_rfl) <| kmv rfl <| K.leq rfl rfl (decide_eq_false (by omega)) .plain <| kmv rfl <| RunK.passed rfl rfl rfl <| RunK.passed rfl rfl rfl <| kpf rfl rfl <| kas rfl <| RunK.nil ?_; refine LWP.ret ?_)
    exact ⟨[_], ⟨rfl, trivial⟩, rfl⟩
theorem nmC_zero (l : List UInt8) : nmC l 0 = letB (l.getD 0 0) := by unfold nmC; simp
theorem nmC_more {l : List UInt8} {i : Nat} (h : nmC l 0 = true) : nmC l i = (letB (l.getD i 0) || digB (l.getD i 0)) := by
  unfold nmC
  by_cases e : i = 0
  · subst e
    rw [nmC_zero] at h
    rw [h]; simp
  · simp [e]
theorem pIsName (l : List UInt8) (r : Bool) (hr : nmB l = r) : PSpec Tryz.prog X 69 [Ls l] (Lb r) := by
  subst hr
  refine PSpec.intro Tryz.func69 rfl (by kernel_rfl) rfl rfl ?_
  intro C
  have hlen : (⟨l.toArray⟩ : ByteArray).size = l.length := rfl
  by_cases h1 : l.length < 1
  · rw [show nmB l = false by unfold nmB; rw [decide_eq_false (by omega)]; rfl]
    (refine LWP.seq <| LWP.region (by kernel_rfl) <| kas rfl <| RunK.nil <| LWP.seq <| LWP.seq <| LWP.region (by kernel_rfl) <| kmv rfl <| kln rfl <| klt rfl rfl (decide_eq_true (by rw [hlen]; omega)) <| kmv rfl <| RunK.passed rfl rfl rfl <| RunK.passed rfl rfl rfl <| RunK.passed rfl rfl rfl ?_; refine kpt rfl rfl <| kmv rfl <| RunK.passed rfl rfl rfl <| RunK.passed rfl rfl rfl <| RunK.passed rfl rfl rfl <| RunK.passed rfl rfl rfl <| kpt rfl rfl <| RunK.nil <| LWP.condT rfl ?_; refine LWP.seq <| LWP.region (by kernel_rfl) <| kas rfl <| RunK.nil <| LWP.ret ?_)
    exact ⟨[_], ⟨rfl, trivial⟩, rfl⟩
  by_cases h2 : 12 < l.length
  · rw [show nmB l = false by unfold nmB; rw [decide_eq_false (show ¬l.length ≤ 12 by omega)]; simp]
    (refine LWP.seq <| LWP.region (by kernel_rfl) <| kas rfl <| RunK.nil <| LWP.seq <| LWP.seq <| LWP.region (by kernel_rfl) <| kmv rfl <| kln rfl <| klt rfl rfl (decide_eq_false (by rw [hlen]; omega)) <| kmv rfl <| gmv rfl rfl rfl <| K.lenStr rfl (.taken rfl rfl) ?_; refine K.gtr rfl rfl (decide_eq_true (by rw [hlen]; omega)) (.taken rfl rfl) ?_; refine kpf rfl rfl <| kmv rfl <| RunK.passed rfl rfl rfl <| RunK.passed rfl rfl rfl <| RunK.passed rfl rfl rfl <| RunK.passed rfl rfl rfl <| kpt rfl rfl <| RunK.nil <| LWP.condT rfl ?_; refine LWP.seq <| LWP.region (by kernel_rfl) <| kas rfl <| RunK.nil <| LWP.ret ?_)
    exact ⟨[_], ⟨rfl, trivial⟩, rfl⟩
  obtain ⟨c0, hc0⟩ : ∃ c, l[0]? = some c := ⟨_, List.getElem?_eq_getElem (by omega)⟩
  have hget0 : (⟨l.toArray⟩ : ByteArray)[(0 : Int).toNat]? = some c0 := str_at hc0
  have hz : nmC l 0 = letB c0 := by rw [nmC_zero, getD_of hc0]
  have hL := isLetter_spec X c0
  cases h0 : letB c0 with
  | false =>
    rw [nmB_false (i := 0) (by omega) (hz.trans h0)]
    rw [h0] at hL
    (refine LWP.seq <| LWP.region (by kernel_rfl) <| kas rfl <| RunK.nil <| LWP.seq <| LWP.seq <| LWP.region (by kernel_rfl) <| kmv rfl <| kln rfl <| klt rfl rfl (decide_eq_false (by rw [hlen]; omega)) <| kmv rfl <| gmv rfl rfl rfl <| K.lenStr rfl (.taken rfl rfl) ?_; refine K.gtr rfl rfl (decide_eq_false (by rw [hlen]; omega)) (.taken rfl rfl) ?_; refine kpf rfl rfl <| kmv rfl <| gmv rfl rfl rfl <| K.indexStr rfl rfl (by omega) hget0 (.taken rfl rfl) ?_; refine gca rfl rfl (hL) rfl rfl <| K.not rfl rfl (.taken rfl rfl) ?_; refine kpf rfl rfl <| RunK.nil <| LWP.condT rfl ?_; refine LWP.seq <| LWP.region (by kernel_rfl) <| kas rfl <| RunK.nil <| LWP.ret ?_)
    exact ⟨[_], ⟨rfl, trivial⟩, rfl⟩
  | true =>
    have hz1 := hz.trans h0
    rw [h0] at hL
    (refine LWP.seq <| LWP.region (by kernel_rfl) <| kas rfl <| RunK.nil <| LWP.seq <| LWP.seq <| LWP.region (by kernel_rfl) <| kmv rfl <| kln rfl <| klt rfl rfl (decide_eq_false (by rw [hlen]; omega)) <| kmv rfl <| gmv rfl rfl rfl <| K.lenStr rfl (.taken rfl rfl) ?_; refine K.gtr rfl rfl (decide_eq_false (by rw [hlen]; omega)) (.taken rfl rfl) ?_; refine kpf rfl rfl <| kmv rfl <| gmv rfl rfl rfl <| K.indexStr rfl rfl (by omega) hget0 (.taken rfl rfl) ?_; refine gca rfl rfl (hL) rfl rfl <| K.not rfl rfl (.taken rfl rfl) ?_; refine kpf rfl rfl <| RunK.nil <| LWP.condF rfl ?_; refine LWP.skip ?_; refine LWP.seq <| LWP.seq <| LWP.region (by kernel_rfl) <| kmv rfl <| kln rfl <| kmv rfl <| RunK.nil <| LWP.block ?_)
    refine LWP.loop (fun m σ => ∃ i : Nat, i ≤ l.length ∧ m = l.length - i ∧ (∀ j, j < i → nmC l j = true) ∧ σ = ⟨[(0, Ls l), (19, Ln .i64 (l.length : Nat)), (20, Ln .i64 (i : Nat))], [], X⟩) l.length
      ⟨_, Le.of (by exact ⟨rfl, rfl, rfl, trivial⟩) (by exact trivial) (by exact rfl) (by exact rfl) (by exact rfl), 0, by omega, by omega, fun j hj => absurd hj (by omega), rfl⟩ ?_
    rintro m σ ⟨i, hi, rfl, hpre, rfl⟩
    by_cases hlt : i < l.length
    · obtain ⟨c, hc⟩ : ∃ c, l[i]? = some c := ⟨_, List.getElem?_eq_getElem hlt⟩
      have hN : nmC l i = (letB c || digB c) := by rw [nmC_more hz1, getD_of hc]
      have hget : (⟨l.toArray⟩ : ByteArray)[(i : Int).toNat]? = some c := str_at (by rw [Int.toNat_natCast]; exact hc)
      have hA := isLetter_spec X c
      have hB := isDigit_spec X c
      have key : nmC l i = true → ∀ j, j < i + 1 → nmC l j = true := fun hok j hj => by
        by_cases e : j = i
        · rw [e]; exact hok
        · exact hpre j (by omega)
      cases ha : letB c with
      | true =>
        rw [ha] at hA
        (refine LWP.seq <| LWP.region (by kernel_rfl) <| klt rfl rfl (decide_eq_true (by omega)) <| RunK.nil <| LWP.seq <| LWP.condT rfl ?_; refine LWP.skip ?_; refine LWP.seq <| LWP.block <| LWP.seq <| LWP.region (by kernel_rfl) <| kmv rfl <| kas rfl <| RunK.nil <| LWP.seq <| LWP.region (by kernel_rfl) <| kmv rfl <| kmv rfl <| K.indexStr rfl rfl (by omega) hget .plain <| kca rfl rfl (hA) <| K.not rfl rfl .plain ?_; refine kmv rfl <| RunK.passed rfl rfl rfl <| RunK.passed rfl rfl rfl <| RunK.passed rfl rfl rfl <| RunK.passed rfl rfl rfl <| RunK.passed rfl rfl rfl <| kpf rfl rfl <| RunK.nil <| LWP.condF rfl ?_; refine LWP.skip ?_; refine LWP.region (by kernel_rfl) <| kad rfl rfl (wrap_i64 (by omega)) <| kmv rfl <| RunK.nil ?_)
        exact ⟨_, _, by omega, Le.of (by exact ⟨rfl, rfl, rfl, trivial⟩) (by exact trivial) (by exact rfl) (by exact rfl) (by exact rfl), i + 1, by omega, rfl, key (by rw [hN, ha]; rfl), rfl⟩
      | false =>
        rw [ha] at hA
        cases hb : digB c with
        | true =>
          rw [hb] at hB
          (refine LWP.seq <| LWP.region (by kernel_rfl) <| klt rfl rfl (decide_eq_true (by omega)) <| RunK.nil <| LWP.seq <| LWP.condT rfl ?_; refine LWP.skip ?_; refine LWP.seq <| LWP.block <| LWP.seq <| LWP.region (by kernel_rfl) <| kmv rfl <| kas rfl <| RunK.nil <| LWP.seq <| LWP.region (by kernel_rfl) <| kmv rfl <| kmv rfl <| K.indexStr rfl rfl (by omega) hget .plain <| kca rfl rfl (hA) <| K.not rfl rfl .plain ?_; refine kmv rfl <| gmv rfl rfl rfl <| gmv rfl rfl rfl <| K.indexStr rfl rfl (by omega) hget (.taken rfl rfl) ?_; refine gca rfl rfl (hB) rfl rfl <| K.not rfl rfl (.taken rfl rfl) ?_; refine kpt rfl rfl <| RunK.nil <| LWP.condF rfl ?_; refine LWP.skip ?_; refine LWP.region (by kernel_rfl) <| kad rfl rfl (wrap_i64 (by omega)) <| kmv rfl <| RunK.nil ?_)
          exact ⟨_, _, by omega, Le.of (by exact ⟨rfl, rfl, rfl, trivial⟩) (by exact trivial) (by exact rfl) (by exact rfl) (by exact rfl), i + 1, by omega, rfl, key (by rw [hN, ha, hb]; rfl), rfl⟩
        | false =>
          rw [hb] at hB
          rw [nmB_false hlt (by rw [hN, ha, hb]; rfl)]
          (refine LWP.seq <| LWP.region (by kernel_rfl) <| klt rfl rfl (decide_eq_true (by omega)) <| RunK.nil <| LWP.seq <| LWP.condT rfl ?_; refine LWP.skip ?_; refine LWP.seq <| LWP.block <| LWP.seq <| LWP.region (by kernel_rfl) <| kmv rfl <| kas rfl <| RunK.nil <| LWP.seq <| LWP.region (by kernel_rfl) <| kmv rfl <| kmv rfl <| K.indexStr rfl rfl (by omega) hget .plain <| kca rfl rfl (hA) <| K.not rfl rfl .plain ?_; refine kmv rfl <| gmv rfl rfl rfl <| gmv rfl rfl rfl <| K.indexStr rfl rfl (by omega) hget (.taken rfl rfl) ?_; refine gca rfl rfl (hB) rfl rfl <| K.not rfl rfl (.taken rfl rfl) ?_; refine kpt rfl rfl <| RunK.nil <| LWP.condT rfl ?_; refine LWP.seq <| LWP.region (by kernel_rfl) <| kas rfl <| RunK.nil <| LWP.ret ?_)
          exact ⟨[_], ⟨rfl, trivial⟩, rfl⟩
    · rw [nmB_true (by omega) (by omega) (fun j hj => hpre j (by omega))]
      (refine LWP.seq <| LWP.region (by kernel_rfl) <| klt rfl rfl (decide_eq_false (by omega)) <| RunK.nil <| LWP.seq <| LWP.condF rfl ?_; refine LWP.exit <| LWP.seq <| LWP.region (by kernel_rfl) <| kas rfl <| RunK.nil <| LWP.ret ?_)
      exact ⟨[_], ⟨rfl, trivial⟩, rfl⟩
abbrev nmBx (k : Nat) (ns : List (List UInt8)) : Nat × Option Box := (k, some ⟨0, [], .res (mapR Tryz.prog 9 (nmM ns))⟩)
abbrev Lmp (k : Nat) : LV := .sv (.one (.mp k))
theorem take_ok (ns : List (List UInt8)) (l : List UInt8) (hl : l.length ≤ 9223372036854775807) (h1 : ns.any (fun m => m == l) = false) (h2 : nmB l = true) :
    MSpec Tryz.prog X 44 [Lmp 1000000, Ls l] [nmBx 1000000 ns] (Lb true) [nmBx 1000000 (ns ++ [l])] := by
  refine MSpec.intro Tryz.func44 rfl (by kernel_rfl) rfl rfl (by exact (by repeat' (first | refine all_cons_true ?_ ?_ | rfl | exact bytes_inUse | exact vals_inUse | exact mid_inUse rfl))) rfl rfl ?_
  intro C
  have hN := pIsName X l true h2
  have hkey : Go.keyOf Tryz.prog 9 (.string ⟨l.toArray⟩) = some (.string l) := by
    rw [WideMaps.keyOf_string_mk (by kernel_rfl) (by show l.length ≤ maxLen; unfold maxLen; omega)]
  (refine LWP.seq <| LWP.region (by kernel_rfl) <| kas rfl <| RunK.nil <| LWP.seq <| LWP.seq <| LWP.region (by kernel_rfl) <| kmv rfl <| kmv rfl <| K.lookupOk (et := 114) (.agg []) (v := .agg #[]) (z := .agg #[]) rfl rfl rfl (by kernel_rfl) (KL.str (by kernel_rfl)) hkey (by kernel_rfl) (nmM_at ns l) agg0_rel (nmM_any ns l false h1) .plain ?_; refine kmv rfl <| kex rfl rfl <| kex rfl rfl <| K.alloc rfl .plain ?_; refine K.storeAll rfl rfl rfl rfl rfl rfl .plain ?_; refine kas rfl <| RunK.nil <| LWP.seq <| LWP.region (by kernel_rfl) <| kmv rfl <| kmv rfl <| gmv rfl rfl rfl <| gca rfl rfl (hN) rfl rfl <| K.not rfl rfl (.taken rfl rfl) ?_; refine kpf rfl rfl <| RunK.nil <| LWP.condF rfl ?_; refine LWP.skip ?_; refine LWP.seq <| LWP.region (by kernel_rfl) <| kmv rfl <| kmv rfl <| K.build rfl rfl (by exact rfl) (by exact nl0 rfl) .plain ?_; refine K.mapPut (et := 114) (nmM (ns ++ [l])) rfl rfl rfl rfl (by kernel_rfl) (KL.str (by kernel_rfl)) hkey (nmM_put h1) .plain ?_; refine RunK.nil <| LWP.seq <| LWP.region (by kernel_rfl) <| kas rfl <| RunK.nil <| LWP.ret ?_)
  exact ⟨[], ⟨[_], ⟨rfl, trivial⟩, rfl⟩, (by repeat' (first | exact trivial | refine And.intro ⟨_, rfl, ?_⟩ ?_ | refine And.intro ⟨_, rfl⟩ ?_ | rfl | exact Box.ren_bytes _ _ _ _ | exact Box.ren_vals _ _ _ _ | exact Box.ren_mid rfl)), rfl, rfl⟩
theorem take_no (ns : List (List UInt8)) (l : List UInt8) (hl : l.length ≤ 9223372036854775807) (h : ns.any (fun m => m == l) = true ∨ nmB l = false) :
    MSpec Tryz.prog X 44 [Lmp 1000000, Ls l] [nmBx 1000000 ns] (Lb false) [nmBx 1000000 ns] := by
  refine MSpec.intro Tryz.func44 rfl (by kernel_rfl) rfl rfl (by exact (by repeat' (first | refine all_cons_true ?_ ?_ | rfl | exact bytes_inUse | exact vals_inUse | exact mid_inUse rfl))) rfl rfl ?_
  intro C
  have hkey : Go.keyOf Tryz.prog 9 (.string ⟨l.toArray⟩) = some (.string l) := by
    rw [WideMaps.keyOf_string_mk (by kernel_rfl) (by show l.length ≤ maxLen; unfold maxLen; omega)]
  cases h1 : ns.any (fun m => m == l) with
  | true =>
    (refine LWP.seq <| LWP.region (by kernel_rfl) <| kas rfl <| RunK.nil <| LWP.seq <| LWP.seq <| LWP.region (by kernel_rfl) <| kmv rfl <| kmv rfl <| K.lookupOk (et := 114) (.agg []) (v := .agg #[]) (z := .agg #[]) rfl rfl rfl (by kernel_rfl) (KL.str (by kernel_rfl)) hkey (by kernel_rfl) (nmM_at ns l) agg0_rel (nmM_any ns l true h1) .plain ?_; refine kmv rfl <| kex rfl rfl <| kex rfl rfl <| K.alloc rfl .plain ?_; refine K.storeAll rfl rfl rfl rfl rfl rfl .plain ?_; refine kas rfl <| RunK.nil <| LWP.seq <| LWP.region (by kernel_rfl) <| kmv rfl <| kmv rfl <| RunK.passed rfl rfl rfl <| RunK.passed rfl rfl rfl <| RunK.passed rfl rfl rfl <| kpt rfl rfl <| RunK.nil <| LWP.condT rfl ?_; refine LWP.seq <| LWP.region (by kernel_rfl) <| kas rfl <| RunK.nil <| LWP.ret ?_)
    exact ⟨[], ⟨[_], ⟨rfl, trivial⟩, rfl⟩, (by repeat' (first | exact trivial | refine And.intro ⟨_, rfl, ?_⟩ ?_ | refine And.intro ⟨_, rfl⟩ ?_ | rfl | exact Box.ren_bytes _ _ _ _ | exact Box.ren_vals _ _ _ _ | exact Box.ren_mid rfl)), rfl, rfl⟩
  | false =>
    have hN := pIsName X l false (h.resolve_left (by rw [h1]; decide))
    (refine LWP.seq <| LWP.region (by kernel_rfl) <| kas rfl <| RunK.nil <| LWP.seq <| LWP.seq <| LWP.region (by kernel_rfl) <| kmv rfl <| kmv rfl <| K.lookupOk (et := 114) (.agg []) (v := .agg #[]) (z := .agg #[]) rfl rfl rfl (by kernel_rfl) (KL.str (by kernel_rfl)) hkey (by kernel_rfl) (nmM_at ns l) agg0_rel (nmM_any ns l false h1) .plain ?_; refine kmv rfl <| kex rfl rfl <| kex rfl rfl <| K.alloc rfl .plain ?_; refine K.storeAll rfl rfl rfl rfl rfl rfl .plain ?_; refine kas rfl <| RunK.nil <| LWP.seq <| LWP.region (by kernel_rfl) <| kmv rfl <| kmv rfl <| gmv rfl rfl rfl <| gca rfl rfl (hN) rfl rfl <| K.not rfl rfl (.taken rfl rfl) ?_; refine kpf rfl rfl <| RunK.nil <| LWP.condT rfl ?_; refine LWP.seq <| LWP.region (by kernel_rfl) <| kas rfl <| RunK.nil <| LWP.ret ?_)
    exact ⟨[], ⟨[_], ⟨rfl, trivial⟩, rfl⟩, (by repeat' (first | exact trivial | refine And.intro ⟨_, rfl, ?_⟩ ?_ | refine And.intro ⟨_, rfl⟩ ?_ | rfl | exact Box.ren_bytes _ _ _ _ | exact Box.ren_vals _ _ _ _ | exact Box.ren_mid rfl)), rfl, rfl⟩
end Go.Proofs.YtnomcmklhbjfjaaGreatDoor
end
section
namespace Go.Lg.Fld
open Go Go.Lg
def NamesC (cs : List Cp) : Prop := ∀ c ∈ cs, c.fs.length < 4611686018427387904 ∧ c.nm.length ≤ 9223372036854775807 ∧ ∀ f ∈ c.fs, f.nm.length ≤ 9223372036854775807
theorem SmallC.names {cs : List Cp} (h : SmallC cs) : NamesC cs := fun c hc => by
  obtain ⟨h1, h2, h3⟩ := h.2 c hc
  exact ⟨by omega, by omega, fun f hf => by have := h3 f hf; omega⟩
theorem any_names {α : Type} (g : α → List UInt8) (l : List α) (i : Nat) (nm : List UInt8) : ((l.take i).map g).any (fun m => m == nm) = (l.take i).any (fun x => g x == nm) := by rw [List.any_map]; rfl
def fldsE (fs : List Fl) : Int := if firstE (fldE fs) 0 fs.length = 0 then layErr fs else 4
end Go.Lg.Fld
namespace Go.Proofs.YtnomcmklhbjfjaaGreatDoor
open Go Go.Lg Go.Lg.Fld
set_option maxRecDepth 100000
variable (X : Nat → Option Obj)
theorem checkFields_spec (fad : Option Addr) (fcap : Nat) (fs : List Fl) (hF : FieldsIn X fad fs) (hbig : fs.length < 4611686018427387904) (hnm : ∀ f ∈ fs, f.nm.length ≤ 9223372036854775807) (e : Int) (he : fldsE fs = e) :
    PSpec Tryz.prog X 45 [Lx fad fs.length fcap] (Ln .i64 e) := by
  subst he
  refine PSpec.intro Tryz.func45 rfl (by kernel_rfl) rfl rfl ?_
  intro C
  (refine LWP.seq <| LWP.region (by kernel_rfl) <| kas rfl <| RunK.nil <| LWP.seq <| LWP.region (by kernel_rfl) <| K.makeMap 9 rfl .plain ?_; refine kas rfl <| RunK.nil <| LWP.seq <| LWP.seq <| LWP.region (by kernel_rfl) <| kmv rfl <| K.lenX rfl SliceT.h rfl .plain ?_; refine kmv rfl <| RunK.nil <| LWP.block ?_)
  refine LWP.loop (fun m σ => ∃ i : Nat, i ≤ fs.length ∧ m = fs.length - i ∧ (∀ j, 0 ≤ j → j < i → fldE fs j = 0) ∧ σ = ⟨[(0, Lx fad fs.length fcap), (3, Lmp 6), (7, Lx fad fs.length fcap), (8, Ln .i64 (fs.length : Nat)), (9, Ln .i64 (i : Nat))], [nmBx 6 ((fs.take i).map Fl.nm)], X⟩) fs.length
    ⟨_, Le.of (by exact ⟨rfl, rfl, rfl, rfl, rfl, trivial⟩) (by exact ⟨rfl, trivial⟩) (by exact rfl) (by exact rfl) (by repeat' (first | refine all_cons_true ?_ ?_ | rfl | exact bytes_inUse | exact vals_inUse | exact mid_inUse rfl)), 0, by omega, by omega, fun j _ hj => absurd hj (by omega), rfl⟩ ?_
  rintro m σ ⟨i, hi, rfl, hpre, rfl⟩
  by_cases hlt : i < fs.length
  · obtain ⟨f, hf⟩ : ∃ f, fs[i]? = some f := ⟨_, List.getElem?_eq_getElem hlt⟩
    obtain ⟨blk, off, arr, el, fr, rfl, hX, hsz, hcells⟩ := hF.at hf
    have hio : off + Int.toNat (i : Int) * 3 = off + i * 3 := by simp
    have hE := fldE_at hf
    have hnl := hnm f (List.mem_of_getElem? hf)
    have hany := any_names Fl.nm fs i f.nm
    have hts : (fs.take (i + 1)).map Fl.nm = (fs.take i).map Fl.nm ++ [f.nm] := by rw [take_snoc hf, List.map_append]; rfl
    by_cases hbad : fldE fs i = 0
    · rw [hbad] at hE
      have h2 : nmB f.nm = true := by
        cases h : nmB f.nm with
        | true => rfl
        | false => rw [h, if_neg (by decide)] at hE; cases hE
      rw [if_pos h2] at hE
      have h1 : ((fs.take i).map Fl.nm).any (fun m => m == f.nm) = false := by
        rw [hany]
        cases h : (fs.take i).any (fun g => g.nm == f.nm) with
        | false => rfl
        | true => rw [h, if_pos rfl] at hE; cases hE
      have hT := take_ok X ((fs.take i).map Fl.nm) f.nm hnl h1 h2
      rw [← hts] at hT
      generalize (fs.take i).map Fl.nm = ns at *
      generalize hns : (fs.take (i + 1)).map Fl.nm = ns' at *
      (refine LWP.seq <| LWP.region (by kernel_rfl) <| klt rfl rfl (decide_eq_true (by omega)) <| RunK.nil <| LWP.seq <| LWP.condT rfl ?_; refine LWP.skip ?_; refine LWP.seq <| LWP.block <| LWP.seq <| LWP.region (by kernel_rfl) <| K.indexX rfl rfl SliceT.h (by omega) hio .plain <| K.loadXagg rfl hX (by kernel_rfl) hsz hcells .plain <| K.alloc rfl .plain ?_; refine K.storeAll rfl rfl rfl rfl rfl rfl .plain ?_; refine RunK.nil <| LWP.seq <| LWP.region (by kernel_rfl) <| kmv rfl <| kfa rfl rfl ?_; refine kl1 rfl rfl rfl <| K.callM [(1000000, 6)] [nmBx 6 ns'] (hT) rfl rfl (by exact (And.intro ⟨_, rfl, rfl⟩ trivial)) (by exact (all_cons_true rfl rfl)) rfl rfl rfl rfl (by exact (.box rfl rfl .nil)) .plain <| K.not rfl rfl .plain <| RunK.nil <| LWP.condF rfl ?_; refine LWP.skip ?_; refine LWP.region (by kernel_rfl) <| kad rfl rfl (wrap_i64 (by omega)) <| kmv rfl <| RunK.nil ?_)
      subst hns
      exact ⟨_, _, by omega, Le.of (by exact ⟨rfl, rfl, rfl, rfl, rfl, trivial⟩) (by exact ⟨rfl, trivial⟩) (by exact rfl) (by exact rfl) (by repeat' (first | refine all_cons_true ?_ ?_ | rfl | exact bytes_inUse | exact vals_inUse | exact mid_inUse rfl)), i + 1, by omega, rfl, (fun j h0 hj => by
        by_cases e : j = i
        · rw [e]; exact hbad
        · exact hpre j h0 (by omega)), rfl⟩
    · have h4 : fldE fs i = 4 := by
        rw [hE] at hbad ⊢
        cases h0 : nmB f.nm with
        | false => rfl
        | true =>
          rw [h0] at hbad
          cases h' : (fs.take i).any (fun g => g.nm == f.nm) with
          | true => rfl
          | false => rw [h'] at hbad; exact absurd rfl hbad
      have hno : ((fs.take i).map Fl.nm).any (fun m => m == f.nm) = true ∨ nmB f.nm = false := by
        rw [hany]
        rw [hE] at hbad
        cases h : nmB f.nm with
        | false => exact .inr rfl
        | true =>
          left
          rw [h, if_pos rfl] at hbad
          cases h' : (fs.take i).any (fun g => g.nm == f.nm) with
          | true => rfl
          | false => rw [h', if_neg (by decide)] at hbad; exact absurd rfl hbad
      have hfin : fldsE fs = 4 := by unfold fldsE; rw [firstE_some hpre (Nat.zero_le _) (by omega) h4 (by decide), if_neg (by decide)]
      rw [hfin]
      have hT := take_no X ((fs.take i).map Fl.nm) f.nm hnl hno
      generalize (fs.take i).map Fl.nm = ns at *
      (refine LWP.seq <| LWP.region (by kernel_rfl) <| klt rfl rfl (decide_eq_true (by omega)) <| RunK.nil <| LWP.seq <| LWP.condT rfl ?_; refine LWP.skip ?_; refine LWP.seq <| LWP.block <| LWP.seq <| LWP.region (by kernel_rfl) <| K.indexX rfl rfl SliceT.h (by omega) hio .plain <| K.loadXagg rfl hX (by kernel_rfl) hsz hcells .plain <| K.alloc rfl .plain ?_; refine K.storeAll rfl rfl rfl rfl rfl rfl .plain ?_; refine RunK.nil <| LWP.seq <| LWP.region (by kernel_rfl) <| kmv rfl <| kfa rfl rfl ?_; refine kl1 rfl rfl rfl <| K.callM [(1000000, 6)] [nmBx 6 ns] (hT) rfl rfl (by exact (And.intro ⟨_, rfl, rfl⟩ trivial)) (by exact (all_cons_true rfl rfl)) rfl rfl rfl rfl (by exact (.box rfl rfl .nil)) .plain <| K.not rfl rfl .plain <| RunK.nil <| LWP.condT rfl ?_; refine LWP.seq <| LWP.region (by kernel_rfl) <| kas rfl <| RunK.nil <| LWP.ret ?_)
      exact ⟨[_], ⟨rfl, trivial⟩, rfl⟩
  · have hfin : fldsE fs = layErr fs := by unfold fldsE; rw [if_pos (firstE_none fun j h0 hj => hpre j h0 (by omega))]
    rw [hfin]
    have hL := Check_spec X fad fcap fs hF hbig
    generalize layErr fs = e at *
    (refine LWP.seq <| LWP.region (by kernel_rfl) <| klt rfl rfl (decide_eq_false (by omega)) <| RunK.nil <| LWP.seq <| LWP.condF rfl ?_; refine LWP.exit <| LWP.seq <| LWP.region (by kernel_rfl) <| kmv rfl <| kca rfl rfl (hL) <| kas rfl <| RunK.nil <| LWP.ret ?_)
    exact ⟨[_], ⟨rfl, trivial⟩, rfl⟩
theorem cmpE_flds {cs : List Cp} {i : Nat} {c : Cp} (h : cs[i]? = some c) : cmpE cs i = if c.id < 1 ∨ 24 < c.id ∨ (0 < i ∧ c.id ≤ prevId cs i) then 1
    else if nmB c.nm = true then (if (cs.take i).any (fun g => g.nm == c.nm) = true then 4 else fldsE c.fs) else 4 := cmpE_at h
set_option maxHeartbeats 3200000 in
theorem pCheckBig (s : Sc) (ad : Option Addr) (cap : Nat) (hin : CompsIn X ad s.cs) (hbig : s.cs.length < 4611686018427387904) (hN : NamesC s.cs) (e : Int) (he : chkE s = e) : PSpec Tryz.prog X 20 [Sx s.ver ad s.cs.length cap] (Ln .i64 e) := by
  subst he
  obtain ⟨ver, cs⟩ := s
  simp only at hin hbig hN ⊢
  refine PSpec.intro Tryz.func20 rfl (by kernel_rfl) rfl rfl ?_
  intro C
  unfold chkE
  by_cases hv1 : ver < 1
  · rw [if_pos (.inl hv1)]
    (refine LWP.seq <| LWP.region (by kernel_rfl) <| K.box rfl rfl rfl .plain <| kas rfl <| RunK.nil <| LWP.seq <| LWP.seq <| LWP.region (by kernel_rfl) <| kfa rfl rfl ?_; refine kl1 rfl rfl rfl <| klt rfl rfl (decide_eq_true hv1) <| kmv rfl <| RunK.passed rfl rfl rfl <| RunK.passed rfl rfl rfl <| RunK.passed rfl rfl rfl <| kpt rfl rfl <| RunK.nil <| LWP.condT rfl ?_; refine LWP.seq <| LWP.region (by kernel_rfl) <| kas rfl <| RunK.nil <| LWP.ret ?_)
    exact ⟨[_], ⟨rfl, trivial⟩, rfl⟩
  by_cases hv2 : 1073741824 < ver
  · rw [if_pos (.inr hv2)]
    (refine LWP.seq <| LWP.region (by kernel_rfl) <| K.box rfl rfl rfl .plain <| kas rfl <| RunK.nil <| LWP.seq <| LWP.seq <| LWP.region (by kernel_rfl) <| kfa rfl rfl ?_; refine kl1 rfl rfl rfl <| klt rfl rfl (decide_eq_false hv1) <| kmv rfl <| K.fieldAddr rfl rfl (.taken rfl rfl) ?_; refine K.loadOne rfl rfl rfl (.taken rfl rfl) ?_; refine K.gtr rfl rfl (decide_eq_true hv2) (.taken rfl rfl) ?_; refine kpf rfl rfl <| RunK.nil <| LWP.condT rfl ?_; refine LWP.seq <| LWP.region (by kernel_rfl) <| kas rfl <| RunK.nil <| LWP.ret ?_)
    exact ⟨[_], ⟨rfl, trivial⟩, rfl⟩
  rw [if_neg (show ¬(ver < 1 ∨ 1073741824 < ver) by omega)]
  (refine LWP.seq <| LWP.region (by kernel_rfl) <| K.box rfl rfl rfl .plain <| kas rfl <| RunK.nil <| LWP.seq <| LWP.seq <| LWP.region (by kernel_rfl) <| kfa rfl rfl ?_; refine kl1 rfl rfl rfl <| klt rfl rfl (decide_eq_false hv1) <| kmv rfl <| K.fieldAddr rfl rfl (.taken rfl rfl) ?_; refine K.loadOne rfl rfl rfl (.taken rfl rfl) ?_; refine K.gtr rfl rfl (decide_eq_false hv2) (.taken rfl rfl) ?_; refine kpf rfl rfl <| RunK.nil <| LWP.condF rfl ?_; refine LWP.skip ?_; refine LWP.seq <| LWP.region (by kernel_rfl) <| K.makeMap 9 rfl .plain ?_; refine kas rfl <| kas rfl <| RunK.nil <| LWP.seq <| LWP.seq <| LWP.region (by kernel_rfl) <| kfa rfl rfl ?_; refine kl1 rfl rfl rfl <| K.lenX rfl SliceT.h rfl .plain ?_; refine kmv rfl <| RunK.nil <| LWP.block ?_)
  refine LWP.loop (fun m σ => ∃ (i : Nat) (last : Int), i ≤ cs.length ∧ m = cs.length - i ∧ (∀ j, 0 ≤ j → j < i → cmpE cs j = 0) ∧ (∀ x : Int, x ≤ last ↔ (x < 1 ∨ (0 < i ∧ x ≤ prevId cs i))) ∧ σ = ⟨[(3, Ln .i64 last), (4, Lmp 16), (18, Lx ad cs.length cap), (19, Ln .i64 (cs.length : Nat)), (20, Ln .i64 (i : Nat))], [nmBx 16 ((cs.take i).map Cp.nm)], X⟩) cs.length
    ⟨_, Le.of (by exact ⟨rfl, rfl, rfl, rfl, rfl, trivial⟩) (by exact ⟨rfl, trivial⟩) (by exact rfl) (by exact rfl) (by repeat' (first | refine all_cons_true ?_ ?_ | rfl | exact bytes_inUse | exact vals_inUse | exact mid_inUse rfl)), 0, 0, by omega, by omega, fun j _ hj => absurd hj (by omega), fun x => by omega, rfl⟩ ?_
  rintro m σ ⟨i, last, hi, rfl, hpre, hlast, rfl⟩
  by_cases hlt : i < cs.length
  · obtain ⟨c, hc⟩ : ∃ c, cs[i]? = some c := ⟨_, List.getElem?_eq_getElem hlt⟩
    obtain ⟨blk, off, arr, el, fr, fad, fcap, rfl, hX, hsz, hcs, _, _, _, hF⟩ := hin.get hc
    have hio : off + Int.toNat (i : Int) * 3 = off + i * 3 := by simp
    have hE := cmpE_flds hc
    obtain ⟨hfb, hnl, hfn⟩ := hN c (List.mem_of_getElem? hc)
    have fin : ∀ e, cmpE cs i = e → e ≠ 0 → firstE (cmpE cs) 0 cs.length = e := fun e he h0 => firstE_some hpre (Nat.zero_le _) (by omega) he h0
    have hany := any_names Cp.nm cs i c.nm
    have hts : (cs.take (i + 1)).map Cp.nm = (cs.take i).map Cp.nm ++ [c.nm] := by rw [take_snoc hc, List.map_append]; rfl
    (refine LWP.seq <| LWP.region (by kernel_rfl) <| klt rfl rfl (decide_eq_true (by omega)) <| RunK.nil <| LWP.seq <| LWP.condT rfl ?_; refine LWP.skip ?_; refine LWP.seq <| LWP.block <| LWP.seq <| LWP.region (by kernel_rfl) <| K.indexX rfl rfl SliceT.h (by omega) hio .plain <| K.loadXagg rfl hX (by kernel_rfl) hsz hcs .plain <| K.alloc rfl .plain ?_; refine K.storeAll rfl rfl rfl rfl rfl rfl .plain ?_; refine RunK.nil <| LWP.seq <| LWP.seq ?_)
    refine LWP.le (σ' := ⟨[(3, Ln .i64 last), (4, Lmp 16), (6, Lp 6), (18, Lx (some ⟨blk, off, none⟩) cs.length cap), (19, Ln .i64 (cs.length : Nat)), (20, Ln .i64 (i : Nat))], [nmBx 16 ((cs.take i).map Cp.nm), cpB 6 c fad fcap], X⟩) (Le.of (by exact ⟨rfl, rfl, rfl, rfl, rfl, rfl, trivial⟩) (by exact ⟨rfl, rfl, trivial⟩) (by exact rfl) (by exact rfl) (by repeat' (first | refine all_cons_true ?_ ?_ | rfl | exact bytes_inUse | exact vals_inUse | exact mid_inUse rfl))) ?_
    by_cases hq1 : c.id ≤ last
    · rw [if_pos (by rcases (hlast c.id).1 hq1 with h | h; exact .inl h; exact .inr (.inr h))] at hE
      rw [fin 1 hE (by decide)]
      (refine LWP.region (by kernel_rfl) <| kfa rfl rfl ?_; refine kl1 rfl rfl rfl <| kmv rfl <| K.leq rfl rfl (decide_eq_true hq1) .plain <| kmv rfl <| RunK.passed rfl rfl rfl <| RunK.passed rfl rfl rfl <| RunK.passed rfl rfl rfl <| kpt rfl rfl <| RunK.nil <| LWP.condT rfl ?_; refine LWP.seq <| LWP.region (by kernel_rfl) <| kas rfl <| RunK.nil <| LWP.ret ?_)
      exact ⟨[_], ⟨rfl, trivial⟩, rfl⟩
    by_cases hq2 : 24 < c.id
    · rw [if_pos (.inr (.inl hq2))] at hE
      rw [fin 1 hE (by decide)]
      (refine LWP.region (by kernel_rfl) <| kfa rfl rfl ?_; refine kl1 rfl rfl rfl <| kmv rfl <| K.leq rfl rfl (decide_eq_false hq1) .plain <| kmv rfl <| K.fieldAddr rfl rfl (.taken rfl rfl) ?_; refine K.loadOne rfl rfl rfl (.taken rfl rfl) ?_; refine K.gtr rfl rfl (decide_eq_true hq2) (.taken rfl rfl) ?_; refine kpf rfl rfl <| RunK.nil <| LWP.condT rfl ?_; refine LWP.seq <| LWP.region (by kernel_rfl) <| kas rfl <| RunK.nil <| LWP.ret ?_)
      exact ⟨[_], ⟨rfl, trivial⟩, rfl⟩
    have hq3 : ¬(c.id < 1 ∨ (0 < i ∧ c.id ≤ prevId cs i)) := fun h => hq1 ((hlast c.id).2 h)
    rw [if_neg (show ¬(c.id < 1 ∨ 24 < c.id ∨ (0 < i ∧ c.id ≤ prevId cs i)) from fun h => by rcases h with h | h | h; exact hq3 (.inl h); exact hq2 h; exact hq3 (.inr h))] at hE
    by_cases hno : ((cs.take i).map Cp.nm).any (fun m => m == c.nm) = true ∨ nmB c.nm = false
    · have h4 : cmpE cs i = 4 := by
        rw [hE]
        rw [hany] at hno
        rcases hno with h | h
        · rw [h]; simp
        · rw [h]; simp
      rw [fin 4 h4 (by decide)]
      have hT := take_no X ((cs.take i).map Cp.nm) c.nm hnl hno
      generalize (cs.take i).map Cp.nm = ns at *
      (refine LWP.region (by kernel_rfl) <| kfa rfl rfl ?_; refine kl1 rfl rfl rfl <| kmv rfl <| K.leq rfl rfl (decide_eq_false hq1) .plain <| kmv rfl <| K.fieldAddr rfl rfl (.taken rfl rfl) ?_; refine K.loadOne rfl rfl rfl (.taken rfl rfl) ?_; refine K.gtr rfl rfl (decide_eq_false hq2) (.taken rfl rfl) ?_; refine kpf rfl rfl <| RunK.nil <| LWP.condF rfl ?_; refine LWP.skip ?_; refine LWP.seq <| LWP.region (by kernel_rfl) <| kfa rfl rfl ?_; refine kl1 rfl rfl rfl <| kas rfl <| RunK.nil <| LWP.seq <| LWP.seq <| LWP.region (by kernel_rfl) <| kmv rfl <| kfa rfl rfl ?_; refine kl1 rfl rfl rfl <| K.callM [(1000000, 16)] [nmBx 16 ns] (hT) rfl rfl (by exact (And.intro ⟨_, rfl, rfl⟩ trivial)) (by exact (all_cons_true rfl rfl)) rfl rfl rfl rfl (by exact (.box rfl rfl .nil)) .plain <| K.not rfl rfl .plain <| RunK.nil <| LWP.condT rfl ?_; refine LWP.seq <| LWP.region (by kernel_rfl) <| kas rfl <| RunK.nil <| LWP.ret ?_)
      exact ⟨[_], ⟨rfl, trivial⟩, rfl⟩
    have h1 : ((cs.take i).map Cp.nm).any (fun m => m == c.nm) = false := by
      cases h : ((cs.take i).map Cp.nm).any (fun m => m == c.nm) with
      | false => rfl
      | true => exact absurd (.inl h) hno
    have h2 : nmB c.nm = true := by
      cases h : nmB c.nm with
      | true => rfl
      | false => exact absurd (.inr h) hno
    rw [if_pos h2, ← hany, h1, if_neg (by decide)] at hE
    have hT := take_ok X ((cs.take i).map Cp.nm) c.nm hnl h1 h2
    rw [← hts] at hT
    have hCF := checkFields_spec X fad fcap c.fs hF hfb hfn (fldsE c.fs) rfl
    generalize (cs.take i).map Cp.nm = ns at *
    generalize hns : (cs.take (i + 1)).map Cp.nm = ns' at *
    by_cases hz : fldsE c.fs = 0
    · rw [hz] at hCF hE
      (refine LWP.region (by kernel_rfl) <| kfa rfl rfl ?_; refine kl1 rfl rfl rfl <| kmv rfl <| K.leq rfl rfl (decide_eq_false hq1) .plain <| kmv rfl <| K.fieldAddr rfl rfl (.taken rfl rfl) ?_; refine K.loadOne rfl rfl rfl (.taken rfl rfl) ?_; refine K.gtr rfl rfl (decide_eq_false hq2) (.taken rfl rfl) ?_; refine kpf rfl rfl <| RunK.nil <| LWP.condF rfl ?_; refine LWP.skip ?_; refine LWP.seq <| LWP.region (by kernel_rfl) <| kfa rfl rfl ?_; refine kl1 rfl rfl rfl <| kas rfl <| RunK.nil <| LWP.seq <| LWP.seq <| LWP.region (by kernel_rfl) <| kmv rfl <| kfa rfl rfl ?_; refine kl1 rfl rfl rfl <| K.callM [(1000000, 16)] [nmBx 16 ns'] (hT) rfl rfl (by exact (And.intro ⟨_, rfl, rfl⟩ trivial)) (by exact (all_cons_true rfl rfl)) rfl rfl rfl rfl (by exact (.box rfl rfl .nil)) .plain <| K.not rfl rfl .plain <| RunK.nil <| LWP.condF rfl ?_; refine LWP.skip ?_; refine LWP.seq <| LWP.region (by kernel_rfl) <| kfa rfl rfl ?_; refine kl1 rfl rfl rfl <| kca rfl rfl (hCF) <| kas rfl <| RunK.nil <| LWP.seq <| LWP.region (by kernel_rfl) <| kmv rfl <| kne rfl rfl ((bne_eq_false_iff_eq.2 (by omega))) <| RunK.nil <| LWP.condF rfl ?_; refine LWP.skip ?_; refine LWP.region (by kernel_rfl) <| kad rfl rfl (wrap_i64 (by omega)) <| kmv rfl <| RunK.nil ?_)
      subst hns
      exact ⟨_, _, by omega, Le.of (by exact ⟨rfl, rfl, rfl, rfl, rfl, trivial⟩) (by exact ⟨rfl, trivial⟩) (by exact rfl) (by exact rfl) (by repeat' (first | refine all_cons_true ?_ ?_ | rfl | exact bytes_inUse | exact vals_inUse | exact mid_inUse rfl)), i + 1, c.id, by omega, rfl, (fun j h0 hj => by
        by_cases e : j = i
        · rw [e]; exact hE
        · exact hpre j h0 (by omega)), (fun x => by
        have hp : prevId cs (i + 1) = c.id := by unfold prevId; rw [Nat.add_sub_cancel, hc]; rfl
        rw [hp]; omega), rfl⟩
    · rw [fin _ hE hz]
      have hne : (fldsE c.fs != 0) = true := by rw [bne_iff_ne]; exact hz
      generalize fldsE c.fs = e at *
      (refine LWP.region (by kernel_rfl) <| kfa rfl rfl ?_; refine kl1 rfl rfl rfl <| kmv rfl <| K.leq rfl rfl (decide_eq_false hq1) .plain <| kmv rfl <| K.fieldAddr rfl rfl (.taken rfl rfl) ?_; refine K.loadOne rfl rfl rfl (.taken rfl rfl) ?_; refine K.gtr rfl rfl (decide_eq_false hq2) (.taken rfl rfl) ?_; refine kpf rfl rfl <| RunK.nil <| LWP.condF rfl ?_; refine LWP.skip ?_; refine LWP.seq <| LWP.region (by kernel_rfl) <| kfa rfl rfl ?_; refine kl1 rfl rfl rfl <| kas rfl <| RunK.nil <| LWP.seq <| LWP.seq <| LWP.region (by kernel_rfl) <| kmv rfl <| kfa rfl rfl ?_; refine kl1 rfl rfl rfl <| K.callM [(1000000, 16)] [nmBx 16 ns'] (hT) rfl rfl (by exact (And.intro ⟨_, rfl, rfl⟩ trivial)) (by exact (all_cons_true rfl rfl)) rfl rfl rfl rfl (by exact (.box rfl rfl .nil)) .plain <| K.not rfl rfl .plain <| RunK.nil <| LWP.condF rfl ?_; refine LWP.skip ?_; refine LWP.seq <| LWP.region (by kernel_rfl) <| kfa rfl rfl ?_; refine kl1 rfl rfl rfl <| kca rfl rfl (hCF) <| kas rfl <| RunK.nil <| LWP.seq <| LWP.region (by kernel_rfl) <| kmv rfl <| kne rfl rfl hne <| RunK.nil <| LWP.condT rfl ?_; refine LWP.seq <| LWP.region (by kernel_rfl) <| kmv rfl <| kas rfl <| RunK.nil <| LWP.ret ?_)
      exact ⟨[_], ⟨rfl, trivial⟩, rfl⟩
  · rw [show firstE (cmpE cs) 0 cs.length = 0 from firstE_none fun j h0 hj => hpre j h0 (by omega)]
    (refine LWP.seq <| LWP.region (by kernel_rfl) <| klt rfl rfl (decide_eq_false (by omega)) <| RunK.nil <| LWP.seq <| LWP.condF rfl ?_; refine LWP.exit <| LWP.seq <| LWP.region (by kernel_rfl) <| kas rfl <| RunK.nil <| LWP.ret ?_)
    exact ⟨[_], ⟨rfl, trivial⟩, rfl⟩
end Go.Proofs.YtnomcmklhbjfjaaGreatDoor
end
section
namespace Go.Lg.Fld
open Go Go.Lg
theorem fields_reads {X : Nat → Option Obj} {ad : Option Addr} {fs : List Fl} (h : FieldsIn X ad fs) : ReadsX X ad (flV fs) := ⟨fun j u hj => by
  have hjl := (List.getElem?_eq_some_iff.1 hj).1
  rw [flV_len] at hjl
  obtain ⟨f, hf⟩ : ∃ f, fs[j / 3]? = some f := ⟨_, List.getElem?_eq_getElem (by omega)⟩
  obtain ⟨blk, off, arr, el, fr, rfl, hX, hsz, hcs⟩ := h.rows (j / 3) f.vals (by rw [List.getElem?_map, hf]; rfl)
  refine ⟨blk, off, arr, el, fr, rfl, hX, ?_⟩
  obtain ⟨h1, h2⟩ := flV_at hf
  have h3 : ((flV fs).drop (j / 3 * 3)).take 3 = (arr.toList.drop (off + j / 3 * 3)).take 3 := by rw [h2, hcs]
  have h4 : (((flV fs).drop (j / 3 * 3)).take 3)[j % 3]? = ((arr.toList.drop (off + j / 3 * 3)).take 3)[j % 3]? := by rw [h3]
  rw [List.getElem?_take, List.getElem?_take, if_pos (Nat.mod_lt _ (by omega)), if_pos (Nat.mod_lt _ (by omega)), List.getElem?_drop, List.getElem?_drop, show j / 3 * 3 + j % 3 = j by omega, show off + j / 3 * 3 + j % 3 = off + j by omega, hj, Array.getElem?_toList] at h4
  exact h4.symm⟩
theorem flV_one (fs : List Fl) : ∀ u ∈ flV fs, u.oneCell' = true := fun u hu => by
  unfold flV at hu
  rw [List.mem_flatten] at hu
  obtain ⟨l, hl, hu⟩ := hu
  obtain ⟨f, _, rfl⟩ := List.mem_map.1 hl
  simp only [Fl.vals, List.mem_cons, List.not_mem_nil, or_false] at hu
  rcases hu with rfl | rfl | rfl <;> rfl
theorem FieldsIn.none {X : Nat → Option Obj} {fs : List Fl} (h : FieldsIn X none fs) : fs = [] := by
  cases hfs : fs with
  | nil => rfl
  | cons f t =>
    obtain ⟨_, _, _, _, _, e, _⟩ := h.nm (k := 0) (f := f) (by rw [hfs]; rfl)
    cases e
end Go.Lg.Fld
namespace Go.Proofs.YtnomcmklhbjfjaaGreatDoor
open Go Go.Lg Go.Lg.Fld
set_option maxRecDepth 100000
abbrev SCx (c : Cp) (fad : Option Addr) (fcap : Nat) : SV := .agg [.val (.int .i64 c.id), .val (.string ⟨c.nm.toArray⟩), .val (.slice fad c.fs.length fcap)]
abbrev SC0 : SV := .agg [.val (.int .i64 0), .val (.string ⟨#[]⟩), .val (.slice none 0 0)]
abbrev SCs (c : Cp) (k : Nat) : SV := .agg [.val (.int .i64 c.id), .val (.string ⟨c.nm.toArray⟩), .slc k 0 c.fs.length 3]
abbrev fdB (k : Nat) (fs : List Fl) : Nat × Option Box := (k, some ⟨57, (flV fs).map .val, true⟩)
abbrev Lf (f : FuncId) (caps : List Value) : LV := .sv (.one (.val (.func (.func f) #[] caps.toArray)))
abbrev Fx (f : Fl) : LV := .sv (.agg (f.vals.map CV.val))
variable (X : Nat → Option Obj)
theorem idxC_spec (ad : Option Addr) (cap : Nat) (cs : List Cp) (hin : CompsIn X ad cs) (hbig : cs.length < 4611686018427387904) (f : FuncId) (caps : List Value) (p : Cp → Bool)
    (hp : ∀ c ∈ cs, ∀ fad fcap, PSpec Tryz.prog X f ([Cx c fad fcap] ++ caps.map fun v => .sv (.one (.val v))) (Lb (p c))) :
    PSpec Tryz.prog X 88 [Lx ad cs.length cap, Lf f caps] (Ln .i64 (findI p cs)) := by
  refine PSpec.intro Tryz.func88 rfl (by kernel_rfl) rfl rfl ?_
  intro C
  (refine LWP.seq <| LWP.region (by kernel_rfl) <| kas rfl <| RunK.nil <| LWP.seq <| LWP.seq <| LWP.region (by kernel_rfl) <| kmv rfl <| K.lenX rfl SliceT.h rfl .plain ?_; refine kmv rfl <| RunK.nil <| LWP.block ?_)
  refine LWP.loop (fun m σ => ∃ i : Nat, i ≤ cs.length ∧ m = cs.length - i ∧ (∀ (j : Nat) (y : Cp), j < i → cs[j]? = some y → p y = false) ∧ σ = ⟨[(0, Lx ad cs.length cap), (1, Lf f caps), (7, Ln .i64 (cs.length : Nat)), (8, Ln .i64 (i : Nat))], [], X⟩) cs.length
    ⟨_, Le.of (by exact ⟨rfl, rfl, rfl, rfl, trivial⟩) (by exact trivial) (by exact rfl) (by exact rfl) (by exact rfl), 0, by omega, by omega, fun j y hj => absurd hj (by omega), rfl⟩ ?_
  rintro m σ ⟨i, hi, rfl, hpre, rfl⟩
  by_cases hlt : i < cs.length
  · obtain ⟨c, hc⟩ : ∃ c, cs[i]? = some c := ⟨_, List.getElem?_eq_getElem hlt⟩
    obtain ⟨blk, off, arr, el, fr, fad, fcap, rfl, hX, hsz, hcs, _, _, _, hF⟩ := hin.get hc
    have hio : off + Int.toNat (i : Int) * 3 = off + i * 3 := by simp
    have hP := hp c (List.mem_of_getElem? hc) fad fcap
    cases hpc : p c with
    | true =>
      rw [hpc] at hP
      rw [findI_some hpre hc hpc]
      (refine LWP.seq <| LWP.region (by kernel_rfl) <| klt rfl rfl (decide_eq_true (by omega)) <| RunK.nil <| LWP.seq <| LWP.condT rfl ?_; refine LWP.skip ?_; refine LWP.seq <| LWP.block <| LWP.seq <| LWP.region (by kernel_rfl) <| kmv rfl <| kas rfl <| RunK.nil <| LWP.seq <| LWP.region (by kernel_rfl) <| kmv rfl <| kmv rfl <| kmv rfl <| K.indexX rfl rfl SliceT.h (by omega) hio .plain <| K.loadXagg rfl hX (by kernel_rfl) hsz hcs .plain ?_; refine K.callF rfl rfl rfl hP .plain ?_; refine RunK.nil <| LWP.condT rfl ?_; refine LWP.seq <| LWP.region (by kernel_rfl) <| kmv rfl <| kas rfl <| RunK.nil <| LWP.ret ?_)
      exact ⟨[_], ⟨rfl, trivial⟩, rfl⟩
    | false =>
      rw [hpc] at hP
      (refine LWP.seq <| LWP.region (by kernel_rfl) <| klt rfl rfl (decide_eq_true (by omega)) <| RunK.nil <| LWP.seq <| LWP.condT rfl ?_; refine LWP.skip ?_; refine LWP.seq <| LWP.block <| LWP.seq <| LWP.region (by kernel_rfl) <| kmv rfl <| kas rfl <| RunK.nil <| LWP.seq <| LWP.region (by kernel_rfl) <| kmv rfl <| kmv rfl <| kmv rfl <| K.indexX rfl rfl SliceT.h (by omega) hio .plain <| K.loadXagg rfl hX (by kernel_rfl) hsz hcs .plain ?_; refine K.callF rfl rfl rfl hP .plain ?_; refine RunK.nil <| LWP.condF rfl ?_; refine LWP.skip ?_; refine LWP.region (by kernel_rfl) <| kad rfl rfl (wrap_i64 (by omega)) <| kmv rfl <| RunK.nil ?_)
      exact ⟨_, _, by omega, Le.of (by exact ⟨rfl, rfl, rfl, rfl, trivial⟩) (by exact trivial) (by exact rfl) (by exact rfl) (by exact rfl), i + 1, by omega, rfl, (fun j y hj hy => by
        by_cases e : j = i
        · subst e; rw [hc] at hy; cases hy; exact hpc
        · exact hpre j y (by omega) hy), rfl⟩
  · rw [findI_none fun j y hy => hpre j y (by have := (List.getElem?_eq_some_iff.1 hy).1; omega) hy]
    (refine LWP.seq <| LWP.region (by kernel_rfl) <| klt rfl rfl (decide_eq_false (by omega)) <| RunK.nil <| LWP.seq <| LWP.condF rfl ?_; refine LWP.exit <| LWP.seq <| LWP.region (by kernel_rfl) <| kas rfl <| RunK.nil <| LWP.ret ?_)
    exact ⟨[_], ⟨rfl, trivial⟩, rfl⟩
abbrev Vp (b : Nat) : LV := .sv (.one (.val (.pointer (some ⟨b, 0, none⟩))))
theorem find1_spec (c : Cp) (fad : Option Addr) (fcap : Nat) (id : Int) {b : Nat} {arr : Array Value} {el : TypeId} {fr : Nat × Nat} (hX : X b = some (.cells arr el fr)) (h0 : arr[0]? = some (.int .i64 id)) :
    PSpec Tryz.prog X 75 [Cx c fad fcap, Vp b] (Lb (c.id == id)) := by
  refine PSpec.intro Tryz.func75 rfl (by kernel_rfl) rfl rfl ?_
  intro C
  (refine LWP.seq <| LWP.region (by kernel_rfl) <| K.box rfl rfl rfl .plain <| kas rfl <| RunK.nil <| LWP.seq <| LWP.region (by kernel_rfl) <| kfa rfl rfl ?_; refine kl1 rfl rfl rfl <| K.loadX rfl hX rfl h0 .plain <| keq rfl rfl rfl <| kas rfl <| RunK.nil <| LWP.ret ?_)
  exact ⟨[_], ⟨rfl, trivial⟩, rfl⟩
theorem fclone_nil (cap : Nat) : PSpec Tryz.prog X 97 [Lx none 0 cap] (Lx none 0 0) := by
  refine PSpec.intro Tryz.func97 rfl (by kernel_rfl) rfl rfl ?_
  intro C
  (refine LWP.seq <| LWP.region (by kernel_rfl) <| kas rfl <| RunK.nil <| LWP.seq <| LWP.seq <| LWP.region (by kernel_rfl) <| kmv rfl <| K.slcNil (r := true) rfl SliceT.h (.inl ⟨rfl, rfl⟩) .plain ?_; refine RunK.nil <| LWP.condT rfl ?_; refine LWP.seq <| LWP.region (by kernel_rfl) <| kas rfl <| RunK.nil <| LWP.ret ?_)
  exact ⟨[_], ⟨rfl, trivial⟩, rfl⟩
theorem fclone_some (fa : Addr) (cap : Nat) (fs : List Fl) (hF : FieldsIn X (some fa) fs) (hb : fs.length ≤ 65536) :
    MSpec Tryz.prog X 97 [Lx (some fa) fs.length cap] [] (.sv (.one (.slc 1000001 0 fs.length 3))) [fdB 1000001 fs] := by
  refine MSpec.intro Tryz.func97 rfl (by kernel_rfl) rfl rfl (by exact (by repeat' (first | refine all_cons_true ?_ ?_ | rfl | exact bytes_inUse | exact vals_inUse | exact mid_inUse rfl))) rfl rfl ?_
  intro C
  (refine LWP.seq <| LWP.region (by kernel_rfl) <| kas rfl <| RunK.nil <| LWP.seq <| LWP.seq <| LWP.region (by kernel_rfl) <| kmv rfl <| K.slcNil (r := false) rfl SliceT.h (.inl ⟨rfl, rfl⟩) .plain ?_; refine RunK.nil <| LWP.condF rfl ?_; refine LWP.skip ?_; refine LWP.seq <| LWP.region (by kernel_rfl) <| K.buildSlc (zs := []) (sz := 3) (e := 57) (by kernel_rfl) rfl rfl rfl rfl rfl rfl .plain <| kmv rfl <| K.appendX (by_ := 32) (e2 := 57) (news := flV fs) (nl := fs.length) (nc := (flV fs).map .val) rfl rfl rfl rfl (fields_reads hF) (flV_len fs) (flV_one fs) (by kernel_rfl) (by kernel_rfl) (by omega) (by omega) rfl (by omega) rfl .plain ?_; refine kas rfl <| RunK.nil <| LWP.ret ?_)
  exact ⟨[(1000001, 7)], ⟨[_], ⟨rfl, trivial⟩, rfl⟩, (by repeat' (first | exact trivial | refine And.intro ⟨_, rfl, ?_⟩ ?_ | refine And.intro ⟨_, rfl⟩ ?_ | rfl | exact Box.ren_bytes _ _ _ _ | exact Box.ren_vals _ _ _ _ | exact Box.ren_mid rfl)), rfl, rfl⟩
theorem cclone_nil (c : Cp) (cap : Nat) (h : c.fs = []) : PSpec Tryz.prog X 89 [Cx c none cap] (.sv (SCx c none 0)) := by
  refine PSpec.intro Tryz.func89 rfl (by kernel_rfl) rfl rfl ?_
  intro C
  have hq := fclone_nil X cap
  obtain ⟨id, nm, fs⟩ := c
  simp only at h
  subst h
  (refine LWP.seq <| LWP.region (by kernel_rfl) <| K.box rfl rfl rfl .plain <| K.alloc rfl .plain ?_; refine RunK.nil <| LWP.seq <| LWP.region (by kernel_rfl) <| kfa rfl rfl ?_; refine kl1 rfl rfl rfl <| kca rfl rfl hq <| kfa rfl rfl ?_; refine K.storeOne rfl rfl rfl rfl rfl (nl3 rfl rfl rfl rfl) .plain <| RunK.nil <| LWP.seq <| LWP.region (by kernel_rfl) <| K.loadAll rfl rfl rfl .plain ?_; refine K.storeAll rfl rfl rfl rfl rfl rfl .plain ?_; refine RunK.nil <| LWP.ret ?_)
  exact ⟨[_], ⟨⟨_, _, rfl, rfl, rfl, .inl ⟨AggT.h, rfl⟩⟩, trivial⟩, rfl⟩
theorem cclone_some (c : Cp) (fa : Addr) (cap : Nat) (hF : FieldsIn X (some fa) c.fs) (hb : c.fs.length ≤ 65536) :
    MSpec Tryz.prog X 89 [Cx c (some fa) cap] [] (.sv (SCs c 1000001)) [fdB 1000001 c.fs] := by
  refine MSpec.intro Tryz.func89 rfl (by kernel_rfl) rfl rfl (by exact (by repeat' (first | refine all_cons_true ?_ ?_ | rfl | exact bytes_inUse | exact vals_inUse | exact mid_inUse rfl))) rfl rfl ?_
  intro C
  have hq := fclone_some X fa cap c.fs hF hb
  (refine LWP.seq <| LWP.region (by kernel_rfl) <| K.box rfl rfl rfl .plain <| K.alloc rfl .plain ?_; refine RunK.nil <| LWP.seq <| LWP.region (by kernel_rfl) <| kfa rfl rfl ?_; refine kl1 rfl rfl rfl <| K.callMp [(1000001, 20)] (.sv (.one (.slc 20 0 c.fs.length 3))) [fdB 20 c.fs] (hq) rfl rfl (by exact trivial) rfl rfl rfl rfl rfl (by exact (.box rfl (Box.ren_vals _ _ _ _) .nil)) .plain <| kfa rfl rfl ?_; refine K.storeOne rfl rfl rfl rfl rfl (nl3 rfl rfl rfl rfl) .plain <| RunK.nil <| LWP.seq <| LWP.region (by kernel_rfl) <| K.loadAll rfl rfl rfl .plain ?_; refine K.storeAll rfl rfl rfl rfl rfl rfl .plain ?_; refine RunK.nil <| LWP.ret ?_)
  exact ⟨[(1000001, 20)], ⟨[_], ⟨⟨_, _, rfl, rfl, rfl, .inl ⟨AggT.h, rfl⟩⟩, trivial⟩, rfl⟩, (by repeat' (first | exact trivial | refine And.intro ⟨_, rfl, ?_⟩ ?_ | refine And.intro ⟨_, rfl⟩ ?_ | rfl | exact Box.ren_bytes _ _ _ _ | exact Box.ren_vals _ _ _ _ | exact Box.ren_mid rfl)), rfl, rfl⟩
section
variable (ver : Int) (ad : Option Addr) (cap : Nat) (cs : List Cp) (f : FuncId) (caps : List Value) (p : Cp → Bool)
theorem first_no (hin : CompsIn X ad cs) (hbig : cs.length < 4611686018427387904) (hp : ∀ c ∈ cs, ∀ fad fcap, PSpec Tryz.prog X f ([Cx c fad fcap] ++ caps.map fun v => .sv (.one (.val v))) (Lb (p c))) (hno : findI p cs = -1) :
    PSpec Tryz.prog X 74 [Sx ver ad cs.length cap, Lf f caps] (.tup [SC0, Sb false]) := by
  refine PSpec.intro Tryz.func74 rfl (by kernel_rfl) rfl rfl ?_
  intro C
  have hI := idxC_spec X ad cap cs hin hbig f caps p hp
  rw [hno] at hI
  (refine LWP.seq <| LWP.region (by kernel_rfl) <| K.box rfl rfl rfl .plain <| K.alloc rfl .plain ?_; refine kas rfl <| RunK.nil <| LWP.seq <| LWP.region (by kernel_rfl) <| kfa rfl rfl ?_; refine kl1 rfl rfl rfl <| kmv rfl <| kca rfl rfl hI <| kas rfl <| RunK.nil <| LWP.seq <| LWP.seq <| LWP.region (by kernel_rfl) <| kmv rfl <| klt rfl rfl rfl <| RunK.nil <| LWP.condT rfl ?_; refine LWP.seq <| LWP.region (by kernel_rfl) <| K.build rfl rfl (by exact rfl) (by exact nl3 rfl rfl rfl rfl) .plain ?_; refine K.storeAll rfl rfl rfl rfl rfl rfl .plain ?_; refine kas rfl <| RunK.nil <| LWP.ret ?_)
  exact ⟨[_, _], ⟨⟨_, _, rfl, rfl, rfl, .inl ⟨AggT.h, rfl⟩⟩, rfl, trivial⟩, rfl⟩
theorem first_nil (hin : CompsIn X ad cs) (hbig : cs.length < 4611686018427387904) (hp : ∀ c ∈ cs, ∀ fad fcap, PSpec Tryz.prog X f ([Cx c fad fcap] ++ caps.map fun v => .sv (.one (.val v))) (Lb (p c)))
    {i : Nat} {c : Cp} (hpre : ∀ (j : Nat) (y : Cp), j < i → cs[j]? = some y → p y = false) (hc : cs[i]? = some c) (he : p c = true)
    {blk off : Nat} {arr : Array Value} {el : TypeId} {fr : Nat × Nat} {fcap : Nat} (had : ad = some ⟨blk, off, none⟩) (hX : X blk = some (.cells arr el fr)) (hsz : off + i * 3 + 3 ≤ arr.size) (hcs : ((arr.toList.drop (off + i * 3)).take 3).map CV.val = [.val (.int .i64 c.id), .val (.string ⟨c.nm.toArray⟩), .val (.slice none c.fs.length fcap)]) (h0 : c.fs = []) :
    PSpec Tryz.prog X 74 [Sx ver ad cs.length cap, Lf f caps] (.tup [SCx c none 0, Sb true]) := by
  subst had
  have hI := idxC_spec X _ cap cs hin hbig f caps p hp
  rw [findI_some hpre hc he] at hI
  have hi := (List.getElem?_eq_some_iff.1 hc).1
  have hio : off + Int.toNat (i : Int) * 3 = off + i * 3 := by simp
  refine PSpec.intro Tryz.func74 rfl (by kernel_rfl) rfl rfl ?_
  intro C
  have hq := cclone_nil X c fcap h0
  (refine LWP.seq <| LWP.region (by kernel_rfl) <| K.box rfl rfl rfl .plain <| K.alloc rfl .plain ?_; refine kas rfl <| RunK.nil <| LWP.seq <| LWP.region (by kernel_rfl) <| kfa rfl rfl ?_; refine kl1 rfl rfl rfl <| kmv rfl <| kca rfl rfl hI <| kas rfl <| RunK.nil <| LWP.seq <| LWP.seq <| LWP.region (by kernel_rfl) <| kmv rfl <| klt rfl rfl (decide_eq_false (by omega)) <| RunK.nil <| LWP.condF rfl ?_; refine LWP.skip ?_; refine LWP.seq <| LWP.region (by kernel_rfl) <| kfa rfl rfl ?_; refine kl1 rfl rfl rfl <| kmv rfl <| K.indexX rfl rfl SliceT.h (by omega) hio .plain <| K.loadXagg rfl hX (by kernel_rfl) hsz hcs .plain <| kca rfl rfl hq <| K.storeAll rfl rfl rfl rfl rfl rfl .plain ?_; refine kas rfl <| RunK.nil <| LWP.ret ?_)
  exact ⟨[_, _], ⟨⟨_, _, rfl, rfl, rfl, .inl ⟨AggT.h, rfl⟩⟩, rfl, trivial⟩, rfl⟩
theorem first_box (hin : CompsIn X ad cs) (hbig : cs.length < 4611686018427387904) (hp : ∀ c ∈ cs, ∀ fad fcap, PSpec Tryz.prog X f ([Cx c fad fcap] ++ caps.map fun v => .sv (.one (.val v))) (Lb (p c)))
    {i : Nat} {c : Cp} (hpre : ∀ (j : Nat) (y : Cp), j < i → cs[j]? = some y → p y = false) (hc : cs[i]? = some c) (he : p c = true)
    {blk off : Nat} {arr : Array Value} {el : TypeId} {fr : Nat × Nat} {fcap : Nat} {fa : Addr} (had : ad = some ⟨blk, off, none⟩) (hX : X blk = some (.cells arr el fr)) (hsz : off + i * 3 + 3 ≤ arr.size) (hcs : ((arr.toList.drop (off + i * 3)).take 3).map CV.val = [.val (.int .i64 c.id), .val (.string ⟨c.nm.toArray⟩), .val (.slice (some fa) c.fs.length fcap)]) (hF : FieldsIn X (some fa) c.fs) (hfb : c.fs.length ≤ 65536) :
    MSpec Tryz.prog X 74 [Sx ver ad cs.length cap, Lf f caps] [] (.tup [SCs c 1000001, Sb true]) [fdB 1000001 c.fs] := by
  subst had
  have hI := idxC_spec X _ cap cs hin hbig f caps p hp
  rw [findI_some hpre hc he] at hI
  have hi := (List.getElem?_eq_some_iff.1 hc).1
  have hio : off + Int.toNat (i : Int) * 3 = off + i * 3 := by simp
  refine MSpec.intro Tryz.func74 rfl (by kernel_rfl) rfl rfl (by exact (by repeat' (first | refine all_cons_true ?_ ?_ | rfl | exact bytes_inUse | exact vals_inUse | exact mid_inUse rfl))) rfl rfl ?_
  intro C
  have hq := cclone_some X c fa fcap hF hfb
  (refine LWP.seq <| LWP.region (by kernel_rfl) <| K.box rfl rfl rfl .plain <| K.alloc rfl .plain ?_; refine kas rfl <| RunK.nil <| LWP.seq <| LWP.region (by kernel_rfl) <| kfa rfl rfl ?_; refine kl1 rfl rfl rfl <| kmv rfl <| kca rfl rfl hI <| kas rfl <| RunK.nil <| LWP.seq <| LWP.seq <| LWP.region (by kernel_rfl) <| kmv rfl <| klt rfl rfl (decide_eq_false (by omega)) <| RunK.nil <| LWP.condF rfl ?_; refine LWP.skip ?_; refine LWP.seq <| LWP.region (by kernel_rfl) <| kfa rfl rfl ?_; refine kl1 rfl rfl rfl <| kmv rfl <| K.indexX rfl rfl SliceT.h (by omega) hio .plain <| K.loadXagg rfl hX (by kernel_rfl) hsz hcs .plain <| K.callMp [(1000001, 20)] (.sv (SCs c 20)) [fdB 20 c.fs] (hq) rfl rfl (by exact trivial) rfl rfl rfl rfl rfl (by exact (.box rfl (Box.ren_vals _ _ _ _) .nil)) .plain <| K.storeAll rfl rfl rfl rfl rfl rfl .plain ?_; refine kas rfl <| RunK.nil <| LWP.ret ?_)
  exact ⟨[(1000001, 20)], ⟨[_, _], ⟨⟨_, _, rfl, rfl, rfl, .inl ⟨AggT.h, rfl⟩⟩, rfl, trivial⟩, rfl⟩, (by repeat' (first | exact trivial | refine And.intro ⟨_, rfl, ?_⟩ ?_ | refine And.intro ⟨_, rfl⟩ ?_ | rfl | exact Box.ren_bytes _ _ _ _ | exact Box.ren_vals _ _ _ _ | exact Box.ren_mid rfl)), rfl, rfl⟩
end
theorem at_zero {arr : Array Value} {v : Value} (h : ∃ sp, arr.toList = [v] ++ sp) : arr[0]? = some v := by
  obtain ⟨sp, h⟩ := h
  rw [← Array.getElem?_toList, h]; rfl
theorem pFind_no (ver : Int) (ad : Option Addr) (cap : Nat) (cs : List Cp) (id : Int) (hin : CompsIn X ad cs) (hbig : cs.length < 4611686018427387904) (hno : ∀ (j : Nat) (y : Cp), cs[j]? = some y → (y.id == id) = false) :
    PSpec Tryz.prog X 62 [Sx ver ad cs.length cap, Ln .i64 id] (.tup [SC0, Sb false]) := by
  refine PSpec.intro Tryz.func62 rfl (by kernel_rfl) rfl rfl ?_
  intro C
  (refine LWP.seq <| LWP.region (by kernel_rfl) <| K.box rfl rfl rfl .plain <| K.box1 rfl rfl rfl .plain <| K.alloc rfl .plain ?_; refine kas rfl <| RunK.nil <| LWP.seq ?_)
  refine LWP.le (σ' := ⟨[(3, Lp 3), (2, Lp 2), (4, Lp 4)], [(3, some ⟨3, [Value.int .i64 id].map .val, false⟩), sxB 2 ver ad cs.length cap, (4, some ⟨60, [.val (.int .i64 0), .val (.string ⟨#[]⟩), .val (.slice none 0 0)], false⟩)], X⟩) (Le.of (by exact ⟨rfl, rfl, rfl, trivial⟩) (by exact ⟨rfl, rfl, rfl, trivial⟩) (by exact rfl) (by exact rfl) (by repeat' (first | refine all_cons_true ?_ ?_ | rfl | exact bytes_inUse | exact vals_inUse | exact mid_inUse rfl))) ?_
  refine LWP.freezePtr (by rfl) (by rfl) (by rfl) fun b arr0 fr0 hn _ h0 => ?_
  have hin' := hin.mono (withBlock_old (o := .cells arr0 3 fr0) hn)
  have hp := fun (c : Cp) (_ : c ∈ cs) (fad : Option Addr) (fcap : Nat) => find1_spec _ c fad fcap id (withBlock_at X b (.cells arr0 3 fr0)) (at_zero h0)
  have hq := first_no _ ver ad cap cs 75 [.pointer (some ⟨b, 0, none⟩)] (fun c => c.id == id) hin' hbig hp (findI_none hno)
  (refine LWP.region (by kernel_rfl) <| K.loadAll rfl rfl rfl .plain ?_; refine K.makeFunc rfl rfl .plain ?_; refine kca rfl rfl hq <| kex rfl rfl <| kex rfl rfl <| K.storeAll rfl rfl rfl rfl rfl rfl .plain ?_; refine kas rfl <| RunK.nil <| LWP.ret ?_)
  exact ⟨[_, _], ⟨⟨_, _, rfl, rfl, rfl, .inl ⟨AggT.h, rfl⟩⟩, rfl, trivial⟩, rfl⟩
theorem pFind (ver : Int) (ad : Option Addr) (cap : Nat) (cs : List Cp) (id : Int) (hin : CompsIn X ad cs) (hbig : cs.length < 4611686018427387904) (hfs : ∀ c ∈ cs, c.fs.length ≤ 65536) {i : Nat} {c : Cp} (hpre : ∀ (j : Nat) (y : Cp), j < i → cs[j]? = some y → (y.id == id) = false) (hc : cs[i]? = some c) (he : c.id = id) :
    (c.fs = [] ∧ PSpec Tryz.prog X 62 [Sx ver ad cs.length cap, Ln .i64 id] (.tup [SCx c none 0, Sb true])) ∨
      MSpec Tryz.prog X 62 [Sx ver ad cs.length cap, Ln .i64 id] [] (.tup [SCs c 1000001, Sb true]) [fdB 1000001 c.fs] := by
  have he' : (c.id == id) = true := by rw [beq_iff_eq]; exact he
  obtain ⟨blk, off, arr, el, fr, fad, fcap, rfl, hX, hsz, hcs, _, _, _, hF⟩ := hin.get hc
  cases fad with
  | none =>
    have hnil := hF.none
    refine .inl ⟨hnil, ?_⟩
    refine PSpec.intro Tryz.func62 rfl (by kernel_rfl) rfl rfl ?_
    intro C
    (refine LWP.seq <| LWP.region (by kernel_rfl) <| K.box rfl rfl rfl .plain <| K.box1 rfl rfl rfl .plain <| K.alloc rfl .plain ?_; refine kas rfl <| RunK.nil <| LWP.seq ?_)
    refine LWP.le (σ' := ⟨[(3, Lp 3), (2, Lp 2), (4, Lp 4)], [(3, some ⟨3, [Value.int .i64 id].map .val, false⟩), sxB 2 ver (some ⟨blk, off, none⟩) cs.length cap, (4, some ⟨60, [.val (.int .i64 0), .val (.string ⟨#[]⟩), .val (.slice none 0 0)], false⟩)], X⟩) (Le.of (by exact ⟨rfl, rfl, rfl, trivial⟩) (by exact ⟨rfl, rfl, rfl, trivial⟩) (by exact rfl) (by exact rfl) (by repeat' (first | refine all_cons_true ?_ ?_ | rfl | exact bytes_inUse | exact vals_inUse | exact mid_inUse rfl))) ?_
    refine LWP.freezePtr (by rfl) (by rfl) (by rfl) fun b arr0 fr0 hn _ h0 => ?_
    have hin' := hin.mono (withBlock_old (o := .cells arr0 3 fr0) hn)
    have hp := fun (c : Cp) (_ : c ∈ cs) (fad : Option Addr) (fcap : Nat) => find1_spec _ c fad fcap id (withBlock_at X b (.cells arr0 3 fr0)) (at_zero h0)
    have hq := first_nil _ ver _ cap cs 75 [.pointer (some ⟨b, 0, none⟩)] (fun c => c.id == id) hin' hbig hp hpre hc he' rfl (withBlock_old hn _ _ hX) hsz hcs hnil
    (refine LWP.region (by kernel_rfl) <| K.loadAll rfl rfl rfl .plain ?_; refine K.makeFunc rfl rfl .plain ?_; refine kca rfl rfl hq <| kex rfl rfl <| kex rfl rfl <| K.storeAll rfl rfl rfl rfl rfl rfl .plain ?_; refine kas rfl <| RunK.nil <| LWP.ret ?_)
    exact ⟨[_, _], ⟨⟨_, _, rfl, rfl, rfl, .inl ⟨AggT.h, rfl⟩⟩, rfl, trivial⟩, rfl⟩
  | some fa =>
    refine .inr ?_
    refine MSpec.intro Tryz.func62 rfl (by kernel_rfl) rfl rfl (by exact (by repeat' (first | refine all_cons_true ?_ ?_ | rfl | exact bytes_inUse | exact vals_inUse | exact mid_inUse rfl))) rfl rfl ?_
    intro C
    (refine LWP.seq <| LWP.region (by kernel_rfl) <| K.box rfl rfl rfl .plain <| K.box1 rfl rfl rfl .plain <| K.alloc rfl .plain ?_; refine kas rfl <| RunK.nil <| LWP.seq ?_)
    refine LWP.le (σ' := ⟨[(3, Lp 3), (2, Lp 2), (4, Lp 4)], [(3, some ⟨3, [Value.int .i64 id].map .val, false⟩), sxB 2 ver (some ⟨blk, off, none⟩) cs.length cap, (4, some ⟨60, [.val (.int .i64 0), .val (.string ⟨#[]⟩), .val (.slice none 0 0)], false⟩)], X⟩) (Le.of (by exact ⟨rfl, rfl, rfl, trivial⟩) (by exact ⟨rfl, rfl, rfl, trivial⟩) (by exact rfl) (by exact rfl) (by repeat' (first | refine all_cons_true ?_ ?_ | rfl | exact bytes_inUse | exact vals_inUse | exact mid_inUse rfl))) ?_
    refine LWP.freezePtr (by rfl) (by rfl) (by rfl) fun b arr0 fr0 hn _ h0 => ?_
    have hin' := hin.mono (withBlock_old (o := .cells arr0 3 fr0) hn)
    have hp := fun (c : Cp) (_ : c ∈ cs) (fad : Option Addr) (fcap : Nat) => find1_spec _ c fad fcap id (withBlock_at X b (.cells arr0 3 fr0)) (at_zero h0)
    have hq := first_box _ ver _ cap cs 75 [.pointer (some ⟨b, 0, none⟩)] (fun c => c.id == id) hin' hbig hp hpre hc he' rfl (withBlock_old hn _ _ hX) hsz hcs (hF.mono (withBlock_old hn)) (hfs c (List.mem_of_getElem? hc))
    (refine LWP.region (by kernel_rfl) <| K.loadAll rfl rfl rfl .plain ?_; refine K.makeFunc rfl rfl .plain ?_; refine K.callMp [(1000001, 20)] (.tup [SCs c 20, Sb true]) [fdB 20 c.fs] (hq) rfl rfl (by exact trivial) rfl rfl rfl rfl rfl (by exact (.box rfl (Box.ren_vals _ _ _ _) .nil)) .plain <| kex rfl rfl <| kex rfl rfl <| K.storeAll rfl rfl rfl rfl rfl rfl .plain ?_; refine kas rfl <| RunK.nil <| LWP.ret ?_)
    exact ⟨[(1000001, 20)], ⟨[_, _], ⟨⟨_, _, rfl, rfl, rfl, .inl ⟨AggT.h, rfl⟩⟩, rfl, trivial⟩, rfl⟩, (by repeat' (first | exact trivial | refine And.intro ⟨_, rfl, ?_⟩ ?_ | refine And.intro ⟨_, rfl⟩ ?_ | rfl | exact Box.ren_bytes _ _ _ _ | exact Box.ren_vals _ _ _ _ | exact Box.ren_mid rfl)), rfl, rfl⟩
end Go.Proofs.YtnomcmklhbjfjaaGreatDoor
end
section
namespace Go.Lg.Fld
open Go Go.Lg
end Go.Lg.Fld
namespace Go.Proofs.YtnomcmklhbjfjaaGreatDoor
open Go Go.Lg Go.Lg.Fld
set_option maxRecDepth 100000
variable (X : Nat → Option Obj)
theorem feq_spec (ad ad2 : Option Addr) (cap cap2 : Nat) (a b : List Fl) (ha : FieldsIn X ad a) (hb : FieldsIn X ad2 b) (hbig : a.length < 4611686018427387904) (r : Bool) (hr : decide (a = b) = r) :
    PSpec Tryz.prog X 71 [Lx ad a.length cap, Lx ad2 b.length cap2] (Lb r) := by
  subst hr
  refine PSpec.intro Tryz.func71 rfl (by kernel_rfl) rfl rfl ?_
  intro C
  by_cases hl : a.length = b.length
  · (refine LWP.seq <| LWP.region (by kernel_rfl) <| kas rfl <| RunK.nil <| LWP.seq <| LWP.seq <| LWP.region (by kernel_rfl) <| kmv rfl <| K.lenX rfl SliceT.h rfl .plain ?_; refine kmv rfl <| K.lenX rfl SliceT.h rfl .plain ?_; refine kne rfl rfl (r := false) (by rw [hl]; simp) <| RunK.nil <| LWP.condF rfl ?_; refine LWP.skip ?_; refine LWP.seq <| LWP.seq <| LWP.region (by kernel_rfl) <| kmv rfl <| K.lenX rfl SliceT.h rfl .plain ?_; refine kmv rfl <| RunK.nil <| LWP.block ?_)
    refine LWP.loop (fun m σ => ∃ i : Nat, i ≤ a.length ∧ m = a.length - i ∧ a.take i = b.take i ∧ σ = ⟨[(0, Lx ad a.length cap), (1, Lx ad2 b.length cap2), (12, Ln .i64 (a.length : Nat)), (13, Ln .i64 (i : Nat))], [], X⟩) a.length
      ⟨_, Le.of (by exact ⟨rfl, rfl, rfl, rfl, trivial⟩) (by exact trivial) (by exact rfl) (by exact rfl) (by exact rfl), 0, by omega, rfl, rfl, rfl⟩ ?_
    rintro m σ ⟨i, hi, rfl, hpre, rfl⟩
    by_cases hlt : i < a.length
    · obtain ⟨f, hf⟩ : ∃ v, a[i]? = some v := ⟨_, List.getElem?_eq_getElem hlt⟩
      obtain ⟨f', hf'⟩ : ∃ v, b[i]? = some v := ⟨_, List.getElem?_eq_getElem (by omega)⟩
      obtain ⟨blk, off, arr, el, fr, rfl, hX, hsz, hcells⟩ := ha.at hf
      obtain ⟨blk', off', arr', el', fr', rfl, hX', hsz', hcells'⟩ := hb.at hf'
      have hio : off + Int.toNat (i : Int) * 3 = off + i * 3 := by simp
      have hio' : off' + Int.toNat (i : Int) * 3 = off' + i * 3 := by simp
      by_cases hq : f = f'
      · (refine LWP.seq <| LWP.region (by kernel_rfl) <| klt rfl rfl (decide_eq_true (by omega)) <| RunK.nil <| LWP.seq <| LWP.condT rfl ?_; refine LWP.skip ?_; refine LWP.seq <| LWP.block <| LWP.seq <| LWP.region (by kernel_rfl) <| kmv rfl <| kas rfl <| RunK.nil <| LWP.seq <| LWP.draws mixed (by kernel_rfl) <| kmv rfl <| kmv rfl <| K.indexX rfl rfl SliceT.h (by omega) hio .plain <| K.loadXagg rfl hX (by kernel_rfl) hsz hcells .plain <| kmv rfl ?_; refine kmv rfl <| K.indexX rfl rfl SliceT.h (by omega) hio' .plain <| K.loadXagg rfl hX' (by kernel_rfl) hsz' hcells' .plain <| K.aggEq (us := f.vals) (vs := f'.vals) rfl rfl rfl rfl (by kernel_rfl) (eqF f f' true (decide_eq_true hq)) (.inr ⟨rfl, rfl⟩) .plain <| RunK.nil <| And.intro (by kernel_rfl) ?_; refine LWP.condF rfl ?_; refine LWP.skip ?_; refine LWP.region (by kernel_rfl) <| kad rfl rfl (wrap_i64 (by omega)) <| kmv rfl <| RunK.nil ?_)
        exact ⟨_, _, by omega, Le.of (by exact ⟨rfl, rfl, rfl, rfl, trivial⟩) (by exact trivial) (by exact rfl) (by exact rfl) (by exact rfl), i + 1, by omega, rfl, by rw [take_snoc hf, take_snoc hf', hpre, hq], rfl⟩
      · rw [decide_eq_false (show ¬a = b from fun e => hq (by rw [e, hf'] at hf; exact (Option.some.inj hf).symm))]
        (refine LWP.seq <| LWP.region (by kernel_rfl) <| klt rfl rfl (decide_eq_true (by omega)) <| RunK.nil <| LWP.seq <| LWP.condT rfl ?_; refine LWP.skip ?_; refine LWP.seq <| LWP.block <| LWP.seq <| LWP.region (by kernel_rfl) <| kmv rfl <| kas rfl <| RunK.nil <| LWP.seq <| LWP.draws mixed (by kernel_rfl) <| kmv rfl <| kmv rfl <| K.indexX rfl rfl SliceT.h (by omega) hio .plain <| K.loadXagg rfl hX (by kernel_rfl) hsz hcells .plain <| kmv rfl ?_; refine kmv rfl <| K.indexX rfl rfl SliceT.h (by omega) hio' .plain <| K.loadXagg rfl hX' (by kernel_rfl) hsz' hcells' .plain <| K.aggEq (us := f.vals) (vs := f'.vals) rfl rfl rfl rfl (by kernel_rfl) (eqF f f' false (decide_eq_false hq)) (.inr ⟨rfl, rfl⟩) .plain <| RunK.nil <| And.intro (by kernel_rfl) ?_; refine LWP.condT rfl ?_; refine LWP.seq <| LWP.region (by kernel_rfl) <| kas rfl <| RunK.nil <| LWP.ret ?_)
        exact ⟨[_], ⟨rfl, trivial⟩, rfl⟩
    · have e : i = a.length := by omega
      subst e
      rw [List.take_length, List.take_of_length_le (by omega)] at hpre
      rw [decide_eq_true hpre]
      (refine LWP.seq <| LWP.region (by kernel_rfl) <| klt rfl rfl (decide_eq_false (by omega)) <| RunK.nil <| LWP.seq <| LWP.condF rfl ?_; refine LWP.exit <| LWP.seq <| LWP.region (by kernel_rfl) <| kas rfl <| RunK.nil <| LWP.ret ?_)
      exact ⟨[_], ⟨rfl, trivial⟩, rfl⟩
  · rw [decide_eq_false (show ¬a = b from fun e => hl (by rw [e]))]
    (refine LWP.seq <| LWP.region (by kernel_rfl) <| kas rfl <| RunK.nil <| LWP.seq <| LWP.seq <| LWP.region (by kernel_rfl) <| kmv rfl <| K.lenX rfl SliceT.h rfl .plain ?_; refine kmv rfl <| K.lenX rfl SliceT.h rfl .plain ?_; refine kne rfl rfl (r := true) (by rw [bne_iff_ne]; omega) <| RunK.nil <| LWP.condT rfl ?_; refine LWP.seq <| LWP.region (by kernel_rfl) <| kas rfl <| RunK.nil <| LWP.ret ?_)
    exact ⟨[_], ⟨rfl, trivial⟩, rfl⟩
theorem pSameComp (a b : Cp) (ad ad2 : Option Addr) (cap cap2 : Nat) (ha : FieldsIn X ad a.fs) (hb : FieldsIn X ad2 b.fs) (hbig : a.fs.length < 4611686018427387904) (r : Bool) (hr : decide (a = b) = r) :
    PSpec Tryz.prog X 47 [Cx a ad cap, Cx b ad2 cap2] (Lb r) := by
  subst hr
  refine PSpec.intro Tryz.func47 rfl (by kernel_rfl) rfl rfl ?_
  intro C
  by_cases h1 : a.id = b.id
  · by_cases h2 : a.nm = b.nm
    · have hF := feq_spec X ad ad2 cap cap2 a.fs b.fs ha hb hbig (decide (a.fs = b.fs)) rfl
      have e : decide (a = b) = decide (a.fs = b.fs) := by
        cases a; cases b; simp only at h1 h2; subst h1 h2; simp
      rw [e]
      (refine LWP.seq <| LWP.region (by kernel_rfl) <| K.box rfl rfl rfl .plain <| K.box rfl rfl rfl .plain <| kas rfl <| RunK.nil <| LWP.seq <| LWP.region (by kernel_rfl) <| kfa rfl rfl ?_; refine kl1 rfl rfl rfl <| kfa rfl rfl ?_; refine kl1 rfl rfl rfl <| keq rfl rfl (r := true) (by rw [beq_iff_eq]; exact h1) <| kmv rfl <| K.fieldAddr rfl rfl (.taken rfl rfl) ?_; refine K.loadOne rfl rfl rfl (.taken rfl rfl) ?_; refine K.fieldAddr rfl rfl (.taken rfl rfl) ?_; refine K.loadOne rfl rfl rfl (.taken rfl rfl) ?_; refine K.strEq rfl rfl (strs_eq (r := true) (by rw [h2]; simp)) (.taken rfl rfl) ?_; refine kpt rfl rfl <| kmv rfl <| K.fieldAddr rfl rfl (.taken rfl rfl) ?_; refine K.loadOne rfl rfl rfl (.taken rfl rfl) ?_; refine K.fieldAddr rfl rfl (.taken rfl rfl) ?_; refine K.loadOne rfl rfl rfl (.taken rfl rfl) ?_; refine gca rfl rfl hF rfl rfl <| kpt rfl rfl <| kas rfl <| RunK.nil <| LWP.ret ?_)
      exact ⟨[_], ⟨rfl, trivial⟩, rfl⟩
    · rw [decide_eq_false (show ¬a = b from fun e => h2 (by rw [e]))]
      (refine LWP.seq <| LWP.region (by kernel_rfl) <| K.box rfl rfl rfl .plain <| K.box rfl rfl rfl .plain <| kas rfl <| RunK.nil <| LWP.seq <| LWP.region (by kernel_rfl) <| kfa rfl rfl ?_; refine kl1 rfl rfl rfl <| kfa rfl rfl ?_; refine kl1 rfl rfl rfl <| keq rfl rfl (r := true) (by rw [beq_iff_eq]; exact h1) <| kmv rfl <| K.fieldAddr rfl rfl (.taken rfl rfl) ?_; refine K.loadOne rfl rfl rfl (.taken rfl rfl) ?_; refine K.fieldAddr rfl rfl (.taken rfl rfl) ?_; refine K.loadOne rfl rfl rfl (.taken rfl rfl) ?_; refine K.strEq rfl rfl (strs_eq (r := false) (by rw [beq_eq_false_iff_ne]; exact h2)) (.taken rfl rfl) ?_; refine kpt rfl rfl <| kmv rfl <| RunK.passed rfl rfl rfl <| RunK.passed rfl rfl rfl <| RunK.passed rfl rfl rfl <| RunK.passed rfl rfl rfl <| RunK.passed rfl rfl rfl <| kpf rfl rfl <| kas rfl <| RunK.nil <| LWP.ret ?_)
      exact ⟨[_], ⟨rfl, trivial⟩, rfl⟩
  · rw [decide_eq_false (show ¬a = b from fun e => h1 (by rw [e]))]
    (refine LWP.seq <| LWP.region (by kernel_rfl) <| K.box rfl rfl rfl .plain <| K.box rfl rfl rfl .plain <| kas rfl <| RunK.nil <| LWP.seq <| LWP.region (by kernel_rfl) <| kfa rfl rfl ?_; refine kl1 rfl rfl rfl <| kfa rfl rfl ?_; refine kl1 rfl rfl rfl <| keq rfl rfl (r := false) (by rw [beq_eq_false_iff_ne]; exact h1) <| kmv rfl <| RunK.passed rfl rfl rfl <| RunK.passed rfl rfl rfl <| RunK.passed rfl rfl rfl <| RunK.passed rfl rfl rfl <| RunK.passed rfl rfl rfl <| kpf rfl rfl <| kmv rfl <| RunK.passed rfl rfl rfl <| RunK.passed rfl rfl rfl <| RunK.passed rfl rfl rfl <| RunK.passed rfl rfl rfl ?_; refine RunK.passed rfl rfl rfl <| kpf rfl rfl <| kas rfl <| RunK.nil <| LWP.ret ?_)
    exact ⟨[_], ⟨rfl, trivial⟩, rfl⟩
set_option maxHeartbeats 1600000 in
theorem ceq_spec (ad ad2 : Option Addr) (cap cap2 : Nat) (a b : List Cp) (ha : CompsIn X ad a) (hb : CompsIn X ad2 b) (hbig : a.length < 4611686018427387904) (hfs : ∀ c ∈ a, c.fs.length < 4611686018427387904) :
    PSpec Tryz.prog X 46 [Lx ad a.length cap, Lx ad2 b.length cap2, Lf 47 []] (Lb (decide (a = b))) := by
  refine PSpec.intro Tryz.func46 rfl (by kernel_rfl) rfl rfl ?_
  intro C
  by_cases hl : a.length = b.length
  · (refine LWP.seq <| LWP.region (by kernel_rfl) <| kas rfl <| RunK.nil <| LWP.seq <| LWP.seq <| LWP.region (by kernel_rfl) <| kmv rfl <| K.lenX rfl SliceT.h rfl .plain ?_; refine kmv rfl <| K.lenX rfl SliceT.h rfl .plain ?_; refine kne rfl rfl (r := false) (by rw [hl]; simp) <| RunK.nil <| LWP.condF rfl ?_; refine LWP.skip ?_; refine LWP.seq <| LWP.seq <| LWP.region (by kernel_rfl) <| kmv rfl <| K.lenX rfl SliceT.h rfl .plain ?_; refine kmv rfl <| RunK.nil <| LWP.block ?_)
    refine LWP.loop (fun m σ => ∃ i : Nat, i ≤ a.length ∧ m = a.length - i ∧ a.take i = b.take i ∧ σ = ⟨[(1, Lx ad2 b.length cap2), (2, Lf 47 []), (15, Lx ad a.length cap), (16, Ln .i64 (a.length : Nat)), (17, Ln .i64 (i : Nat))], [], X⟩) a.length
      ⟨_, Le.of (by exact ⟨rfl, rfl, rfl, rfl, rfl, trivial⟩) (by exact trivial) (by exact rfl) (by exact rfl) (by exact rfl), 0, by omega, rfl, rfl, rfl⟩ ?_
    rintro m σ ⟨i, hi, rfl, hpre, rfl⟩
    by_cases hlt : i < a.length
    · obtain ⟨c, hc⟩ : ∃ v, a[i]? = some v := ⟨_, List.getElem?_eq_getElem hlt⟩
      obtain ⟨d, hd⟩ : ∃ v, b[i]? = some v := ⟨_, List.getElem?_eq_getElem (by omega)⟩
      obtain ⟨blk, off, arr, el, fr, fad, fcap, rfl, hX, hsz, hcs, _, _, _, hF⟩ := ha.get hc
      obtain ⟨blk', off', arr', el', fr', fad', fcap', rfl, hX', hsz', hcs', _, _, _, hF'⟩ := hb.get hd
      have hio : off + Int.toNat (i : Int) * 3 = off + i * 3 := by simp
      have hio' : off' + Int.toNat (i : Int) * 3 = off' + i * 3 := by simp
      have hq := pSameComp X c d fad fad' fcap fcap' hF hF' (hfs c (List.mem_of_getElem? hc)) (decide (c = d)) rfl
      by_cases he : c = d
      · rw [decide_eq_true he] at hq
        (refine LWP.seq <| LWP.region (by kernel_rfl) <| klt rfl rfl (decide_eq_true (by omega)) <| RunK.nil <| LWP.seq <| LWP.condT rfl ?_; refine LWP.skip ?_; refine LWP.seq <| LWP.block <| LWP.seq <| LWP.region (by kernel_rfl) <| kmv rfl <| K.indexX rfl rfl SliceT.h (by omega) hio .plain <| K.loadXagg rfl hX (by kernel_rfl) hsz hcs .plain <| K.alloc rfl .plain ?_; refine kas rfl <| K.storeAll rfl rfl rfl rfl rfl rfl .plain ?_; refine RunK.nil <| LWP.seq <| LWP.region (by kernel_rfl) <| kmv rfl <| kmv rfl <| K.indexX rfl rfl SliceT.h (by omega) hio' .plain <| K.loadXagg rfl hX' (by kernel_rfl) hsz' hcs' .plain <| K.alloc rfl .plain ?_; refine K.storeAll rfl rfl rfl rfl rfl rfl .plain ?_; refine RunK.nil <| LWP.seq <| LWP.region (by kernel_rfl) <| kmv rfl <| K.loadAll rfl rfl rfl .plain ?_; refine K.loadAll rfl rfl rfl .plain ?_; refine K.callF (caps := []) rfl rfl rfl hq .plain ?_; refine K.not rfl rfl .plain <| RunK.nil <| LWP.condF rfl ?_; refine LWP.skip ?_; refine LWP.region (by kernel_rfl) <| kad rfl rfl (wrap_i64 (by omega)) <| kmv rfl <| RunK.nil ?_)
        exact ⟨_, _, by omega, Le.of (by exact ⟨rfl, rfl, rfl, rfl, rfl, trivial⟩) (by exact trivial) (by exact rfl) (by exact rfl) (by exact rfl), i + 1, by omega, rfl, by rw [take_snoc hc, take_snoc hd, hpre, he], rfl⟩
      · rw [decide_eq_false he] at hq
        rw [decide_eq_false (show ¬a = b from fun e => he (by rw [e, hd] at hc; exact (Option.some.inj hc).symm))]
        (refine LWP.seq <| LWP.region (by kernel_rfl) <| klt rfl rfl (decide_eq_true (by omega)) <| RunK.nil <| LWP.seq <| LWP.condT rfl ?_; refine LWP.skip ?_; refine LWP.seq <| LWP.block <| LWP.seq <| LWP.region (by kernel_rfl) <| kmv rfl <| K.indexX rfl rfl SliceT.h (by omega) hio .plain <| K.loadXagg rfl hX (by kernel_rfl) hsz hcs .plain <| K.alloc rfl .plain ?_; refine kas rfl <| K.storeAll rfl rfl rfl rfl rfl rfl .plain ?_; refine RunK.nil <| LWP.seq <| LWP.region (by kernel_rfl) <| kmv rfl <| kmv rfl <| K.indexX rfl rfl SliceT.h (by omega) hio' .plain <| K.loadXagg rfl hX' (by kernel_rfl) hsz' hcs' .plain <| K.alloc rfl .plain ?_; refine K.storeAll rfl rfl rfl rfl rfl rfl .plain ?_; refine RunK.nil <| LWP.seq <| LWP.region (by kernel_rfl) <| kmv rfl <| K.loadAll rfl rfl rfl .plain ?_; refine K.loadAll rfl rfl rfl .plain ?_; refine K.callF (caps := []) rfl rfl rfl hq .plain ?_; refine K.not rfl rfl .plain <| RunK.nil <| LWP.condT rfl ?_; refine LWP.seq <| LWP.region (by kernel_rfl) <| kas rfl <| RunK.nil <| LWP.ret ?_)
        exact ⟨[_], ⟨rfl, trivial⟩, rfl⟩
    · have e : i = a.length := by omega
      subst e
      rw [List.take_length, List.take_of_length_le (by omega)] at hpre
      rw [decide_eq_true hpre]
      (refine LWP.seq <| LWP.region (by kernel_rfl) <| klt rfl rfl (decide_eq_false (by omega)) <| RunK.nil <| LWP.seq <| LWP.condF rfl ?_; refine LWP.exit <| LWP.seq <| LWP.region (by kernel_rfl) <| kas rfl <| RunK.nil <| LWP.ret ?_)
      exact ⟨[_], ⟨rfl, trivial⟩, rfl⟩
  · rw [decide_eq_false (show ¬a = b from fun e => hl (by rw [e]))]
    (refine LWP.seq <| LWP.region (by kernel_rfl) <| kas rfl <| RunK.nil <| LWP.seq <| LWP.seq <| LWP.region (by kernel_rfl) <| kmv rfl <| K.lenX rfl SliceT.h rfl .plain ?_; refine kmv rfl <| K.lenX rfl SliceT.h rfl .plain ?_; refine kne rfl rfl (r := true) (by rw [bne_iff_ne]; omega) <| RunK.nil <| LWP.condT rfl ?_; refine LWP.seq <| LWP.region (by kernel_rfl) <| kas rfl <| RunK.nil <| LWP.ret ?_)
    exact ⟨[_], ⟨rfl, trivial⟩, rfl⟩
theorem pSameBig (a b : Sc) (ad ad2 : Option Addr) (cap cap2 : Nat) (ha : CompsIn X ad a.cs) (hb : CompsIn X ad2 b.cs) (hbig : a.cs.length < 4611686018427387904) (hfs : ∀ c ∈ a.cs, c.fs.length < 4611686018427387904) (r : Bool) (hr : decide (a = b) = r) :
    PSpec Tryz.prog X 21 [Sx a.ver ad a.cs.length cap, Sx b.ver ad2 b.cs.length cap2] (Lb r) := by
  subst hr
  refine PSpec.intro Tryz.func21 rfl (by kernel_rfl) rfl rfl ?_
  intro C
  by_cases h1 : a.ver = b.ver
  · have hq := ceq_spec X ad ad2 cap cap2 a.cs b.cs ha hb hbig hfs
    have e : decide (a = b) = decide (a.cs = b.cs) := by
      cases a; cases b; simp only at h1; subst h1; simp
    rw [e]
    (refine LWP.seq <| LWP.region (by kernel_rfl) <| K.box rfl rfl rfl .plain <| K.box rfl rfl rfl .plain <| kas rfl <| RunK.nil <| LWP.seq <| LWP.region (by kernel_rfl) <| kfa rfl rfl ?_; refine kl1 rfl rfl rfl <| kfa rfl rfl ?_; refine kl1 rfl rfl rfl <| keq rfl rfl (r := true) (by rw [beq_iff_eq]; exact h1) <| kmv rfl <| K.fieldAddr rfl rfl (.taken rfl rfl) ?_; refine K.loadOne rfl rfl rfl (.taken rfl rfl) ?_; refine K.fieldAddr rfl rfl (.taken rfl rfl) ?_; refine K.loadOne rfl rfl rfl (.taken rfl rfl) ?_; refine gca rfl rfl hq rfl rfl <| kpt rfl rfl <| kas rfl <| RunK.nil <| LWP.ret ?_)
    exact ⟨[_], ⟨rfl, trivial⟩, rfl⟩
  · rw [decide_eq_false (show ¬a = b from fun e => h1 (by rw [e]))]
    (refine LWP.seq <| LWP.region (by kernel_rfl) <| K.box rfl rfl rfl .plain <| K.box rfl rfl rfl .plain <| kas rfl <| RunK.nil <| LWP.seq <| LWP.region (by kernel_rfl) <| kfa rfl rfl ?_; refine kl1 rfl rfl rfl <| kfa rfl rfl ?_; refine kl1 rfl rfl rfl <| keq rfl rfl (r := false) (by rw [beq_eq_false_iff_ne]; exact h1) <| kmv rfl <| RunK.passed rfl rfl rfl <| RunK.passed rfl rfl rfl <| RunK.passed rfl rfl rfl <| RunK.passed rfl rfl rfl <| RunK.passed rfl rfl rfl <| kpf rfl rfl <| kas rfl <| RunK.nil <| LWP.ret ?_)
    exact ⟨[_], ⟨rfl, trivial⟩, rfl⟩
end Go.Proofs.YtnomcmklhbjfjaaGreatDoor
end
section
namespace Go.Lg.Fld
open Go Go.Lg
theorem rowsZ_app : ∀ {a b : List Cp} {u v : List Value}, u.length = a.length → rowsZ (a ++ b) (u ++ v) = rowsZ a u ++ rowsZ b v
  | [], _, [], _, _ => rfl
  | _ :: a, b, _ :: u, v, h => by
    simp only [List.length_cons] at h
    simp only [List.cons_append, rowsZ]
    rw [rowsZ_app (a := a) (b := b) (u := u) (v := v) (by omega)]
  | [], _, _ :: _, _, h => by simp at h
  | _ :: _, _, [], _, h => by simp at h
theorem joinM_has {C : Ctx} {Y H : Nat → Option Obj} (hO : OwnedM C Y H) {b : Nat} {o : Obj} (h : Y b = some o) : joinM Y H b = some o := by
  cases hb : H b with
  | none => rw [joinM_out hb]; exact h
  | some o' => have := (hO.own b o' hb).2.2; rw [this] at h; cases h
def zer (k : Nat) : List Value := (List.replicate k [Value.int .i64 0, Value.string ⟨#[]⟩, Value.slice none 0 0]).flatten
theorem zer_succ (k : Nat) : zer (k + 1) = [Value.int .i64 0, Value.string ⟨#[]⟩, Value.slice none 0 0] ++ zer k := by unfold zer; rw [List.replicate_succ, List.flatten_cons]
theorem zer_len (k : Nat) : (zer k).length = k * 3 := by
  induction k with
  | zero => rfl
  | succ k ih => rw [zer_succ, List.length_append, ih]; simp; omega
def idM (ns : List Int) : List (Value × Value) := ns.map fun x => (.int .i64 x, .agg #[])
theorem idM_at (ns : List Int) (x : Int) : At (idM ns) (.int .i64 x) (.agg #[]) (.agg #[]) := by
  by_cases h : x ∈ ns
  · exact .inl (List.mem_map.2 ⟨x, h, rfl⟩)
  · refine .inr ⟨fun p hp e => ?_, rfl⟩
    obtain ⟨y, hy, rfl⟩ := List.mem_map.1 hp
    simp only [Value.int.injEq, true_and] at e
    exact h (e ▸ hy)
theorem idM_any (ns : List Int) (x : Int) (r : Bool) (hr : ns.any (fun m => m == x) = r) : r = true ↔ ∃ p ∈ idM ns, p.1 = .int .i64 x := by
  subst hr
  rw [List.any_eq_true]
  constructor
  · rintro ⟨m, hm, he⟩
    rw [beq_iff_eq] at he
    subst he
    exact ⟨_, List.mem_map.2 ⟨m, hm, rfl⟩, rfl⟩
  · rintro ⟨p, hp, e⟩
    obtain ⟨y, hy, rfl⟩ := List.mem_map.1 hp
    simp only [Value.int.injEq, true_and] at e
    exact ⟨y, hy, by rw [beq_iff_eq]; exact e⟩
theorem idM_put {ns : List Int} {x : Int} (h : ns.any (fun m => m == x) = false) : Put (idM ns) (.int .i64 x) (.agg #[]) (idM (ns ++ [x])) := by
  refine .inr ⟨fun p hp e => ?_, by unfold idM; rw [List.map_append]; rfl⟩
  obtain ⟨y, hy, rfl⟩ := List.mem_map.1 hp
  simp only [Value.int.injEq, true_and] at e
  rw [List.any_eq_false] at h
  exact h y hy (by rw [beq_iff_eq]; exact e)
theorem fields_none {X : Nat → Option Obj} {ad : Option Addr} {fs : List Fl} (h : fs = []) : FieldsIn X ad fs := by
  subst h
  exact ⟨fun k r hr => (by simp at hr), fun f hf => (by cases hf)⟩
theorem lent_fields {S : Nat → Option (Option Box)} {Y : Nat → Option Obj} {k n : Nat} {el : TypeId} {row : Bool} {fs : List Fl} {u : Value} (hk : S k = some (some ⟨el, (flV fs).map .val, row⟩)) (hs : ∀ f ∈ fs, (-9223372036854775808 ≤ f.kind ∧ f.kind < 9223372036854775808) ∧ (-9223372036854775808 ≤ f.count ∧ f.count < 9223372036854775808)) (h : LentC S Y (.slc k 0 n 3) u) :
    ∃ (fa : Addr) (fcap : Nat), u = .slice (some fa) n fcap ∧ FieldsIn Y (some fa) fs := by
  obtain ⟨b, blk, cap2, m, hk', rfl, hc, hfit, hB⟩ := h
  rw [hk] at hk'
  simp only [Option.some.injEq] at hk'
  subst hk'
  obtain ⟨arr, fr, us', sp, hYb, hsz, harr, hv⟩ := hB
  have := hv _ rfl
  subst this
  exact ⟨⟨blk, 0, none⟩, cap2, rfl, fields_block hYb harr hs⟩
end Go.Lg.Fld
namespace Go.Proofs.YtnomcmklhbjfjaaGreatDoor
open Go Go.Lg Go.Lg.Fld
set_option maxRecDepth 100000
section
variable {n : Nat} {C : Ctx} {X : Nat → Option Obj} {s : List (Nat × LV)} {bx : List (Nat × Option Box)} {k : Nat}
theorem sc_shut {Mid : St → Prop} {cs : List Cp} {H : Nat → Option Obj} {cells sp : List Value} (hO : OwnedM C X H) (G : Twigs H 57 3 [] cells (cs.map fun c => flV c.fs)) (hb : InB cs)
    (h : Leads n C Mid ⟨s, scB k cs :: bx, X⟩) : Leads n C Mid ⟨s, (k, some ⟨60, (rowsZ cs cells ++ sp).map .val, false⟩) :: bx, joinM X H⟩ := by
  refine Leads.closeRes (vals := rowsZ cs cells ++ sp) hO (fun ρ fr h1 h2 h3 => ?_) h
  refine ⟨_, fr, cells, sp, withBlock_at _ _ _, ?_, ?_, ?_, hb⟩
  · rw [h3]; simp
  · simp
  · rw [cut_with h1]; exact G
end
variable (X : Nat → Option Obj)
theorem fit_lent {S : Nat → Option (Option Box)} {k : Nat} {fs : List Fl} {vad : Option Addr} {vcap : Nat} {ns : List (Bool × Int)} {el : TypeId} {row : Bool} {e : Int} (hs : ∀ f ∈ fs, (-9223372036854775808 ≤ f.kind ∧ f.kind < 9223372036854775808) ∧ (-9223372036854775808 ≤ f.count ∧ f.count < 9223372036854775808)) (hbig : fs.length < 4611686018427387904) (hns : NumsIn X vad ns)
    (hk : S k = some (some ⟨el, (flV fs).map .val, row⟩)) (he : fitErr fs ns = e) :
    ∀ (Y : Nat → Option Obj) (us : List Value), (∀ b o, X b = some o → Y b = some o) → LentLs S Y [.sv (.one (.slc k 0 fs.length 3)), Lx vad ns.length vcap] us → PSpec Tryz.prog Y 73 (us.map toLV) (Ln .i64 e) := by
  intro Y us hY hL
  obtain ⟨u1, us1, rfl, h1, u2, us2, rfl, h2, rfl⟩ := hL
  have h2 : u2 = .slice vad ns.length vcap := h2
  subst h2
  obtain ⟨fa, fcap, rfl, hF⟩ := lent_fields hk hs h1
  subst he
  exact lFit_any Y (some fa) vad fcap vcap fs ns hF hbig ⟨hns.rows.mono hY, hns.in2⟩
theorem pPartBig (ver : Int) (ad vad : Option Addr) (cap vcap : Nat) (cs : List Cp) (p : Pt) (hin : CompsIn X ad cs) (hbig : cs.length < 4611686018427387904) (hfs : ∀ c ∈ cs, c.fs.length ≤ 65536) (hns : NumsIn X vad p.val) (e : Int) (he : partE cs p = e) :
    PSpec Tryz.prog X 61 [Sx ver ad cs.length cap, Px p vad vcap] (Ln .i64 e) := by
  subst he
  refine PSpec.intro Tryz.func61 rfl (by kernel_rfl) rfl rfl ?_
  intro C
  unfold partE
  rcases find_cases cs p.comp with ⟨i, c, hc, he, hpre⟩ | hno
  · rw [find_at hpre hc he]
    have hfb := hfs c (List.mem_of_getElem? hc)
    rcases pFind X ver ad cap cs p.comp hin hbig hfs hpre hc he with ⟨h0, hF⟩ | hF
    · have hR := lFit_any X none vad 0 vcap c.fs p.val (fields_none h0) (by omega) hns
      simp only
      generalize fitErr c.fs p.val = e at *
      (refine LWP.seq <| LWP.region (by kernel_rfl) <| K.box rfl rfl rfl .plain <| K.box rfl rfl rfl .plain <| kas rfl <| RunK.nil <| LWP.seq <| LWP.region (by kernel_rfl) <| K.loadAll rfl rfl rfl .plain ?_; refine kfa rfl rfl ?_; refine kl1 rfl rfl rfl <| kca rfl rfl hF <| kmv rfl <| kex rfl rfl <| kex rfl rfl <| K.alloc rfl .plain ?_; refine K.storeAll rfl rfl rfl rfl rfl rfl .plain ?_; refine kas rfl <| RunK.nil <| LWP.seq <| LWP.seq <| LWP.region (by kernel_rfl) <| kmv rfl <| K.not rfl rfl .plain <| RunK.nil <| LWP.condF rfl ?_; refine LWP.skip ?_; refine LWP.seq <| LWP.region (by kernel_rfl) <| kfa rfl rfl ?_; refine kl1 rfl rfl rfl <| kfa rfl rfl ?_; refine kl1 rfl rfl rfl <| kca rfl rfl (hR) <| kas rfl <| RunK.nil <| LWP.ret ?_)
      exact ⟨[_], ⟨rfl, trivial⟩, rfl⟩
    · obtain ⟨_, _, _, _, _, _, _, _, _, _, _, _, _, _, hFs⟩ := hin.get hc
      have hR := fun (S : Nat → Option (Option Box)) (hk : S 20 = some (some ⟨57, (flV c.fs).map .val, true⟩)) => fit_lent X (S := S) (k := 20) (vcap := vcap) hFs.small (by omega) hns hk rfl
      simp only
      generalize fitErr c.fs p.val = e at *
      (refine LWP.seq <| LWP.region (by kernel_rfl) <| K.box rfl rfl rfl .plain <| K.box rfl rfl rfl .plain <| kas rfl <| RunK.nil <| LWP.seq <| LWP.region (by kernel_rfl) <| K.loadAll rfl rfl rfl .plain ?_; refine kfa rfl rfl ?_; refine kl1 rfl rfl rfl <| K.callMp [(1000001, 20)] (.tup [SCs c 20, Sb true]) [fdB 20 c.fs] (hF) rfl rfl (by exact trivial) rfl rfl rfl rfl rfl (by exact (.box rfl (Box.ren_vals _ _ _ _) .nil)) .plain <| kmv rfl <| kex rfl rfl <| kex rfl rfl <| K.alloc rfl .plain ?_; refine K.storeAll rfl rfl rfl rfl rfl rfl .plain ?_; refine kas rfl <| RunK.nil <| LWP.seq <| LWP.seq <| LWP.region (by kernel_rfl) <| kmv rfl <| K.not rfl rfl .plain <| RunK.nil <| LWP.condF rfl ?_; refine LWP.skip ?_; refine LWP.seq <| LWP.region (by kernel_rfl) <| kfa rfl rfl ?_; refine kl1 rfl rfl rfl <| kfa rfl rfl ?_; refine kl1 rfl rfl rfl <| K.callL [20] rfl rfl rfl (hR _ rfl) .plain ?_; refine kas rfl <| RunK.nil <| LWP.ret ?_)
      exact ⟨[_], ⟨rfl, trivial⟩, rfl⟩
  · rw [find_no hno]
    have hF := pFind_no X ver ad cap cs p.comp hin hbig hno
    (refine LWP.seq <| LWP.region (by kernel_rfl) <| K.box rfl rfl rfl .plain <| K.box rfl rfl rfl .plain <| kas rfl <| RunK.nil <| LWP.seq <| LWP.region (by kernel_rfl) <| K.loadAll rfl rfl rfl .plain ?_; refine kfa rfl rfl ?_; refine kl1 rfl rfl rfl <| kca rfl rfl hF <| kmv rfl <| kex rfl rfl <| kex rfl rfl <| K.alloc rfl .plain ?_; refine K.storeAll rfl rfl rfl rfl rfl rfl .plain ?_; refine kas rfl <| RunK.nil <| LWP.seq <| LWP.seq <| LWP.region (by kernel_rfl) <| kmv rfl <| K.not rfl rfl .plain <| RunK.nil <| LWP.condT rfl ?_; refine LWP.seq <| LWP.region (by kernel_rfl) <| kas rfl <| RunK.nil <| LWP.ret ?_)
    exact ⟨[_], ⟨rfl, trivial⟩, rfl⟩
abbrev idBx (k : Nat) (ns : List Int) : Nat × Option Box := (k, some ⟨0, [], .res (mapR Tryz.prog 3 (idM ns))⟩)
set_option maxHeartbeats 3200000 in
theorem pPartsBig (ver : Int) (ad pad : Option Addr) (cap pcap : Nat) (cs : List Cp) (ps : List Pt) (hin : CompsIn X ad cs) (hbig : cs.length < 4611686018427387904) (hfs : ∀ c ∈ cs, c.fs.length ≤ 65536) (hps : PartsIn X pad ps) (hpb : ps.length < 4611686018427387904) (e : Int) (he : partsE cs ps = e) :
    PSpec Tryz.prog X 36 [Sx ver ad cs.length cap, Lx pad ps.length pcap] (Ln .i64 e) := by
  subst he
  refine PSpec.intro Tryz.func36 rfl (by kernel_rfl) rfl rfl ?_
  intro C
  (refine LWP.seq <| LWP.region (by kernel_rfl) <| K.box rfl rfl rfl .plain <| kas rfl <| RunK.nil <| LWP.seq <| LWP.region (by kernel_rfl) <| K.makeMap 3 rfl .plain ?_; refine kas rfl <| RunK.nil <| LWP.seq <| LWP.seq <| LWP.region (by kernel_rfl) <| kmv rfl <| K.lenX rfl SliceT.h rfl .plain ?_; refine kmv rfl <| RunK.nil <| LWP.block ?_)
  refine LWP.loop (fun m σ => ∃ i : Nat, i ≤ ps.length ∧ m = ps.length - i ∧ (∀ j, 0 ≤ j → j < i → ptE cs ps j = 0) ∧ σ = ⟨[(2, Lp 2), (5, Lmp 11), (12, Lx pad ps.length pcap), (13, Ln .i64 (ps.length : Nat)), (14, Ln .i64 (i : Nat))], [sxB 2 ver ad cs.length cap, idBx 11 ((ps.take i).map Pt.comp)], X⟩) ps.length
    ⟨_, Le.of (by exact ⟨rfl, rfl, rfl, rfl, rfl, trivial⟩) (by exact ⟨rfl, rfl, trivial⟩) (by exact rfl) (by exact rfl) (by repeat' (first | refine all_cons_true ?_ ?_ | rfl | exact bytes_inUse | exact vals_inUse | exact mid_inUse rfl)), 0, by omega, by omega, fun j _ hj => absurd hj (by omega), rfl⟩ ?_
  rintro m σ ⟨i, hi, rfl, hpre, rfl⟩
  by_cases hlt : i < ps.length
  · obtain ⟨p, hp⟩ : ∃ p, ps[i]? = some p := ⟨_, List.getElem?_eq_getElem hlt⟩
    obtain ⟨blk, off, arr, el, fr, vad, vcap, rfl, hX, hsz, hcs, _, _, hN⟩ := hps.get hp
    have hio : off + Int.toNat (i : Int) * 2 = off + i * 2 := by simp
    have hE := ptE_at (cs := cs) hp
    have hsm := hps.small p (List.mem_of_getElem? hp)
    have hkey : Go.keyOf Tryz.prog 3 (.int .i64 p.comp) = some (.int .i64 p.comp) := by
      rw [keyOf_int (q := .i64) (by kernel_rfl)]
      unfold mapKey
      rw [show Tryz.prog.underlying 3 = some (.int .i64) by kernel_rfl]
      have hw : (Lit.int .i64 p.comp).wf = true := by
        show (decide (IntKind.i64.min ≤ p.comp) && decide (p.comp ≤ IntKind.i64.max)) = true
        rw [show IntKind.i64.min = -9223372036854775808 from rfl, show IntKind.i64.max = 9223372036854775807 from rfl, decide_eq_true hsm.1, decide_eq_true (show p.comp ≤ 9223372036854775807 by omega)]; rfl
      simp [hw]
    have hat := idM_at ((ps.take i).map Pt.comp) p.comp
    have hP := pPartBig X ver ad vad cap vcap cs p hin hbig hfs hN (partE cs p) rfl
    have hany : ((ps.take i).map Pt.comp).any (fun m => m == p.comp) = (ps.take i).any (fun g => g.comp == p.comp) := by rw [List.any_map]; rfl
    have hts : (ps.take (i + 1)).map Pt.comp = (ps.take i).map Pt.comp ++ [p.comp] := by rw [take_snoc hp, List.map_append]; rfl
    cases hin2 : (ps.take i).any (fun g => g.comp == p.comp) with
    | true =>
      rw [hin2] at hE hany
      rw [if_pos rfl] at hE
      rw [show partsE cs ps = 1 from firstE_some hpre (Nat.zero_le _) (by omega) hE (by decide)]
      have hr := idM_any _ p.comp true hany
      generalize (ps.take i).map Pt.comp = ns at *
      (refine LWP.seq <| LWP.region (by kernel_rfl) <| klt rfl rfl (decide_eq_true (by omega)) <| RunK.nil <| LWP.seq <| LWP.condT rfl ?_; refine LWP.skip ?_; refine LWP.seq <| LWP.block <| LWP.seq <| LWP.region (by kernel_rfl) <| K.indexX rfl rfl SliceT.h (by omega) hio .plain <| K.loadXagg rfl hX (by kernel_rfl) hsz hcs .plain <| K.alloc rfl .plain ?_; refine K.storeAll rfl rfl rfl rfl rfl rfl .plain ?_; refine RunK.nil <| LWP.seq <| LWP.seq <| LWP.region (by kernel_rfl) <| kmv rfl <| kfa rfl rfl ?_; refine kl1 rfl rfl rfl <| K.lookupOk (et := 114) (.agg []) (v := .agg #[]) (z := .agg #[]) rfl rfl rfl (by kernel_rfl) (KL.int (q := .i64) (by kernel_rfl)) hkey (by kernel_rfl) hat agg0_rel hr .plain ?_; refine kmv rfl <| kex rfl rfl <| kex rfl rfl <| K.alloc rfl .plain ?_; refine K.storeAll rfl rfl rfl rfl rfl rfl .plain ?_; refine kas rfl <| RunK.nil <| LWP.seq <| LWP.region (by kernel_rfl) <| kmv rfl <| RunK.nil <| LWP.condT rfl ?_; refine LWP.seq <| LWP.region (by kernel_rfl) <| kas rfl <| RunK.nil <| LWP.ret ?_)
      exact ⟨[_], ⟨rfl, trivial⟩, rfl⟩
    | false =>
      rw [hin2] at hE hany
      rw [if_neg (by decide)] at hE
      have hr := idM_any _ p.comp false hany
      have hput := idM_put hany
      rw [← hts] at hput
      generalize (ps.take i).map Pt.comp = ns at *
      generalize hns : (ps.take (i + 1)).map Pt.comp = ns' at *
      by_cases he0 : partE cs p = 0
      · rw [he0] at hP hE
        (refine LWP.seq <| LWP.region (by kernel_rfl) <| klt rfl rfl (decide_eq_true (by omega)) <| RunK.nil <| LWP.seq <| LWP.condT rfl ?_; refine LWP.skip ?_; refine LWP.seq <| LWP.block <| LWP.seq <| LWP.region (by kernel_rfl) <| K.indexX rfl rfl SliceT.h (by omega) hio .plain <| K.loadXagg rfl hX (by kernel_rfl) hsz hcs .plain <| K.alloc rfl .plain ?_; refine K.storeAll rfl rfl rfl rfl rfl rfl .plain ?_; refine RunK.nil <| LWP.seq <| LWP.seq <| LWP.region (by kernel_rfl) <| kmv rfl <| kfa rfl rfl ?_; refine kl1 rfl rfl rfl <| K.lookupOk (et := 114) (.agg []) (v := .agg #[]) (z := .agg #[]) rfl rfl rfl (by kernel_rfl) (KL.int (q := .i64) (by kernel_rfl)) hkey (by kernel_rfl) hat agg0_rel hr .plain ?_; refine kmv rfl <| kex rfl rfl <| kex rfl rfl <| K.alloc rfl .plain ?_; refine K.storeAll rfl rfl rfl rfl rfl rfl .plain ?_; refine kas rfl <| RunK.nil <| LWP.seq <| LWP.region (by kernel_rfl) <| kmv rfl <| RunK.nil <| LWP.condF rfl ?_; refine LWP.skip ?_; refine LWP.seq <| LWP.region (by kernel_rfl) <| kmv rfl <| kfa rfl rfl ?_; refine kl1 rfl rfl rfl <| K.build rfl rfl (by exact rfl) (by exact nl0 rfl) .plain ?_; refine K.mapPut (et := 114) (idM ns') rfl rfl rfl rfl (by kernel_rfl) (KL.int (q := .i64) (by kernel_rfl)) hkey hput .plain ?_; refine RunK.nil <| LWP.seq <| LWP.region (by kernel_rfl) <| K.loadAll rfl rfl rfl .plain ?_; refine K.loadAll rfl rfl rfl .plain ?_; refine kca rfl rfl hP <| kas rfl <| RunK.nil <| LWP.seq <| LWP.region (by kernel_rfl) <| kmv rfl <| kne rfl rfl ((bne_eq_false_iff_eq.2 (by omega))) <| RunK.nil <| LWP.condF rfl ?_; refine LWP.skip ?_; refine LWP.region (by kernel_rfl) <| kad rfl rfl (wrap_i64 (by omega)) <| kmv rfl <| RunK.nil ?_)
        subst hns
        exact ⟨_, _, by omega, Le.of (by exact ⟨rfl, rfl, rfl, rfl, rfl, trivial⟩) (by exact ⟨rfl, rfl, trivial⟩) (by exact rfl) (by exact rfl) (by repeat' (first | refine all_cons_true ?_ ?_ | rfl | exact bytes_inUse | exact vals_inUse | exact mid_inUse rfl)), i + 1, by omega, rfl, (fun j h0 hj => by
          by_cases e : j = i
          · rw [e]; exact hE
          · exact hpre j h0 (by omega)), rfl⟩
      · rw [show partsE cs ps = partE cs p from firstE_some hpre (Nat.zero_le _) (by omega) hE he0]
        have hne : (partE cs p != 0) = true := by rw [bne_iff_ne]; exact he0
        generalize partE cs p = E at *
        (refine LWP.seq <| LWP.region (by kernel_rfl) <| klt rfl rfl (decide_eq_true (by omega)) <| RunK.nil <| LWP.seq <| LWP.condT rfl ?_; refine LWP.skip ?_; refine LWP.seq <| LWP.block <| LWP.seq <| LWP.region (by kernel_rfl) <| K.indexX rfl rfl SliceT.h (by omega) hio .plain <| K.loadXagg rfl hX (by kernel_rfl) hsz hcs .plain <| K.alloc rfl .plain ?_; refine K.storeAll rfl rfl rfl rfl rfl rfl .plain ?_; refine RunK.nil <| LWP.seq <| LWP.seq <| LWP.region (by kernel_rfl) <| kmv rfl <| kfa rfl rfl ?_; refine kl1 rfl rfl rfl <| K.lookupOk (et := 114) (.agg []) (v := .agg #[]) (z := .agg #[]) rfl rfl rfl (by kernel_rfl) (KL.int (q := .i64) (by kernel_rfl)) hkey (by kernel_rfl) hat agg0_rel hr .plain ?_; refine kmv rfl <| kex rfl rfl <| kex rfl rfl <| K.alloc rfl .plain ?_; refine K.storeAll rfl rfl rfl rfl rfl rfl .plain ?_; refine kas rfl <| RunK.nil <| LWP.seq <| LWP.region (by kernel_rfl) <| kmv rfl <| RunK.nil <| LWP.condF rfl ?_; refine LWP.skip ?_; refine LWP.seq <| LWP.region (by kernel_rfl) <| kmv rfl <| kfa rfl rfl ?_; refine kl1 rfl rfl rfl <| K.build rfl rfl (by exact rfl) (by exact nl0 rfl) .plain ?_; refine K.mapPut (et := 114) (idM ns') rfl rfl rfl rfl (by kernel_rfl) (KL.int (q := .i64) (by kernel_rfl)) hkey hput .plain ?_; refine RunK.nil <| LWP.seq <| LWP.region (by kernel_rfl) <| K.loadAll rfl rfl rfl .plain ?_; refine K.loadAll rfl rfl rfl .plain ?_; refine kca rfl rfl hP <| kas rfl <| RunK.nil <| LWP.seq <| LWP.region (by kernel_rfl) <| kmv rfl <| kne rfl rfl hne <| RunK.nil <| LWP.condT rfl ?_; refine LWP.seq <| LWP.region (by kernel_rfl) <| kmv rfl <| kas rfl <| RunK.nil <| LWP.ret ?_)
        exact ⟨[_], ⟨rfl, trivial⟩, rfl⟩
  · rw [show partsE cs ps = 0 from firstE_none fun j h0 hj => hpre j h0 (by omega)]
    (refine LWP.seq <| LWP.region (by kernel_rfl) <| klt rfl rfl (decide_eq_false (by omega)) <| RunK.nil <| LWP.seq <| LWP.condF rfl ?_; refine LWP.exit <| LWP.seq <| LWP.region (by kernel_rfl) <| kas rfl <| RunK.nil <| LWP.ret ?_)
    exact ⟨[_], ⟨rfl, trivial⟩, rfl⟩
end Go.Proofs.YtnomcmklhbjfjaaGreatDoor
end
section

end
section
namespace Go.Proofs.YtnomcmklhbjfjaaGreatDoor
open Go Go.Lg Go.Lg.Fld Go.RowKit Go.ChangeShapes Go.WideShapes Go.Joins
set_option maxRecDepth 100000
section
variable {H : Type} {enc : TypeId × Value → H} {w : World}
end
end Go.Proofs.YtnomcmklhbjfjaaGreatDoor
end
section
namespace Go.Proofs.YtnomcmklhbjfjaaGreatDoor
open Go Go.Lg Go.Lg.Fld
set_option maxRecDepth 100000
variable (X : Nat → Option Obj)
end Go.Proofs.YtnomcmklhbjfjaaGreatDoor
end
section
namespace Go.Proofs.YtnomcmklhbjfjaaGreatDoor
open Go Go.Lg Go.Lg.Fld
set_option maxRecDepth 100000
theorem rows_in {Y : Nat → Option Obj} {blk : Nat} {arr : Array Value} {el : TypeId} {fr : Nat × Nat} {sz : Nat} {rows : List (List Value)} (hY : Y blk = some (.cells arr el fr)) (hl : ∀ r ∈ rows, r.length = sz) (hsp : ∃ sp, arr.toList = rows.flatten ++ sp) : Go.Lg.RowsIn Y (some ⟨blk, 0, none⟩) sz rows := fun i r hi => by
  obtain ⟨sp, e⟩ := hsp
  obtain ⟨h1, h2⟩ := flat_row hl (sp := sp) hi
  refine ⟨blk, 0, arr, el, fr, rfl, hY, ?_, ?_⟩
  · rw [← Array.length_toList, e]; omega
  · rw [e, Nat.zero_add]; exact h2
theorem nums_in {Y : Nat → Option Obj} {blk : Nat} {arr : Array Value} {el : TypeId} {fr : Nat × Nat} {zs : List Int} (hY : Y blk = some (.cells arr el fr)) (h : ∀ z ∈ zs, R127 z) (hsp : ∃ sp, arr.toList = nsV zs ++ sp) : NumsIn Y (some ⟨blk, 0, none⟩) (zs.map qn) :=
  ⟨rows_in hY (fun r hr => by obtain ⟨n, _, rfl⟩ := List.mem_map.1 hr; rfl) (by
    obtain ⟨sp, e⟩ := hsp
    exact ⟨sp, by rw [e, List.map_map]; rfl⟩), nums_in2 h⟩
variable (X : Nat → Option Obj)
end Go.Proofs.YtnomcmklhbjfjaaGreatDoor
end
section
namespace Go.Lg.Fld
open Go Go.Lg
theorem any_at {α : Type} {p : α → Bool} {l : List α} {i : Nat} {x : α} (h : l[i]? = some x) (hp : p x = true) : l.any p = true := List.any_eq_true.2 ⟨x, List.mem_of_getElem? h, hp⟩
theorem any_no {α : Type} {p : α → Bool} {l : List α} (h : ∀ (j : Nat) (y : α), l[j]? = some y → p y = false) : l.any p = false := by
  rw [List.any_eq_false]
  intro y hy
  obtain ⟨j, hj⟩ := List.mem_iff_getElem?.1 hy
  rw [h j y hj]; simp
end Go.Lg.Fld
namespace Go.Proofs.YtnomcmklhbjfjaaGreatDoor
open Go Go.Lg Go.Lg.Fld
set_option maxRecDepth 100000
variable (X : Nat → Option Obj)
def cs0 : List Cp := [⟨1, [112, 111, 115], [⟨[120], 3, 1⟩, ⟨[121], 3, 1⟩]⟩, ⟨3, [116, 97, 103], []⟩]
end Go.Proofs.YtnomcmklhbjfjaaGreatDoor
end
section
namespace Go.Proofs.YtnomcmklhbjfjaaGreatDoor
open Go Go.Lg Go.Lg.Fld
set_option maxRecDepth 100000
variable (X : Nat → Option Obj)
theorem same_retrofitref07 (Y : Nat → Option Obj) (a b : Sc) (ad ad2 : Option Addr) (cap cap2 : Nat) (ha : CompsIn Y ad a.cs) (hb : CompsIn Y ad2 b.cs) (hS : SmallC a.cs) (_ : SmallC b.cs) (r : Bool) (hr : decide (a = b) = r) : PSpec Tryz.prog Y 14 [Sx a.ver ad a.cs.length cap, Sx b.ver ad2 b.cs.length cap2] (Lb r) := sSame_spec Y a b ad ad2 cap cap2 ha hb (by have := hS.1; omega) (fun c hc => by have := (hS.2 c hc).1; omega) r hr
theorem same_lent_retrofitref07 {S : Nat → Option (Option Box)} {ver : Int} {ad : Option Addr} {cap k : Nat} {cs : List Cp} {e : TypeId} {cc : List CV} (hin : CompsIn X ad cs) (hS : SmallC cs) (hk : S k = some (some ⟨e, cc, .res (scR cs)⟩)) :
    ∀ (Y : Nat → Option Obj) (us : List Value), (∀ b o, X b = some o → Y b = some o) → LentLs S Y [Sx ver ad cs.length cap, .sv (.agg [.val (.int .i64 ver), .slc k 0 cs.length 3])] us → PSpec Tryz.prog Y 14 (us.map toLV) (Lb true) := by
  intro Y us hY hL
  obtain ⟨u1, us1, rfl, ⟨av, rfl, a1, av1, rfl, h1, a2, as2, rfl, h2, rfl⟩, u2, us2, rfl, ⟨bs, rfl, b1, bs1, rfl, h3, b2, bs2, rfl, ⟨b, blk, cap2, m, hk', rfl, hc, hfit, hB⟩, rfl⟩, rfl⟩ := hL
  have h1 : a1 = .int .i64 ver := h1
  have h2 : a2 = .slice ad cs.length cap := h2
  have h3 : b1 = .int .i64 ver := h3
  subst h1 h2 h3
  rw [hk] at hk'
  simp only [Option.some.injEq] at hk'
  subst hk'
  obtain ⟨H, hR, hHY⟩ := hB
  exact same_retrofitref07 Y ⟨ver, cs⟩ ⟨ver, cs⟩ ad (some ⟨blk, 0, none⟩) cap cap2 (hin.mono hY) (scR_in hR hHY) hS hS true (decide_eq_true rfl)
end Go.Proofs.YtnomcmklhbjfjaaGreatDoor
end
section
namespace Go.Lg.Fld
open Go Go.Lg
def Scan {α : Type} (p : α → Bool) (l : List α) (k : Nat) (v : Int) : Prop := (v = -1 ∧ ∀ (m : Nat) (y : α), k ≤ m → l[m]? = some y → p y = false) ∨ ∃ (i : Nat) (c : α), v = (i : Nat) ∧ l[i]? = some c ∧ p c = true ∧ ∀ (m : Nat) (y : α), k ≤ m → m < i → l[m]? = some y → p y = false
theorem Scan.hit {α : Type} {p : α → Bool} {l : List α} {k : Nat} {y : α} (hy : l[k]? = some y) (hp : p y = true) : Scan p l k (k : Nat) := .inr ⟨k, y, rfl, hy, hp, fun m y hm hk => by omega⟩
end Go.Lg.Fld
namespace Go.Proofs.YtnomcmklhbjfjaaGreatDoor
open Go Go.Lg Go.Lg.Fld
set_option maxRecDepth 100000
variable (X : Nat → Option Obj)
end Go.Proofs.YtnomcmklhbjfjaaGreatDoor
end
section
namespace Go.Proofs.YtnomcmklhbjfjaaGreatDoor
open Go Go.Lg Go.Lg.Fld
set_option maxRecDepth 100000
variable (X : Nat → Option Obj)
end Go.Proofs.YtnomcmklhbjfjaaGreatDoor
end
section
namespace Go.Lg.Fld
open Go Go.Lg
structure Good (cs : List Cp) : Prop where
  one : ∀ (i : Nat) (c : Cp), cs[i]? = some c → 1 ≤ c.id ∧ c.id ≤ 24 ∧ nmB c.nm = true ∧ firstE (fldE c.fs) 0 c.fs.length = 0 ∧ layErr c.fs = 0
  two : ∀ (i j : Nat) (c d : Cp), i < j → cs[i]? = some c → cs[j]? = some d → c.id < d.id ∧ c.nm ≠ d.nm
theorem good_of {cs : List Cp} (h : firstE (cmpE cs) 0 cs.length = 0) : Good cs := by
  have h0 : ∀ (i : Nat) (c : Cp), cs[i]? = some c → ¬(c.id < 1 ∨ 24 < c.id ∨ (0 < i ∧ c.id ≤ prevId cs i)) ∧ nmB c.nm = true ∧ (cs.take i).any (fun g => g.nm == c.nm) = false ∧ firstE (fldE c.fs) 0 c.fs.length = 0 ∧ layErr c.fs = 0 := fun i c hc => by
    have hi := (List.getElem?_eq_some_iff.1 hc).1
    have h1 := firstE_zero h i (Nat.zero_le _) (by omega)
    rw [cmpE_at hc] at h1
    by_cases b1 : c.id < 1 ∨ 24 < c.id ∨ (0 < i ∧ c.id ≤ prevId cs i)
    · rw [if_pos b1] at h1; cases h1
    · rw [if_neg b1] at h1
      by_cases b2 : nmB c.nm = true
      · rw [if_pos b2] at h1
        by_cases b3 : (cs.take i).any (fun g => g.nm == c.nm) = true
        · rw [if_pos b3] at h1; cases h1
        · rw [if_neg b3] at h1
          by_cases b4 : firstE (fldE c.fs) 0 c.fs.length = 0
          · rw [if_pos b4] at h1
            exact ⟨b1, b2, by simpa using b3, b4, h1⟩
          · rw [if_neg b4] at h1; cases h1
      · rw [if_neg b2] at h1; cases h1
  refine ⟨fun i c hc => ?_, fun i j c d hij hc hd => ⟨?_, fun e => ?_⟩⟩
  · obtain ⟨h1, h2, _, h4, h5⟩ := h0 i c hc
    exact ⟨by omega, by omega, h2, h4, h5⟩
  · obtain ⟨k, rfl⟩ : ∃ k, j = i + 1 + k := ⟨j - (i + 1), by omega⟩
    induction k generalizing d with
    | zero =>
      obtain ⟨h1, _⟩ := h0 _ d hd
      have hp : cs[i + 1 + 0 - 1]? = some c := hc
      have := prev_at hp
      omega
    | succ k ih =>
      obtain ⟨d', hd'⟩ : ∃ d', cs[i + 1 + k]? = some d' := ⟨_, List.getElem?_eq_getElem (by have := (List.getElem?_eq_some_iff.1 hd).1; omega)⟩
      have h2 := ih d' (by omega) hd'
      obtain ⟨h1, _⟩ := h0 _ d hd
      have hp : cs[i + 1 + (k + 1) - 1]? = some d' := hd'
      have := prev_at hp
      omega
  · obtain ⟨_, _, h3, _⟩ := h0 j d hd
    have := any_true (p := fun g : Cp => g.nm == d.nm) hij hc (by rw [beq_iff_eq]; exact e)
    rw [h3] at this; cases this
theorem comps_rows {Y : Nat → Option Obj} {blk : Nat} {arr : Array Value} {el : TypeId} {fr : Nat × Nat} {cs : List Cp} {cells sp : List Value} (hY : Y blk = some (.cells arr el fr)) (ha : arr.toList = rowsZ cs cells ++ sp) (hl : cells.length = cs.length) (hb : ∀ c ∈ cs, -9223372036854775808 ≤ c.id ∧ c.id < 9223372036854775808)
    (hf : ∀ (i : Nat) (c : Cp) (v : Value), cs[i]? = some c → cells[i]? = some v → ∃ fad fcap, v = .slice fad c.fs.length fcap ∧ FieldsIn Y fad c.fs) : CompsIn Y (some ⟨blk, 0, none⟩) cs := by
  refine ⟨fun i c hc => ?_, hb⟩
  have hi := (List.getElem?_eq_some_iff.1 hc).1
  obtain ⟨v, hv⟩ : ∃ v, cells[i]? = some v := ⟨_, List.getElem?_eq_getElem (by omega)⟩
  obtain ⟨fad, fcap, rfl, hF⟩ := hf i c v hc hv
  have hpre : (rowsZ (cs.take i) (cells.take i)).length = i * 3 := by rw [rowsZ_len (by rw [List.length_take, List.length_take, hl]), List.length_take, Nat.min_eq_left (by omega)]
  refine ⟨blk, 0, arr, el, fr, fad, fcap, rfl, hY, ?_, ?_, hF⟩
  · rw [← Array.length_toList, ha, List.length_append, rowsZ_len hl]; omega
  · rw [ha, rowsZ_split hc hv, Nat.zero_add, List.append_assoc, ← hpre, List.drop_left]; rfl
end Go.Lg.Fld
end
section
namespace Go.Lg.Fld
open Go Go.Lg
def by8 (n : Int) : UInt8 := UInt8.ofNat (n % 256).toNat
theorem by8_nat {n : Int} (h : 0 ≤ n ∧ n < 256) : ((by8 n).toNat : Int) = n := by
  unfold by8
  rw [UInt8.toNat_ofNat']
  omega
theorem by8_of (c : UInt8) : by8 (c.toNat : Nat) = c := by
  have h : c.toNat < 256 := c.toNat_lt
  apply UInt8.toNat_inj.1
  unfold by8
  rw [UInt8.toNat_ofNat']
  omega
def encT (nm : List UInt8) : List UInt8 := by8 nm.length :: nm
def encF (f : Fl) : List UInt8 := encT f.nm ++ [by8 f.kind, by8 f.count]
def encFs : List Fl → List UInt8
  | [] => []
  | f :: t => encF f ++ encFs t
def encC (c : Cp) : List UInt8 := by8 c.id :: encT c.nm ++ by8 c.fs.length :: encFs c.fs
def encCs : List Cp → List UInt8
  | [] => []
  | c :: t => encC c ++ encCs t
def encS (s : Sc) : List UInt8 := [83, by8 s.ver, by8 (s.ver / 256), by8 (s.ver / 65536), by8 (s.ver / 16777216), by8 s.cs.length] ++ encCs s.cs
theorem encFs_app : ∀ (a b : List Fl), encFs (a ++ b) = encFs a ++ encFs b
  | [], _ => rfl
  | f :: t, b => by simp only [List.cons_append, encFs, encFs_app t b, List.append_assoc]
theorem encCs_app : ∀ (a b : List Cp), encCs (a ++ b) = encCs a ++ encCs b
  | [], _ => rfl
  | f :: t, b => by simp only [List.cons_append, encCs, encCs_app t b, List.append_assoc]
def getT : List UInt8 → Option (List UInt8 × List UInt8)
  | [] => none
  | n :: r => if n.toNat ≤ r.length then some (r.take n.toNat, r.drop n.toNat) else none
def getF (b : List UInt8) : Option (Fl × List UInt8) := match getT b with
  | some (nm, k :: c :: r) => some (⟨nm, (k.toNat : Nat), (c.toNat : Nat)⟩, r)
  | _ => none
def getFs : Nat → List UInt8 → Option (List Fl × List UInt8)
  | 0, b => some ([], b)
  | n + 1, b => match getF b with
    | some (f, r) => match getFs n r with
      | some (fs, r') => some (f :: fs, r')
      | none => none
    | none => none
def getC (b : List UInt8) : Option (Cp × List UInt8) := match b with
  | [] => none
  | i :: r => match getT r with
    | some (nm, m :: r2) => match getFs m.toNat r2 with
      | some (fs, r3) => some (⟨(i.toNat : Nat), nm, fs⟩, r3)
      | none => none
    | _ => none
def getCs : Nat → List UInt8 → Option (List Cp × List UInt8)
  | 0, b => some ([], b)
  | n + 1, b => match getC b with
    | some (c, r) => match getCs n r with
      | some (cs, r') => some (c :: cs, r')
      | none => none
    | none => none
def verOf (a b c d : UInt8) : Int := (a.toNat + b.toNat * 256 + c.toNat * 65536 + d.toNat * 16777216 : Nat)
def decS (b : List UInt8) : Option Sc := match b with
  | m :: v0 :: v1 :: v2 :: v3 :: n :: r => if m = 83 then (match getCs n.toNat r with
    | some (cs, []) => if chkE ⟨verOf v0 v1 v2 v3, cs⟩ = 0 then some ⟨verOf v0 v1 v2 v3, cs⟩ else none
    | _ => none) else none
  | _ => none
def okT (nm : List UInt8) : Prop := nm.length < 256
def okF (f : Fl) : Prop := okT f.nm ∧ (0 ≤ f.kind ∧ f.kind < 256) ∧ (0 ≤ f.count ∧ f.count < 256)
def okC (c : Cp) : Prop := (0 ≤ c.id ∧ c.id < 256) ∧ okT c.nm ∧ c.fs.length < 256 ∧ ∀ f ∈ c.fs, okF f
theorem getT_enc {nm : List UInt8} (h : okT nm) (r : List UInt8) : getT (encT nm ++ r) = some (nm, r) := by
  have e : (by8 (nm.length : Nat)).toNat = nm.length := by
    have := by8_nat (n := (nm.length : Nat)) ⟨by omega, by unfold okT at h; omega⟩
    omega
  show (if (by8 (nm.length : Nat)).toNat ≤ (nm ++ r).length then some ((nm ++ r).take (by8 (nm.length : Nat)).toNat, (nm ++ r).drop (by8 (nm.length : Nat)).toNat) else none) = _
  rw [e, if_pos (by rw [List.length_append]; omega), List.take_left, List.drop_left]
theorem getF_enc {f : Fl} (h : okF f) (r : List UInt8) : getF (encF f ++ r) = some (f, r) := by
  unfold getF encF
  rw [List.append_assoc, getT_enc h.1]
  obtain ⟨nm, k, c⟩ := f
  obtain ⟨_, h2, h3⟩ := h
  simp only at h2 h3
  simp only [List.cons_append, List.nil_append]
  rw [by8_nat h2, by8_nat h3]
theorem getFs_enc : ∀ {fs : List Fl}, (∀ f ∈ fs, okF f) → ∀ r : List UInt8, getFs fs.length (encFs fs ++ r) = some (fs, r)
  | [], _, _ => rfl
  | f :: t, h, r => by
    simp only [List.length_cons, getFs, encFs, List.append_assoc]
    rw [getF_enc (h f (by simp))]
    simp only
    rw [getFs_enc (fs := t) fun g hg => h g (by simp [hg])]
theorem getC_enc {c : Cp} (h : okC c) (r : List UInt8) : getC (encC c ++ r) = some (c, r) := by
  obtain ⟨id, nm, fs⟩ := c
  obtain ⟨h1, h2, h3, h4⟩ := h
  simp only at h1 h2 h3 h4
  have e : (by8 (fs.length : Nat)).toNat = fs.length := by
    have := by8_nat (n := (fs.length : Nat)) ⟨by omega, by omega⟩
    omega
  unfold getC encC
  simp only [List.cons_append, List.append_assoc]
  rw [getT_enc h2]
  simp only
  rw [e, getFs_enc h4]
  simp only
  rw [by8_nat h1]
theorem getCs_enc : ∀ {cs : List Cp}, (∀ c ∈ cs, okC c) → ∀ r : List UInt8, getCs cs.length (encCs cs ++ r) = some (cs, r)
  | [], _, _ => rfl
  | c :: t, h, r => by
    simp only [List.length_cons, getCs, encCs, List.append_assoc]
    rw [getC_enc (h c (by simp))]
    simp only
    rw [getCs_enc (cs := t) fun g hg => h g (by simp [hg])]
theorem getT_back {b nm r : List UInt8} (h : getT b = some (nm, r)) : b = encT nm ++ r ∧ okT nm := by
  cases b with
  | nil => cases h
  | cons n t =>
    simp only [getT] at h
    by_cases h1 : n.toNat ≤ t.length
    · rw [if_pos h1] at h
      simp only [Option.some.injEq, Prod.mk.injEq] at h
      obtain ⟨rfl, rfl⟩ := h
      have hn : n.toNat < 256 := n.toNat_lt
      have hl : (t.take n.toNat).length = n.toNat := by rw [List.length_take]; omega
      refine ⟨?_, by unfold okT; omega⟩
      unfold encT
      rw [hl, by8_of, List.cons_append, List.take_append_drop]
    · rw [if_neg h1] at h; cases h
theorem getF_back {b r : List UInt8} {f : Fl} (h : getF b = some (f, r)) : b = encF f ++ r ∧ okF f := by
  unfold getF at h
  split at h
  · rename_i nm k c r' ht
    simp only [Option.some.injEq, Prod.mk.injEq] at h
    obtain ⟨rfl, rfl⟩ := h
    obtain ⟨h1, h2⟩ := getT_back ht
    have hk : k.toNat < 256 := k.toNat_lt
    have hc : c.toNat < 256 := c.toNat_lt
    refine ⟨?_, h2, (by first | omega | (simp only; omega)), (by first | omega | (simp only; omega))⟩
    unfold encF
    rw [h1, by8_of, by8_of, List.append_assoc]; rfl
  · simp at h
theorem getFs_back : ∀ {n : Nat} {b r : List UInt8} {fs : List Fl}, getFs n b = some (fs, r) → b = encFs fs ++ r ∧ fs.length = n ∧ ∀ f ∈ fs, okF f
  | 0, b, r, fs, h => by
    simp only [getFs, Option.some.injEq, Prod.mk.injEq] at h
    obtain ⟨rfl, rfl⟩ := h
    exact ⟨rfl, rfl, fun f hf => by cases hf⟩
  | n + 1, b, r, fs, h => by
    unfold getFs at h
    split at h
    · rename_i f r1 hf
      split at h
      · rename_i gs r2 hg
        simp only [Option.some.injEq, Prod.mk.injEq] at h
        obtain ⟨rfl, rfl⟩ := h
        obtain ⟨h1, h2⟩ := getF_back hf
        obtain ⟨h3, h4, h5⟩ := getFs_back hg
        refine ⟨by rw [h1, h3, encFs, List.append_assoc], by rw [List.length_cons, h4], fun g hg => ?_⟩
        rcases List.mem_cons.1 hg with rfl | hg
        · exact h2
        · exact h5 g hg
      · cases h
    · cases h
theorem getC_back {b r : List UInt8} {c : Cp} (h : getC b = some (c, r)) : b = encC c ++ r ∧ okC c := by
  unfold getC at h
  split at h
  · cases h
  · rename_i i r0
    split at h
    · rename_i nm m r2 ht
      split at h
      · rename_i fs r3 hf
        simp only [Option.some.injEq, Prod.mk.injEq] at h
        obtain ⟨rfl, rfl⟩ := h
        obtain ⟨h1, h2⟩ := getT_back ht
        obtain ⟨h3, h4, h5⟩ := getFs_back hf
        have hi : i.toNat < 256 := i.toNat_lt
        have hm : m.toNat < 256 := m.toNat_lt
        refine ⟨?_, (by first | omega | (simp only; omega)), h2, (by first | omega | (simp only; omega)), h5⟩
        unfold encC
        simp only
        rw [h4, by8_of, by8_of, h1, h3]
        simp
      · cases h
    · cases h
theorem getCs_back : ∀ {n : Nat} {b r : List UInt8} {cs : List Cp}, getCs n b = some (cs, r) → b = encCs cs ++ r ∧ cs.length = n ∧ ∀ c ∈ cs, okC c
  | 0, b, r, cs, h => by
    simp only [getCs, Option.some.injEq, Prod.mk.injEq] at h
    obtain ⟨rfl, rfl⟩ := h
    exact ⟨rfl, rfl, fun f hf => by cases hf⟩
  | n + 1, b, r, cs, h => by
    unfold getCs at h
    split at h
    · rename_i c r1 hc
      split at h
      · rename_i gs r2 hg
        simp only [Option.some.injEq, Prod.mk.injEq] at h
        obtain ⟨rfl, rfl⟩ := h
        obtain ⟨h1, h2⟩ := getC_back hc
        obtain ⟨h3, h4, h5⟩ := getCs_back hg
        refine ⟨by rw [h1, h3, encCs, List.append_assoc], by rw [List.length_cons, h4], fun g hg => ?_⟩
        rcases List.mem_cons.1 hg with rfl | hg
        · exact h2
        · exact h5 g hg
      · cases h
    · cases h
theorem ok_of_check {s : Sc} (h : chkE s = 0) : (1 ≤ s.ver ∧ s.ver ≤ 1073741824) ∧ s.cs.length ≤ 24 ∧ ∀ c ∈ s.cs, okC c := by
  unfold chkE at h
  by_cases hv : s.ver < 1 ∨ 1073741824 < s.ver
  · rw [if_pos hv] at h; cases h
  rw [if_neg hv] at h
  have g := good_of h
  have hnm : ∀ l : List UInt8, nmB l = true → l.length ≤ 12 := fun l hl => by
    unfold nmB at hl
    simp only [Bool.and_eq_true, decide_eq_true_eq] at hl
    exact hl.1.2
  have hid : ∀ (i : Nat) (c : Cp), s.cs[i]? = some c → (i : Int) + 1 ≤ c.id := by
    intro i
    induction i with
    | zero => intro c hc; have := (g.one 0 c hc).1; omega
    | succ i ih =>
      intro c hc
      obtain ⟨d, hd⟩ : ∃ d, s.cs[i]? = some d := ⟨_, List.getElem?_eq_getElem (by have := (List.getElem?_eq_some_iff.1 hc).1; omega)⟩
      have h1 := ih d hd
      have h2 := (g.two i (i + 1) d c (by omega) hd hc).1
      omega
  refine ⟨by omega, ?_, fun c hc => ?_⟩
  · by_cases h0 : s.cs.length = 0
    · omega
    · obtain ⟨d, hd⟩ : ∃ d, s.cs[s.cs.length - 1]? = some d := ⟨_, List.getElem?_eq_getElem (by omega)⟩
      have h1 := hid _ d hd
      have h2 := (g.one _ d hd).2.1
      omega
  · obtain ⟨i, hi⟩ := List.mem_iff_getElem?.1 hc
    obtain ⟨h1, h2, h3, h4, h5⟩ := g.one i c hi
    obtain ⟨h8, hall, _⟩ := Go.Proofs.YtnomcmklhbjfjaaGreatDoor.layErr_facts h5
    refine ⟨by omega, by have := hnm _ h3; unfold okT; omega, by omega, fun f hf => ?_⟩
    obtain ⟨k, hk⟩ := List.mem_iff_getElem?.1 hf
    have e1 := firstE_zero h4 k (Nat.zero_le _) (by have := (List.getElem?_eq_some_iff.1 hk).1; omega)
    rw [fldE_at hk] at e1
    have hfn : nmB f.nm = true := by
      by_cases hfn : nmB f.nm = true
      · exact hfn
      · rw [if_neg hfn] at e1; cases e1
    have hok := List.all_eq_true.1 hall f hf
    unfold Fl.ok at hok
    simp only [Bool.and_eq_true, decide_eq_true_eq] at hok
    refine ⟨by have := hnm _ hfn; unfold okT; omega, ?_, by omega⟩
    have := (kK_iff _).1 hok.1
    omega
theorem ver_split {v : Int} (h : 0 ≤ v ∧ v < 4294967296) : verOf (by8 v) (by8 (v / 256)) (by8 (v / 65536)) (by8 (v / 16777216)) = v := by
  unfold verOf by8
  rw [UInt8.toNat_ofNat', UInt8.toNat_ofNat', UInt8.toNat_ofNat', UInt8.toNat_ofNat']
  omega
theorem ver_join (a b c d : UInt8) : by8 (verOf a b c d) = a ∧ by8 (verOf a b c d / 256) = b ∧ by8 (verOf a b c d / 65536) = c ∧ by8 (verOf a b c d / 16777216) = d ∧ 0 ≤ verOf a b c d ∧ verOf a b c d < 4294967296 := by
  have ha : a.toNat < 256 := a.toNat_lt
  have hb : b.toNat < 256 := b.toNat_lt
  have hc : c.toNat < 256 := c.toNat_lt
  have hd : d.toNat < 256 := d.toNat_lt
  refine ⟨?_, ?_, ?_, ?_, by unfold verOf; omega, by unfold verOf; omega⟩ <;> (apply UInt8.toNat_inj.1; unfold by8 verOf; rw [UInt8.toNat_ofNat']; omega)
theorem dec_enc {s : Sc} (h : chkE s = 0) : decS (encS s) = some s := by
  obtain ⟨h1, h2, h3⟩ := ok_of_check h
  obtain ⟨ver, cs⟩ := s
  simp only at h1 h2 h3
  have e : (by8 (cs.length : Nat)).toNat = cs.length := by
    have := by8_nat (n := (cs.length : Nat)) ⟨by omega, by omega⟩
    omega
  have hg := getCs_enc h3 []
  rw [List.append_nil] at hg
  unfold decS encS
  simp only [List.cons_append, List.nil_append]
  rw [if_pos trivial, e, hg]
  simp only
  rw [ver_split ⟨by omega, by omega⟩, if_pos h]
theorem enc_dec {b : List UInt8} {s : Sc} (h : decS b = some s) : encS s = b ∧ chkE s = 0 := by
  unfold decS at h
  split at h
  · rename_i m v0 v1 v2 v3 n r
    split at h
    · rename_i hm
      split at h
      · rename_i cs hg
        split at h
        · rename_i hc
          simp only [Option.some.injEq] at h
          subst h
          refine ⟨?_, hc⟩
          obtain ⟨h1, h2, _⟩ := getCs_back hg
          obtain ⟨g0, g1, g2, g3, _⟩ := ver_join v0 v1 v2 v3
          unfold encS
          simp only
          rw [g0, g1, g2, g3, h2, by8_of, h1, hm, List.append_nil]; rfl
        · cases h
      · cases h
    · cases h
  · cases h
theorem dec_more {s : Sc} (h : chkE s = 0) (x : UInt8) : decS (encS s ++ [x]) = none := by
  obtain ⟨h1, h2, h3⟩ := ok_of_check h
  obtain ⟨ver, cs⟩ := s
  simp only at h1 h2 h3
  have e : (by8 (cs.length : Nat)).toNat = cs.length := by
    have := by8_nat (n := (cs.length : Nat)) ⟨by omega, by omega⟩
    omega
  unfold decS encS
  simp only [List.cons_append, List.nil_append]
  rw [if_pos trivial, e, getCs_enc h3 [x]]
theorem dec_less {s : Sc} (h : chkE s = 0) : decS ((encS s).take ((encS s).length - 1)) = none := by
  cases hd : decS ((encS s).take ((encS s).length - 1)) with
  | none => rfl
  | some s' =>
    obtain ⟨h1, h2⟩ := enc_dec hd
    have hl : 1 ≤ (encS s).length := by unfold encS; simp
    have h3 : encS s = encS s' ++ [(encS s)[(encS s).length - 1]'(by omega)] := by
      rw [h1]
      conv => lhs; rw [← List.take_append_drop ((encS s).length - 1) (encS s)]
      congr 1
      rw [List.drop_eq_getElem_cons (by omega), List.drop_eq_nil_of_le (by omega)]
    have h4 := dec_more h2 ((encS s)[(encS s).length - 1]'(by omega))
    rw [← h3, dec_enc h] at h4
    cases h4
theorem enc_inj {a b : Sc} (ha : chkE a = 0) (hb : chkE b = 0) : decide (encS a = encS b) = decide (a = b) := by
  by_cases e : a = b
  · rw [decide_eq_true e, e, decide_eq_true rfl]
  · rw [decide_eq_false e, decide_eq_false fun h => e (by
      have := dec_enc ha
      rw [h, dec_enc hb] at this
      exact (Option.some.inj this).symm)]
end Go.Lg.Fld
end
section
namespace Go.Lg.Fld
open Go Go.Lg
theorem by8_wrap (n : Int) : IntKind.u8.wrap n = (((by8 n).toNat : Nat) : Int) := by
  unfold by8
  rw [IntKind.wrap_u8, UInt8.toNat_ofNat']
  omega
theorem encFs_len : ∀ {fs : List Fl}, (∀ f ∈ fs, okF f) → (encFs fs).length ≤ fs.length * 258
  | [], _ => by simp [encFs]
  | f :: t, h => by
    have h1 := encFs_len (fs := t) fun g hg => h g (by simp [hg])
    have h2 := (h f (by simp)).1
    unfold okT at h2
    simp only [encFs, encF, encT, List.length_append, List.length_cons, List.length_nil]
    omega
theorem encC_len {c : Cp} (h : okC c) : (encC c).length ≤ 70000 := by
  obtain ⟨h1, h2, h3, h4⟩ := h
  have h5 := encFs_len h4
  unfold okT at h2
  simp only [encC, encT, List.length_append, List.length_cons, List.cons_append]
  omega
theorem encCs_len : ∀ {cs : List Cp}, (∀ c ∈ cs, okC c) → (encCs cs).length ≤ cs.length * 70000
  | [], _ => by simp [encCs]
  | c :: t, h => by
    have h1 := encCs_len (cs := t) fun g hg => h g (by simp [hg])
    have h2 := encC_len (h c (by simp))
    simp only [encCs, List.length_append, List.length_cons]
    omega
theorem encCs_snoc {cs : List Cp} {i : Nat} {c : Cp} (h : cs[i]? = some c) : encCs (cs.take (i + 1)) = encCs (cs.take i) ++ encC c := by rw [take_snoc h, encCs_app]; simp [encCs]
theorem encFs_snoc {fs : List Fl} {i : Nat} {f : Fl} (h : fs[i]? = some f) : encFs (fs.take (i + 1)) = encFs (fs.take i) ++ encF f := by rw [take_snoc h, encFs_app]; simp [encFs]
end Go.Lg.Fld
namespace Go.Proofs.YtnomcmklhbjfjaaGreatDoor
open Go Go.Lg Go.Lg.Fld
set_option maxRecDepth 100000
variable (X : Nat → Option Obj)
theorem drop_cons {l : List UInt8} {i : Nat} {c : UInt8} (h : l[i]? = some c) : l.drop i = c :: l.drop (i + 1) := by
  obtain ⟨hi, e⟩ := List.getElem?_eq_some_iff.1 h
  rw [← e, List.getElem_cons_drop]
theorem text_some (l : List UInt8) (at_ : Nat) (hb : l.length < 1099511627776) {nm r : List UInt8} (h : getT (l.drop at_) = some (nm, r)) :
    PSpec Tryz.prog X 34 [Ls l, Ln .i64 (at_ : Nat)] (.tup [Ss nm, Sn .i64 (at_ + 1 + nm.length : Nat)]) ∧ r = l.drop (at_ + 1 + nm.length) ∧ at_ + 1 + nm.length ≤ l.length := by
  have hlen : (⟨l.toArray⟩ : ByteArray).size = l.length := rfl
  by_cases hlt : at_ < l.length
  · obtain ⟨c, hc⟩ : ∃ c, l[at_]? = some c := ⟨_, List.getElem?_eq_getElem hlt⟩
    rw [drop_cons hc] at h
    simp only [getT] at h
    by_cases hn : c.toNat ≤ (l.drop (at_ + 1)).length
    · rw [if_pos hn] at h
      simp only [Option.some.injEq, Prod.mk.injEq] at h
      obtain ⟨h1, h2⟩ := h
      rw [List.length_drop] at hn
      have hnl : nm.length = c.toNat := by rw [← h1, List.length_take, List.length_drop]; omega
      refine ⟨?_, by rw [← h2, List.drop_drop, hnl], by omega⟩
      have hget : (⟨l.toArray⟩ : ByteArray)[((at_ : Nat) : Int).toNat]? = some c := str_at (by rw [Int.toNat_natCast]; exact hc)
      have hcv : IntKind.i64.wrap ((c.toNat : Nat) : Int) = ((c.toNat : Nat) : Int) := wrap_i64 (by have := c.toNat_lt; omega)
      have ha1 : IntKind.i64.wrap (((at_ : Nat) : Int) + 1) = ((at_ + 1 : Nat) : Int) := by rw [wrap_i64 (by omega)]; omega
      have hc8 : c.toNat < 256 := c.toNat_lt
      have ha2 : IntKind.i64.wrap (((at_ + 1 : Nat) : Int) + ((c.toNat : Nat) : Int)) = ((at_ + 1 + nm.length : Nat) : Int) := by rw [wrap_i64 (by omega)]; omega
      have hcut : (⟨l.toArray⟩ : ByteArray).extract (at_ + 1) (at_ + 1 + nm.length) = ⟨nm.toArray⟩ := by
        rw [str_cut, show at_ + 1 + nm.length - (at_ + 1) = c.toNat by omega, h1]
      refine PSpec.intro Tryz.func34 rfl (by kernel_rfl) rfl rfl ?_
      intro C
      (refine LWP.seq <| LWP.region (by kernel_rfl) <| kas rfl <| kas rfl <| RunK.nil <| LWP.seq <| LWP.seq <| LWP.region (by kernel_rfl) <| kmv rfl <| klt rfl rfl (decide_eq_false (by omega)) <| kmv rfl <| gmv rfl rfl rfl <| gmv rfl rfl rfl <| K.lenStr rfl (.taken rfl rfl) ?_; refine K.geq rfl rfl (decide_eq_false (by rw [hlen]; omega)) (.taken rfl rfl) ?_; refine kpf rfl rfl <| kmv rfl <| gmv rfl rfl rfl <| K.add rfl rfl ha1 (.taken rfl rfl) ?_; refine gmv rfl rfl rfl <| gmv rfl rfl rfl <| K.indexStr rfl rfl (by omega) hget (.taken rfl rfl) ?_; refine K.conv rfl hcv (.taken rfl rfl) ?_; refine K.add rfl rfl ha2 (.taken rfl rfl) ?_; refine gmv rfl rfl rfl <| K.lenStr rfl (.taken rfl rfl) ?_; refine K.gtr rfl rfl (decide_eq_false (by rw [hlen]; omega)) (.taken rfl rfl) ?_; refine kpf rfl rfl <| RunK.nil <| LWP.condF rfl ?_; refine LWP.skip ?_; refine LWP.seq <| LWP.region (by kernel_rfl) <| kmv rfl <| kmv rfl <| K.indexStr rfl rfl (by omega) hget .plain <| kcv rfl hcv ?_; refine kas rfl <| RunK.nil <| LWP.seq <| LWP.region (by kernel_rfl) <| kmv rfl <| kmv rfl <| kad rfl rfl ha1 <| kmv rfl <| kad rfl rfl ha1 <| kmv rfl <| kad rfl rfl ha2 <| K.sliceStr (l := at_ + 1) (h := at_ + 1 + nm.length) (kl := .i64) (kh := .i64) rfl StrT.u rfl rfl ⟨(by omega), (by rw [hlen]; omega)⟩ hcut .plain <| kmv rfl <| kad rfl rfl ha1 ?_; refine kmv rfl <| kad rfl rfl ha2 <| kas rfl <| kas rfl <| RunK.nil <| LWP.ret ?_)
      exact ⟨[_, _], ⟨rfl, rfl, trivial⟩, rfl⟩
    · rw [if_neg hn] at h; cases h
  · rw [List.drop_eq_nil_of_le (by omega)] at h
    cases h
theorem text_none (l : List UInt8) (at_ : Nat) (hb : l.length < 1099511627776) (hab : at_ < 1099511627776) (h : getT (l.drop at_) = none) :
    PSpec Tryz.prog X 34 [Ls l, Ln .i64 (at_ : Nat)] (.tup [Ss [], Sn .i64 (-1)]) := by
  have hlen : (⟨l.toArray⟩ : ByteArray).size = l.length := rfl
  refine PSpec.intro Tryz.func34 rfl (by kernel_rfl) rfl rfl ?_
  intro C
  by_cases hlt : at_ < l.length
  · obtain ⟨c, hc⟩ : ∃ c, l[at_]? = some c := ⟨_, List.getElem?_eq_getElem hlt⟩
    rw [drop_cons hc] at h
    simp only [getT] at h
    by_cases hn : c.toNat ≤ (l.drop (at_ + 1)).length
    · rw [if_pos hn] at h; cases h
    · rw [List.length_drop] at hn
      have hget : (⟨l.toArray⟩ : ByteArray)[((at_ : Nat) : Int).toNat]? = some c := str_at (by rw [Int.toNat_natCast]; exact hc)
      have hcv : IntKind.i64.wrap ((c.toNat : Nat) : Int) = ((c.toNat : Nat) : Int) := wrap_i64 (by have := c.toNat_lt; omega)
      have ha1 : IntKind.i64.wrap (((at_ : Nat) : Int) + 1) = ((at_ + 1 : Nat) : Int) := by rw [wrap_i64 (by omega)]; omega
      have hc8 : c.toNat < 256 := c.toNat_lt
      have ha2 : IntKind.i64.wrap (((at_ + 1 : Nat) : Int) + ((c.toNat : Nat) : Int)) = ((at_ + 1 + c.toNat : Nat) : Int) := by rw [wrap_i64 (by omega)]; omega
      (refine LWP.seq <| LWP.region (by kernel_rfl) <| kas rfl <| kas rfl <| RunK.nil <| LWP.seq <| LWP.seq <| LWP.region (by kernel_rfl) <| kmv rfl <| klt rfl rfl (decide_eq_false (by omega)) <| kmv rfl <| gmv rfl rfl rfl <| gmv rfl rfl rfl <| K.lenStr rfl (.taken rfl rfl) ?_; refine K.geq rfl rfl (decide_eq_false (by rw [hlen]; omega)) (.taken rfl rfl) ?_; refine kpf rfl rfl <| kmv rfl <| gmv rfl rfl rfl <| K.add rfl rfl ha1 (.taken rfl rfl) ?_; refine gmv rfl rfl rfl <| gmv rfl rfl rfl <| K.indexStr rfl rfl (by omega) hget (.taken rfl rfl) ?_; refine K.conv rfl hcv (.taken rfl rfl) ?_; refine K.add rfl rfl ha2 (.taken rfl rfl) ?_; refine gmv rfl rfl rfl <| K.lenStr rfl (.taken rfl rfl) ?_; refine K.gtr rfl rfl (decide_eq_true (by rw [hlen]; omega)) (.taken rfl rfl) ?_; refine kpf rfl rfl <| RunK.nil <| LWP.condT rfl ?_; refine LWP.seq <| LWP.region (by kernel_rfl) <| kas rfl <| kas rfl <| RunK.nil <| LWP.ret ?_)
      exact ⟨[_, _], ⟨rfl, rfl, trivial⟩, rfl⟩
  · (refine LWP.seq <| LWP.region (by kernel_rfl) <| kas rfl <| kas rfl <| RunK.nil <| LWP.seq <| LWP.seq <| LWP.region (by kernel_rfl) <| kmv rfl <| klt rfl rfl (decide_eq_false (by omega)) <| kmv rfl <| gmv rfl rfl rfl <| gmv rfl rfl rfl <| K.lenStr rfl (.taken rfl rfl) ?_; refine K.geq rfl rfl (decide_eq_true (by rw [hlen]; omega)) (.taken rfl rfl) ?_; refine kpf rfl rfl <| kmv rfl <| RunK.passed rfl rfl rfl <| RunK.passed rfl rfl rfl <| RunK.passed rfl rfl rfl <| RunK.passed rfl rfl rfl <| RunK.passed rfl rfl rfl <| RunK.passed rfl rfl rfl <| RunK.passed rfl rfl rfl <| RunK.passed rfl rfl rfl <| RunK.passed rfl rfl rfl <| RunK.passed rfl rfl rfl <| kpt rfl rfl <| RunK.nil ?_; refine LWP.condT rfl ?_; refine LWP.seq <| LWP.region (by kernel_rfl) <| kas rfl <| kas rfl <| RunK.nil <| LWP.ret ?_)
    exact ⟨[_, _], ⟨rfl, rfl, trivial⟩, rfl⟩
end Go.Proofs.YtnomcmklhbjfjaaGreatDoor
end
section
namespace Go.Proofs.YtnomcmklhbjfjaaGreatDoor
open Go Go.Lg Go.Lg.Fld
set_option maxRecDepth 100000
variable (X : Nat → Option Obj)
abbrev encB (k : Nat) (l : List UInt8) (r : Bool) : Nat × Option Box := (k, some ⟨5, l.map bc, r⟩)
abbrev sc1 (k : Nat) (l : List UInt8) : LV := .sv (.one (.slc k 0 l.length))
theorem ver_bytes {v : Int} (h : 1 ≤ v ∧ v ≤ 1073741824) : IntKind.u8.wrap (v.tmod 256) = (((by8 v).toNat : Nat) : Int) ∧ IntKind.i64.wrap (v.tdiv 256) = v / 256 ∧ IntKind.u8.wrap ((v / 256).tmod 256) = (((by8 (v / 256)).toNat : Nat) : Int) ∧
    IntKind.i64.wrap (v.tdiv 65536) = v / 65536 ∧ IntKind.u8.wrap ((v / 65536).tmod 256) = (((by8 (v / 65536)).toNat : Nat) : Int) ∧ IntKind.i64.wrap (v.tdiv 16777216) = v / 16777216 ∧ IntKind.u8.wrap (v / 16777216) = (((by8 (v / 16777216)).toNat : Nat) : Int) := by
  have hq : ∀ d : Int, 0 < d → IntKind.i64.wrap (v.tdiv d) = v / d := fun d hd => by
    rw [Int.tdiv_eq_ediv_of_nonneg (by omega), wrap_i64]
    have h1 : 0 ≤ v / d := Int.ediv_nonneg (by omega) (by omega)
    have h2 : v / d ≤ v := Int.ediv_le_self _ (by omega)
    omega
  have hm : ∀ x : Int, 0 ≤ x → IntKind.u8.wrap (x.tmod 256) = (((by8 x).toNat : Nat) : Int) := fun x hx => by
    rw [Int.tmod_eq_emod_of_nonneg hx, by8_wrap]
    congr 2
    apply UInt8.toNat_inj.1
    unfold by8
    rw [UInt8.toNat_ofNat', UInt8.toNat_ofNat']
    omega
  exact ⟨hm v (by omega), hq 256 (by decide), hm _ (by omega), hq 65536 (by decide), hm _ (by omega), hq 16777216 (by decide), by8_wrap _⟩
set_option maxHeartbeats 12800000 in
theorem sEncode_spec (s : Sc) (ad : Option Addr) (cap : Nat) (hin : CompsIn X ad s.cs) (hchk : chkE s = 0) : PSpec Tryz.prog X 11 [Sx s.ver ad s.cs.length cap] (Ls (encS s)) := by
  obtain ⟨hv, hn, hok⟩ := ok_of_check hchk
  obtain ⟨ver, cs⟩ := s
  simp only at hin hv hn hok ⊢
  have hcsl := encCs_len hok
  obtain ⟨e1, e2, e3, e4, e5, e6, e7⟩ := ver_bytes hv
  refine PSpec.intro Tryz.func11 rfl (by kernel_rfl) rfl rfl ?_
  intro C
  (refine LWP.seq <| LWP.region (by kernel_rfl) <| K.box rfl rfl rfl .plain <| kas rfl <| RunK.nil <| LWP.seq <| LWP.region (by kernel_rfl) <| kfa rfl rfl ?_; refine kl1 rfl rfl rfl <| kas rfl <| RunK.nil <| LWP.seq <| LWP.region (by kernel_rfl) <| kmv rfl <| K.rem rfl rfl (by decide) rfl .plain <| kcv rfl e1 ?_; refine kmv rfl <| K.quo rfl rfl (by decide) e2 .plain <| K.rem rfl rfl (by decide) rfl .plain <| kcv rfl e3 ?_; refine kmv rfl <| K.quo rfl rfl (by decide) e4 .plain <| K.rem rfl rfl (by decide) rfl .plain <| kcv rfl e5 ?_; refine kmv rfl <| K.quo rfl rfl (by decide) e6 .plain <| kcv rfl e7 ?_; refine kfa rfl rfl ?_; refine kl1 rfl rfl rfl <| K.lenX rfl SliceT.h rfl .plain ?_; refine kcv rfl (by8_wrap _) ?_; refine K.buildSlc (zs := List.replicate 6 (.int .u8 0)) (sz := 1) (e := 5) (cs' := [83, by8 ver, by8 (ver / 256), by8 (ver / 65536), by8 (ver / 16777216), by8 cs.length].map bc) (by kernel_rfl) rfl rfl rfl rfl rfl rfl .plain <| kas rfl <| RunK.nil <| LWP.seq <| LWP.seq <| LWP.region (by kernel_rfl) <| kas rfl <| RunK.nil <| LWP.block ?_)
  generalize hh : [83, by8 ver, by8 (ver / 256), by8 (ver / 65536), by8 (ver / 16777216), by8 cs.length] = hd at *
  have hhl : hd.length = 6 := by rw [← hh]; rfl
  have hfin : encS ⟨ver, cs⟩ = hd ++ encCs cs := by rw [← hh]; rfl
  rw [hfin]
  refine LWP.loop (fun m σ => ∃ (i : Nat) (r : Bool), i ≤ cs.length ∧ m = cs.length - i ∧ σ = ⟨[(1, Lp 1), (4, sc1 500 (hd ++ encCs (cs.take i))), (5, Ln .i64 (i : Nat))], [encB 500 (hd ++ encCs (cs.take i)) r, sxB 1 ver ad cs.length cap], X⟩) cs.length
    ⟨⟨[(1, Lp 1), (4, sc1 500 (hd ++ encCs (cs.take 0))), (5, Ln .i64 (0 : Nat))], [encB 500 (hd ++ encCs (cs.take 0)) false, sxB 1 ver ad cs.length cap], X⟩, by
      unfold sc1 encB
      rw [show hd ++ encCs (cs.take 0) = hd from List.append_nil _, hhl]
      exact Le.ofR [(500, 29)] (by exact ⟨rfl, rfl, rfl, trivial⟩) (by repeat' (first | exact trivial | refine And.intro ⟨_, rfl, ?_⟩ ?_ | refine And.intro ⟨_, rfl⟩ ?_ | rfl | exact Box.ren_bytes _ _ _ _ | exact Box.ren_vals _ _ _ _ | exact Box.ren_mid rfl)) (by exact rfl) (by exact rfl) (by repeat' (first | refine all_cons_true ?_ ?_ | rfl | exact bytes_inUse | exact vals_inUse | exact mid_inUse rfl)) (by exact rfl) (by exact rfl), 0, false, by omega, by omega, rfl⟩ ?_
  rintro m σ ⟨i, r, hi, rfl, rfl⟩
  by_cases hlt : i < cs.length
  · obtain ⟨c, hc⟩ : ∃ c, cs[i]? = some c := ⟨_, List.getElem?_eq_getElem hlt⟩
    obtain ⟨blk, off, arr, el, fr, fad, fcap, rfl, hX, hsz, hcs, _, _, _, hF⟩ := hin.get hc
    have hio : off + Int.toNat (i : Int) * 3 = off + i * 3 := by simp
    obtain ⟨hc1, hc2, hc3, hc4⟩ := hok c (List.mem_of_getElem? hc)
    have hpl := encCs_len (cs := cs.take i) fun c hc => hok c (List.mem_of_mem_take hc)
    have hfl := encFs_len hc4
    have hlen : (⟨c.nm.toArray⟩ : ByteArray).size = c.nm.length := rfl
    have hsnoc := encCs_snoc hc
    rw [List.length_take] at hpl
    have hBl : (hd ++ encCs (cs.take i)).length ≤ 6 + 24 * 70000 := by rw [List.length_append, hhl]; omega
    unfold okT at hc2
    generalize hB : hd ++ encCs (cs.take i) = B at *
    have hlm : ∀ l : List UInt8, (l.map bc).length = l.length * 1 := fun l => by rw [List.length_map, Nat.mul_one]
    have j1 : B.map bc ++ [by8 c.id, by8 c.nm.length].map bc = (B ++ [by8 c.id, by8 c.nm.length]).map bc := (List.map_append ..).symm
    have j2 : (B ++ [by8 c.id, by8 c.nm.length]).map bc ++ c.nm.map bc = ((B ++ [by8 c.id, by8 c.nm.length]) ++ c.nm).map bc := (List.map_append ..).symm
    have j3 : ((B ++ [by8 c.id, by8 c.nm.length]) ++ c.nm).map bc ++ [by8 c.fs.length].map bc = (((B ++ [by8 c.id, by8 c.nm.length]) ++ c.nm) ++ [by8 c.fs.length]).map bc := (List.map_append ..).symm
    have l1 : B.length + 2 = (B ++ [by8 c.id, by8 c.nm.length]).length := by rw [List.length_append]; rfl
    have l2 : (B ++ [by8 c.id, by8 c.nm.length]).length + c.nm.length = ((B ++ [by8 c.id, by8 c.nm.length]) ++ c.nm).length := by rw [List.length_append (bs := c.nm)]
    have l3 : ((B ++ [by8 c.id, by8 c.nm.length]) ++ c.nm).length + 1 = (((B ++ [by8 c.id, by8 c.nm.length]) ++ c.nm) ++ [by8 c.fs.length]).length := by rw [List.length_append (bs := [by8 c.fs.length])]; rfl
    have w2 : IntKind.u8.wrap ((⟨c.nm.toArray⟩ : ByteArray).size : Int) = (((by8 c.nm.length).toNat : Nat) : Int) := by rw [hlen]; exact by8_wrap _
    (refine LWP.seq <| LWP.seq <| LWP.region (by kernel_rfl) <| kmv rfl <| kfa rfl rfl ?_; refine kl1 rfl rfl rfl <| K.lenX rfl SliceT.h rfl .plain ?_; refine klt rfl rfl (decide_eq_true (by omega)) <| RunK.nil <| LWP.condT rfl ?_; refine LWP.skip ?_; refine LWP.seq <| LWP.block <| LWP.seq <| LWP.region (by kernel_rfl) <| kfa rfl rfl ?_; refine kl1 rfl rfl rfl <| kmv rfl <| K.indexX rfl rfl SliceT.h (by omega) hio .plain <| K.loadXagg rfl hX (by kernel_rfl) hsz hcs .plain <| K.alloc rfl .plain ?_; refine K.storeAll rfl rfl rfl rfl rfl rfl .plain ?_; refine RunK.nil <| LWP.seq ?_)
    have hq1 : (B ++ [by8 c.id, by8 c.nm.length]).length = B.length + 2 := l1.symm
    have hq2 : ((B ++ [by8 c.id, by8 c.nm.length]) ++ c.nm).length = B.length + 2 + c.nm.length := by rw [← l2, hq1]
    have hq3 : (((B ++ [by8 c.id, by8 c.nm.length]) ++ c.nm) ++ [by8 c.fs.length]).length = B.length + 2 + c.nm.length + 1 := by rw [← l3, hq2]
    (refine LWP.region (by kernel_rfl) <| kmv rfl <| kfa rfl rfl ?_; refine kl1 rfl rfl rfl <| kcv rfl (by8_wrap _) ?_; refine kfa rfl rfl ?_; refine kl1 rfl rfl rfl <| kln rfl <| kcv rfl w2 ?_; refine K.buildSlc (zs := [.int .u8 0, .int .u8 0]) (sz := 1) (e := 5) (cs' := [by8 c.id, by8 c.nm.length].map bc) (by kernel_rfl) rfl rfl rfl rfl rfl rfl .plain <| K.appendSlc (by_ := 1) (e2 := 5) (l2 := [by8 c.id, by8 c.nm.length].map bc) (nl := (B ++ [by8 c.id, by8 c.nm.length]).length) (nc := (B ++ [by8 c.id, by8 c.nm.length]).map bc) rfl rfl (hlm _) rfl rfl (Nat.le_refl _) rfl rfl (by kernel_rfl) (by kernel_rfl) (by omega) (by omega) rfl l1 j1 .plain <| kas rfl <| RunK.nil <| LWP.seq <| LWP.region (by kernel_rfl) <| kmv rfl <| kfa rfl rfl ?_; refine kl1 rfl rfl rfl <| K.appendStr (by_ := 1) (nl := ((B ++ [by8 c.id, by8 c.nm.length]) ++ c.nm).length) (nc := ((B ++ [by8 c.id, by8 c.nm.length]) ++ c.nm).map bc) rfl rfl (List.length_map _) rfl (by kernel_rfl) StrT.u (by omega) (by omega) rfl l2 j2 .plain <| kas rfl <| RunK.nil <| LWP.seq <| LWP.region (by kernel_rfl) <| kmv rfl <| kfa rfl rfl ?_; refine kl1 rfl rfl rfl <| K.lenX rfl SliceT.h rfl .plain ?_; refine kcv rfl (by8_wrap _) ?_; refine K.buildSlc (zs := [.int .u8 0]) (sz := 1) (e := 5) (cs' := [by8 c.fs.length].map bc) (by kernel_rfl) rfl rfl rfl rfl rfl rfl .plain <| K.appendSlc (by_ := 1) (e2 := 5) (l2 := [by8 c.fs.length].map bc) (nl := (((B ++ [by8 c.id, by8 c.nm.length]) ++ c.nm) ++ [by8 c.fs.length]).length) (nc := (((B ++ [by8 c.id, by8 c.nm.length]) ++ c.nm) ++ [by8 c.fs.length]).map bc) rfl rfl (hlm _) rfl rfl (Nat.le_refl _) rfl rfl (by kernel_rfl) (by kernel_rfl) (by omega) (by omega) rfl l3 j3 .plain <| kas rfl <| RunK.nil <| LWP.seq <| LWP.region (by kernel_rfl) <| kas rfl <| RunK.nil <| LWP.block ?_)
    have hend : (((B ++ [by8 c.id, by8 c.nm.length]) ++ c.nm) ++ [by8 c.fs.length]) ++ encFs c.fs = hd ++ encCs (cs.take (i + 1)) := by
      rw [hsnoc, ← List.append_assoc, hB]
      unfold encC encT
      simp
    generalize hP : (((B ++ [by8 c.id, by8 c.nm.length]) ++ c.nm) ++ [by8 c.fs.length]) = P at *
    refine LWP.loop (fun m σ => ∃ (k : Nat) (r : Bool), k ≤ c.fs.length ∧ m = c.fs.length - k ∧ σ = ⟨[(1, Lp 1), (4, sc1 501 (P ++ encFs (c.fs.take k))), (5, Ln .i64 (i : Nat)), (6, Lp 6), (7, Ln .i64 (k : Nat))], [encB 501 (P ++ encFs (c.fs.take k)) r, cpB 6 c fad fcap, sxB 1 ver (some ⟨blk, off, none⟩) cs.length cap], X⟩) c.fs.length
      ⟨⟨[(1, Lp 1), (4, sc1 501 (P ++ encFs (c.fs.take 0))), (5, Ln .i64 (i : Nat)), (6, Lp 6), (7, Ln .i64 (0 : Nat))], [encB 501 (P ++ encFs (c.fs.take 0)) true, cpB 6 c fad fcap, sxB 1 ver (some ⟨blk, off, none⟩) cs.length cap], X⟩, by
        rw [show P ++ encFs (c.fs.take 0) = P from List.append_nil _]
        exact Le.ofR [(501, 62)] (by exact ⟨rfl, rfl, rfl, rfl, rfl, trivial⟩) (by repeat' (first | exact trivial | refine And.intro ⟨_, rfl, ?_⟩ ?_ | refine And.intro ⟨_, rfl⟩ ?_ | rfl | exact Box.ren_bytes _ _ _ _ | exact Box.ren_vals _ _ _ _ | exact Box.ren_mid rfl)) (by exact rfl) (by exact rfl) (by repeat' (first | refine all_cons_true ?_ ?_ | rfl | exact bytes_inUse | exact vals_inUse | exact mid_inUse rfl)) (by exact rfl) (by exact rfl), 0, true, by omega, by omega, rfl⟩ ?_
    rintro m σ ⟨k, r2, hk, rfl, rfl⟩
    by_cases hkl : k < c.fs.length
    · obtain ⟨f, hf⟩ : ∃ f, c.fs[k]? = some f := ⟨_, List.getElem?_eq_getElem hkl⟩
      obtain ⟨fb, fo, farr, fel, ffr, rfl, hFX, hfz, hfc⟩ := hF.at hf
      have hio3 : fo + Int.toNat (k : Int) * 3 = fo + k * 3 := by simp
      obtain ⟨hf1, hf2, hf3⟩ := hc4 f (List.mem_of_getElem? hf)
      have hfl2 := encFs_len (fs := c.fs.take k) fun f hf => hc4 f (List.mem_of_mem_take hf)
      have hlen2 : (⟨f.nm.toArray⟩ : ByteArray).size = f.nm.length := rfl
      have w3 : IntKind.u8.wrap ((⟨f.nm.toArray⟩ : ByteArray).size : Int) = (((by8 f.nm.length).toNat : Nat) : Int) := by rw [hlen2]; exact by8_wrap _
      have hsn := encFs_snoc hf
      rw [List.length_take] at hfl2
      have hDl : (P ++ encFs (c.fs.take k)).length ≤ B.length + 2 + c.nm.length + 1 + 256 * 258 := by rw [List.length_append]; omega
      unfold okT at hf1
      generalize hD : P ++ encFs (c.fs.take k) = D at *
      have i1 : D.map bc ++ [by8 f.nm.length].map bc = (D ++ [by8 f.nm.length]).map bc := (List.map_append ..).symm
      have i2 : (D ++ [by8 f.nm.length]).map bc ++ f.nm.map bc = ((D ++ [by8 f.nm.length]) ++ f.nm).map bc := (List.map_append ..).symm
      have i3 : ((D ++ [by8 f.nm.length]) ++ f.nm).map bc ++ [by8 f.kind, by8 f.count].map bc = (((D ++ [by8 f.nm.length]) ++ f.nm) ++ [by8 f.kind, by8 f.count]).map bc := (List.map_append ..).symm
      have m1 : D.length + 1 = (D ++ [by8 f.nm.length]).length := by rw [List.length_append]; rfl
      have m2 : (D ++ [by8 f.nm.length]).length + f.nm.length = ((D ++ [by8 f.nm.length]) ++ f.nm).length := by rw [List.length_append (bs := f.nm)]
      have m3 : ((D ++ [by8 f.nm.length]) ++ f.nm).length + 2 = (((D ++ [by8 f.nm.length]) ++ f.nm) ++ [by8 f.kind, by8 f.count]).length := by rw [List.length_append (bs := [by8 f.kind, by8 f.count])]; rfl
      have hr1 : (D ++ [by8 f.nm.length]).length = D.length + 1 := m1.symm
      have hr2 : ((D ++ [by8 f.nm.length]) ++ f.nm).length = D.length + 1 + f.nm.length := by rw [← m2, hr1]
      have hnext : ((D ++ [by8 f.nm.length]) ++ f.nm) ++ [by8 f.kind, by8 f.count] = P ++ encFs (c.fs.take (k + 1)) := by
        rw [hsn, ← List.append_assoc, hD]
        unfold encF encT
        simp
      (refine LWP.seq <| LWP.seq <| LWP.region (by kernel_rfl) <| kmv rfl <| kfa rfl rfl ?_; refine kl1 rfl rfl rfl <| K.lenX rfl SliceT.h rfl .plain ?_; refine klt rfl rfl (decide_eq_true (by omega)) <| RunK.nil <| LWP.condT rfl ?_; refine LWP.skip ?_; refine LWP.seq <| LWP.block <| LWP.seq <| LWP.region (by kernel_rfl) <| kfa rfl rfl ?_; refine kl1 rfl rfl rfl <| kmv rfl <| K.indexX rfl rfl SliceT.h (by omega) hio3 .plain <| K.loadXagg rfl hFX (by kernel_rfl) hfz hfc .plain <| K.alloc rfl .plain ?_; refine K.storeAll rfl rfl rfl rfl rfl rfl .plain ?_; refine RunK.nil <| LWP.seq <| LWP.region (by kernel_rfl) <| kmv rfl <| kfa rfl rfl ?_; refine kl1 rfl rfl rfl <| kln rfl <| kcv rfl w3 ?_; refine K.buildSlc (zs := [.int .u8 0]) (sz := 1) (e := 5) (cs' := [by8 f.nm.length].map bc) (by kernel_rfl) rfl rfl rfl rfl rfl rfl .plain <| K.appendSlc (by_ := 1) (e2 := 5) (l2 := [by8 f.nm.length].map bc) (nl := (D ++ [by8 f.nm.length]).length) (nc := (D ++ [by8 f.nm.length]).map bc) rfl rfl (hlm _) rfl rfl (Nat.le_refl _) rfl rfl (by kernel_rfl) (by kernel_rfl) (by omega) (by omega) rfl m1 i1 .plain <| kas rfl <| RunK.nil <| LWP.seq <| LWP.region (by kernel_rfl) <| kmv rfl <| kfa rfl rfl ?_; refine kl1 rfl rfl rfl <| K.appendStr (by_ := 1) (nl := ((D ++ [by8 f.nm.length]) ++ f.nm).length) (nc := ((D ++ [by8 f.nm.length]) ++ f.nm).map bc) rfl rfl (List.length_map _) rfl (by kernel_rfl) StrT.u (by omega) (by omega) rfl m2 i2 .plain <| kas rfl <| RunK.nil <| LWP.region (by kernel_rfl) <| kmv rfl <| kfa rfl rfl ?_; refine kl1 rfl rfl rfl <| kcv rfl (by8_wrap _) ?_; refine kfa rfl rfl ?_; refine kl1 rfl rfl rfl <| kcv rfl (by8_wrap _) ?_; refine K.buildSlc (zs := [.int .u8 0, .int .u8 0]) (sz := 1) (e := 5) (cs' := [by8 f.kind, by8 f.count].map bc) (by kernel_rfl) rfl rfl rfl rfl rfl rfl .plain <| K.appendSlc (by_ := 1) (e2 := 5) (l2 := [by8 f.kind, by8 f.count].map bc) (nl := (((D ++ [by8 f.nm.length]) ++ f.nm) ++ [by8 f.kind, by8 f.count]).length) (nc := (((D ++ [by8 f.nm.length]) ++ f.nm) ++ [by8 f.kind, by8 f.count]).map bc) rfl rfl (hlm _) rfl rfl (Nat.le_refl _) rfl rfl (by kernel_rfl) (by kernel_rfl) (by omega) (by omega) rfl m3 i3 .plain <| kas rfl <| RunK.nil <| LWP.region (by kernel_rfl) <| kmv rfl <| kad rfl rfl (wrap_i64 (by omega)) <| kas rfl <| RunK.nil ?_)
      rw [hnext]
      exact ⟨_, ⟨[(1, Lp 1), (4, sc1 501 (P ++ encFs (c.fs.take (k + 1)))), (5, Ln .i64 (i : Nat)), (6, Lp 6), (7, Ln .i64 (k + 1 : Nat))], [encB 501 (P ++ encFs (c.fs.take (k + 1))) true, cpB 6 c (some ⟨fb, fo, none⟩) fcap, sxB 1 ver (some ⟨blk, off, none⟩) cs.length cap], X⟩, by omega, Le.ofR [(501, 94)] (by exact ⟨rfl, rfl, rfl, rfl, rfl, trivial⟩) (by repeat' (first | exact trivial | refine And.intro ⟨_, rfl, ?_⟩ ?_ | refine And.intro ⟨_, rfl⟩ ?_ | rfl | exact Box.ren_bytes _ _ _ _ | exact Box.ren_vals _ _ _ _ | exact Box.ren_mid rfl)) (by exact rfl) (by exact rfl) (by repeat' (first | refine all_cons_true ?_ ?_ | rfl | exact bytes_inUse | exact vals_inUse | exact mid_inUse rfl)) (by exact rfl) (by exact rfl), k + 1, true, by omega, rfl, rfl⟩
    · have e : k = c.fs.length := by omega
      subst e
      rw [List.take_length, hend]
      (refine LWP.seq <| LWP.seq <| LWP.region (by kernel_rfl) <| kmv rfl <| kfa rfl rfl ?_; refine kl1 rfl rfl rfl <| K.lenX rfl SliceT.h rfl .plain ?_; refine klt rfl rfl (decide_eq_false (by omega)) <| RunK.nil <| LWP.condF rfl ?_; refine LWP.exit <| LWP.region (by kernel_rfl) <| kmv rfl <| kad rfl rfl (wrap_i64 (by omega)) <| kas rfl <| RunK.nil ?_)
      exact ⟨_, ⟨[(1, Lp 1), (4, sc1 500 (hd ++ encCs (cs.take (i + 1)))), (5, Ln .i64 (i + 1 : Nat))], [encB 500 (hd ++ encCs (cs.take (i + 1))) r2, sxB 1 ver (some ⟨blk, off, none⟩) cs.length cap], X⟩, by omega, Le.ofR [(500, 501)] (by exact ⟨rfl, rfl, rfl, trivial⟩) (by repeat' (first | exact trivial | refine And.intro ⟨_, rfl, ?_⟩ ?_ | refine And.intro ⟨_, rfl⟩ ?_ | rfl | exact Box.ren_bytes _ _ _ _ | exact Box.ren_vals _ _ _ _ | exact Box.ren_mid rfl)) (by exact rfl) (by exact rfl) (by repeat' (first | refine all_cons_true ?_ ?_ | rfl | exact bytes_inUse | exact vals_inUse | exact mid_inUse rfl)) (by exact rfl) (by exact rfl), i + 1, r2, by omega, rfl, rfl⟩
  · have e : i = cs.length := by omega
    subst e
    rw [List.take_length]
    have hcut : (((hd ++ encCs cs).map bc).drop 0).take (hd ++ encCs cs).length = (hd ++ encCs cs).map bc := by rw [List.drop_zero, List.take_of_length_le (by rw [List.length_map]; exact Nat.le_refl _)]
    (refine LWP.seq <| LWP.seq <| LWP.region (by kernel_rfl) <| kmv rfl <| kfa rfl rfl ?_; refine kl1 rfl rfl rfl <| K.lenX rfl SliceT.h rfl .plain ?_; refine klt rfl rfl (decide_eq_false (by omega)) <| RunK.nil <| LWP.condF rfl ?_; refine LWP.exit <| LWP.seq <| LWP.region (by kernel_rfl) <| kmv rfl <| K.convStr (l := hd ++ encCs cs) rfl rfl (by kernel_rfl) StrT.u (by rw [List.length_map]; omega) hcut .plain <| kas rfl <| RunK.nil <| LWP.ret ?_)
    exact ⟨[_], ⟨rfl, trivial⟩, rfl⟩
end Go.Proofs.YtnomcmklhbjfjaaGreatDoor
end
section
namespace Go.Proofs.YtnomcmklhbjfjaaGreatDoor
open Go Go.Lg Go.Lg.Fld
set_option maxRecDepth 100000
variable (X : Nat → Option Obj)
theorem lent_comps {S : Nat → Option (Option Box)} {Y : Nat → Option Obj} {k n : Nat} {cs : List Cp} {cells : List Value} {el : TypeId} {row : Bool} {u : Value} (hY : ∀ b o, X b = some o → Y b = some o) (hl : cells.length = cs.length) (hb : ∀ c ∈ cs, -9223372036854775808 ≤ c.id ∧ c.id < 9223372036854775808)
    (hf : ∀ (i : Nat) (c : Cp) (v : Value), cs[i]? = some c → cells[i]? = some v → ∃ fad fcap, v = .slice fad c.fs.length fcap ∧ FieldsIn X fad c.fs) (hk : S k = some (some ⟨el, (rowsZ cs cells).map .val, row⟩)) (hu : LentC S Y (.slc k 0 n 3) u) :
    ∃ (blk cap : Nat), u = .slice (some ⟨blk, 0, none⟩) n cap ∧ CompsIn Y (some ⟨blk, 0, none⟩) cs := by
  obtain ⟨b, blk, cap2, m, hk', rfl, hc, hfit, hB⟩ := hu
  rw [hk] at hk'
  simp only [Option.some.injEq] at hk'
  subst hk'
  obtain ⟨arr, fr, us', sp, hYb, hsz, harr, hv⟩ := hB
  have := hv _ rfl
  subst this
  exact ⟨blk, cap2, rfl, comps_rows hYb harr hl hb fun i c v hc hv => by
    obtain ⟨fad, fcap, e, hF⟩ := hf i c v hc hv
    exact ⟨fad, fcap, e, hF.mono hY⟩⟩
end Go.Proofs.YtnomcmklhbjfjaaGreatDoor
end
