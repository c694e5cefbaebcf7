/- A piece of a proof over this program: contracts of its functions, and a logic to prove them by. -/
import Derived.Test.YtfmohdliifmmfaaLg17
namespace Go.Lg
open Go Go.RowKit
/-- the first cells say less than the second ones -/
def weakC : List CV → List CV → Prop
  | [], [] => True
  | .junk :: r, _ :: r' => weakC r r'
  | c :: r, c' :: r' => c = c' ∧ weakC r r'
  | _, _ => False
theorem weakC_rel {S : Nat → Option (Option Box)} {ι : Nat → Nat × Nat} : ∀ {l l' : List CV} {vs : List Value}, weakC l l' → CVs.rel S ι l' vs → CVs.rel S ι l vs
  | [], [], [], _, _ => trivial
  | [], [], _ :: _, _, h => h.elim
  | .junk :: _, _ :: _, _ :: _, hw, h => ⟨trivial, weakC_rel hw h.2⟩
  | .val _ :: _, _ :: _, _ :: _, hw, h => ⟨by rw [hw.1]; exact h.1, weakC_rel hw.2 h.2⟩
  | .ptr _ _ :: _, _ :: _, _ :: _, hw, h => ⟨by rw [hw.1]; exact h.1, weakC_rel hw.2 h.2⟩
  | .slc _ _ _ _ :: _, _ :: _, _ :: _, hw, h => ⟨by rw [hw.1]; exact h.1, weakC_rel hw.2 h.2⟩
  | [], _ :: _, _, hw, _ => hw.elim
  | .val _ :: _, [], _, hw, _ => hw.elim
  | .ptr _ _ :: _, [], _, hw, _ => hw.elim
  | .slc _ _ _ _ :: _, [], _, hw, _ => hw.elim
  | .junk :: _, [], _, hw, _ => hw.elim
  | _ :: _, _ :: _, [], _, h => h.elim
def Weak (b b' : Box) : Prop := b.elem = b'.elem ∧ b.row = b'.row ∧ weakC b.cells b'.cells
theorem Weak.refl (b : Box) : Weak b b := by
  have : ∀ l : List CV, weakC l l := by
    intro l
    induction l with
    | nil => trivial
    | cons c l ih => cases c <;> first | exact ih | exact ⟨rfl, ih⟩
  exact ⟨rfl, rfl, this _⟩
theorem Weak.rel {S : Nat → Option (Option Box)} {ι : Nat → Nat × Nat} {b b' : Box} (h : Weak b b') {vs : List Value} (hr : b'.rel S ι vs) : b.rel S ι vs := by
  obtain ⟨_, h2, h3⟩ := h
  unfold Box.rel at hr ⊢
  rw [h2]
  cases hb : b'.row with
  | false => rw [hb] at hr; exact weakC_rel h3 hr
  | true => rw [hb] at hr; obtain ⟨us, sp, e, hl⟩ := hr; exact ⟨us, sp, e, weakC_rel h3 hl⟩
def boxesAtW (σ : St) (f : Nat → Nat) : List (Nat × Option Box) → Prop
  | [] => True
  | (k, some b) :: r => (∃ b', σ.stat (f k) = some (some b') ∧ Weak (b.ren f) b') ∧ boxesAtW σ f r
  | (k, none) :: r => (∃ x, σ.stat (f k) = some x) ∧ boxesAtW σ f r
theorem boxesAtW_look {σ : St} {f : Nat → Nat} : ∀ {l : List (Nat × Option Box)}, boxesAtW σ f l → ∀ k x, look k l = some x → (∀ b, x = some b → ∃ b', σ.stat (f k) = some (some b') ∧ Weak (b.ren f) b') ∧ (∃ y, σ.stat (f k) = some y) ∧ (k, x) ∈ l
  | [], _, k, x, h => by simp [look] at h
  | (k', ob) :: r, hb, k, x, h => by
    simp only [look] at h
    cases e : Nat.beq k' k with
    | true =>
      have := Nat.eq_of_beq_eq_true e
      subst this
      rw [e] at h
      simp at h
      subst h
      cases ob with
      | none => exact ⟨fun b h2 => (by cases h2), hb.1, List.mem_cons_self⟩
      | some b =>
        obtain ⟨⟨b1, h3, h4⟩, _⟩ := hb
        exact ⟨fun b' h2 => (by cases h2; exact ⟨b1, h3, h4⟩), ⟨_, h3⟩, List.mem_cons_self⟩
    | false =>
      rw [e] at h
      have hr : boxesAtW σ f r := by cases ob <;> exact hb.2
      obtain ⟨h1, h2, h3⟩ := boxesAtW_look hr k x h
      exact ⟨h1, h2, by simp [h3]⟩
def retMw (P : Program) (fn : Func) (pre : List (Nat × Option Box)) (r : LV) (post : List (Nat × Option Box)) : Exit → St → Prop := fun e σ =>
  match e with
  | .normal | .ret => ∃ g : List (Nat × Nat), (∃ ss, ResL P σ fn.results.toList ss ∧ r.ren (rn g) = resOf ss) ∧ boxesAtW σ (rn g) post ∧ injOn (rn g) (post.map (·.1)) = true ∧
      pre.all (fun p => Nat.beq (rn g p.1) p.1) = true
  | _ => False
theorem MSpec.introW {P : Program} {X : Nat → Option Obj} {f : FuncId} {fn : Func} {c : Code} {args : List LV} {pre post : List (Nat × Option Box)} {r : LV} (hf : P.funcs[f]? = some fn) (hb : fn.body = some c) (hent : Program.enters P f = true)
    (hlen : Nat.ble args.length fn.ntmps = true) (hur : r.inUse post = true) (hup : post.all (fun p => match p.2 with | some b => b.cells.all (CV.inUse post) | none => true) = true) (hbig : pre.all (fun p => Nat.ble 1000000 p.1) = true) (hlive : pre.all (fun p => p.2.isSome) = true)
    (h : ∀ C : Ctx, LWP P fn.ntmps C c (retMw P fn pre r post) ⟨enumL 0 args, pre, X⟩) : MSpec P X f args pre r post := by
  replace hlen := Nat.le_of_ble_eq_true hlen
  refine ⟨hent, fun w vals ι hM hargs => ?_⟩
  refine calls_of_wp hf hb ?_
  have hvl := LVs.rel_length hargs
  simp only [Array.length_toList] at hvl
  refine wp_mono ((h ⟨w, fun b => ∃ k b0, stOf pre k = some (some b0) ∧ (ι k).1 = b, ι⟩).out ι _ w ?_) ?_
  · exact {
      defers := rfl
      size := by simp; omega
      slots := by
        intro d lv hd
        obtain ⟨_, hd'⟩ := look_enum args 0 d lv hd
        simp only [Nat.sub_zero] at hd'
        obtain ⟨v, hv, hvr⟩ := LVs.rel_get hargs hd'
        have hlt : d < vals.size := by have := (List.getElem?_eq_some_iff.1 hv).1; simpa using this
        refine ⟨v, ?_, hvr⟩
        rw [Array.getElem?_append_left hlt]
        simpa using hv
      boxes := hM.boxes
      own := fun k b hb => ⟨.inl ⟨k, b, hb, rfl⟩, hM.apart k b hb⟩
      inj := hM.inj
      keep := fun _ _ _ _ => rfl
      ext := hM.ext
      frame := fun _ _ _ => rfl
      big := Nat.le_refl _
      os := rfl, tape := rfl, output := rfl }
  · rintro e a' w' ⟨ι', σ', hq, hr⟩
    have fin : (∃ g : List (Nat × Nat), (∃ ss, ResL P σ' fn.results.toList ss ∧ r.ren (rn g) = resOf ss) ∧ boxesAtW σ' (rn g) post ∧ injOn (rn g) (post.map (·.1)) = true ∧ pre.all (fun p => Nat.beq (rn g p.1) p.1) = true) →
        a'.defers = [] ∧ ∃ v, (results fn a'.tmps).run P w' = .ok v w' ∧ ∃ u κ, Ending.returned v = .returned u ∧ r.rel (stOf post) κ u ∧ MemOf X κ post w' ∧ MemPost pre post ι κ w w' := by
      rintro ⟨g, ⟨ss, hres, hrs⟩, hat, hinj, hfix⟩
      obtain ⟨v, hv, hvr⟩ := results_run hr hres
      rw [← hrs] at hvr
      have hback : Back post σ'.stat (rn g) := fun k x hx => ⟨fun b e => (let ⟨b', h, _⟩ := (boxesAtW_look hat k x hx).1 b e; ⟨b', h⟩), (boxesAtW_look hat k x hx).2.1⟩
      have hX : ∀ b o, X b = some o → w.heap[b]? = some o := hM.ext
      refine ⟨hr.defers, v, hv, v, fun k => ι' (rn g k), rfl, LV.rel_back hback hur hvr, ?_, ?_⟩
      · refine ⟨fun k b hk => ?_, fun k b hk => ?_, fun k k' b b' hk hk' he => ?_, fun b o hb => ?_⟩
        · obtain ⟨h1, -, h2⟩ := boxesAtW_look hat k _ hk
          obtain ⟨b', hb', hw⟩ := h1 b rfl
          obtain ⟨arr, fr, harr, ht, hsz, hbr⟩ := hr.boxes _ _ hb'
          have hu' : b.cells.all (CV.inUse post) = true := by simpa using List.all_eq_true.1 hup _ h2
          exact ⟨arr, fr, by rw [harr, ← hw.1]; rfl, ht, hsz, Box.rel_back hback hu' (hw.rel hbr)⟩
        · obtain ⟨b', hb', -⟩ := (boxesAtW_look hat k _ hk).1 b rfl
          have h1 := hr.own _ _ hb'
          cases hx : X (ι' (rn g k)).1 with
          | none => rfl
          | some o =>
            rcases h1.1 with ⟨k0, b0, hk0, he⟩ | hge
            · have := hM.apart k0 b0 hk0
              rw [he, hx] at this
              cases this
            · have hlt := (Array.getElem?_eq_some_iff.1 (hX _ o hx)).1
              exact absurd hlt (Nat.not_lt.2 hge)
        · exact injOn_spec hinj k k' (look_key hk) (look_key hk') (let ⟨_, h1, _⟩ := (boxesAtW_look hat k _ hk).1 b rfl; let ⟨_, h2, _⟩ := (boxesAtW_look hat k' _ hk').1 b' rfl; hr.inj _ _ _ _ h1 h2 he)
        · have hlt := (Array.getElem?_eq_some_iff.1 (hX b o hb)).1
          rw [hr.frame b hlt (by
            rintro ⟨k, b0, hk, he⟩
            have := hM.apart k b0 hk
            rw [he, hb] at this
            cases this)]
          exact hX b o hb
      · refine ⟨fun k b hk hp => ?_, fun k b hk hp => ?_, fun b hb hn => ?_, hr.big, hr.os, hr.tape, hr.output⟩
        · cases hx : stOf pre k with
          | none => exact absurd hx hp
          | some x =>
            have hmem : (k, x) ∈ pre := by
              have : ∀ (l : List (Nat × Option Box)), look k l = some x → (k, x) ∈ l := by
                intro l
                induction l with
                | nil => intro h; simp [look] at h
                | cons p l ih =>
                  intro h
                  simp only [look] at h
                  cases e : Nat.beq p.1 k with
                  | true =>
                    rw [e] at h
                    simp at h
                    have h2 := Nat.eq_of_beq_eq_true e
                    rw [← h2, ← h]
                    exact List.mem_cons_self
                  | false =>
                    rw [e] at h
                    exact List.mem_cons_of_mem _ (ih (by simpa using h))
              exact this pre hx
            have e1 : rn g k = k := Nat.eq_of_beq_eq_true (List.all_eq_true.1 hfix _ hmem)
            have e2 : 1000000 ≤ k := Nat.le_of_ble_eq_true (List.all_eq_true.1 hbig _ hmem)
            obtain ⟨_, h1, -⟩ := (boxesAtW_look hat k _ hk).1 b rfl
            have h3 := hr.keep _ _ h1 (by rw [e1]; exact e2)
            rw [e1] at h1 h3
            refine ⟨?_, by simp only [e1]; exact h3⟩
            cases x with
            | some b0 => exact ⟨b0, rfl⟩
            | none => exact absurd (List.all_eq_true.1 hlive _ hmem) (by simp)
        · obtain ⟨_, hb1, -⟩ := (boxesAtW_look hat k _ hk).1 b rfl
          obtain ⟨own, -⟩ := hr.own _ _ hb1
          rcases own with ⟨k0, b0, hk0, he⟩ | hge
          · exact .inr ⟨k0, b0, hk0, he⟩
          · exact .inl hge
        · exact hr.frame b hb (by rintro ⟨k, b0, hk, he⟩; exact hn k b0 hk he)
    cases e <;> first
      | exact fin hq
      | exact hq.elim

end Go.Lg
