/- A piece of a proof over this program: contracts of its functions, and a logic to prove them by. -/
import Derived.Test.YtfmohdliifmmfaaLg14
namespace Go.Lg
open Go Go.RowKit
abbrev stOf (bx : List (Nat × Option Box)) : Nat → Option (Option Box) := fun k => look k bx
/-- the boxes lie in memory, apart from one another and from what lay in memory before -/
structure MemOf (X : Nat → Option Obj) (ι : Nat → Nat × Nat) (bx : List (Nat × Option Box)) (w : World) : Prop where
  boxes : ∀ k b, stOf bx k = some (some b) → ∃ arr fr, w.heap[(ι k).1]? = some (.cells arr b.elem fr) ∧ Thaw fr arr.size ∧ arr.size = (ι k).2 ∧ b.rel (stOf bx) ι arr.toList
  apart : ∀ k b, stOf bx k = some (some b) → X (ι k).1 = none
  inj : ∀ k k' b b', stOf bx k = some (some b) → stOf bx k' = some (some b') → (ι k).1 = (ι k').1 → k = k'
  ext : ∀ b o, X b = some o → w.heap[b]? = some o
structure MemPost (pre post : List (Nat × Option Box)) (ι ι' : Nat → Nat × Nat) (w w' : World) : Prop where
  old : ∀ k b, stOf post k = some (some b) → stOf pre k ≠ none → (∃ b0, stOf pre k = some (some b0)) ∧ ι' k = ι k
  new : ∀ k b, stOf post k = some (some b) → stOf pre k = none → w.heap.size ≤ (ι' k).1 ∨ ∃ k0 b0, stOf pre k0 = some (some b0) ∧ (ι k0).1 = (ι' k).1
  frame : ∀ b, b < w.heap.size → (∀ k b0, stOf pre k = some (some b0) → (ι k).1 ≠ b) → w'.heap[b]? = w.heap[b]?
  big : w.heap.size ≤ w'.heap.size
  os : w'.os = w.os
  tape : w'.tape = w.tape
  output : w'.output = w.output
structure MSpec (P : Program) (X : Nat → Option Obj) (f : FuncId) (args : List LV) (pre : List (Nat × Option Box)) (r : LV) (post : List (Nat × Option Box)) : Prop where
  enters : Program.enters P f = true
  out : ∀ (w : World) (vals : Array Value) (ι : Nat → Nat × Nat), MemOf X ι pre w → LVs.rel (stOf pre) ι args vals.toList →
    Calls P f vals w (fun e w' => ∃ v ι', e = .returned v ∧ r.rel (stOf post) ι' v ∧ MemOf X ι' post w' ∧ MemPost pre post ι ι' w w')
/-- where the callee's walk must end -/
def retM (P : Program) (fn : Func) (pre : List (Nat × Option Box)) (r : LV) (post : List (Nat × Option Box)) : Exit → St → Prop := fun e σ =>
  match e with
  | .normal | .ret => ∃ g : List (Nat × Nat), (∃ ss, ResL P σ fn.results.toList ss ∧ r.ren (rn g) = resOf ss) ∧ boxesAt σ (rn g) post ∧ injOn (rn g) (post.map (·.1)) = true ∧
      pre.all (fun p => Nat.beq (rn g p.1) p.1) = true
  | _ => False
theorem LV.inUse_back {bx : List (Nat × Option Box)} {T : Nat → Option (Option Box)} {f : Nat → Nat} {κ : Nat → Nat × Nat} (h : Back bx T f) {l : LV} (hu : l.inUse bx = true) {v : Value} (hr : (l.ren f).rel T κ v) :
    l.rel (stOf bx) (fun k => κ (f k)) v := LV.rel_back h hu hr
theorem MSpec.intro {P : Program} {X : Nat → Option Obj} {f : FuncId} {fn : Func} {c : Code} {args : List LV} {pre post : List (Nat × Option Box)} {r : LV} (hf : P.funcs[f]? = some fn) (hb : fn.body = some c) (hent : Program.enters P f = true)
    (hlen : Nat.ble args.length fn.ntmps = true) (hur : r.inUse post = true) (hup : post.all (fun p => match p.2 with | some b => b.cells.all (CV.inUse post) | none => true) = true) (hbig : pre.all (fun p => Nat.ble 1000000 p.1) = true) (hlive : pre.all (fun p => p.2.isSome) = true)
    (h : ∀ C : Ctx, LWP P fn.ntmps C c (retM P fn pre r post) ⟨enumL 0 args, pre, X⟩) : MSpec P X f args pre r post := by
  replace hlen := Nat.le_of_ble_eq_true hlen
  refine ⟨hent, fun w vals ι hM hargs => ?_⟩
  refine calls_of_wp hf hb ?_
  have hvl := LVs.rel_length hargs
  simp only [Array.length_toList] at hvl
  refine wp_mono ((h ⟨w, fun b => ∃ k b0, stOf pre k = some (some b0) ∧ (ι k).1 = b, ι⟩).out ι _ w ?_) ?_
  · exact {
      defers := rfl
      size := by simp; omega
      slots := by
        intro d lv hd
        obtain ⟨_, hd'⟩ := look_enum args 0 d lv hd
        simp only [Nat.sub_zero] at hd'
        obtain ⟨v, hv, hvr⟩ := LVs.rel_get hargs hd'
        have hlt : d < vals.size := by have := (List.getElem?_eq_some_iff.1 hv).1; simpa using this
        refine ⟨v, ?_, hvr⟩
        rw [Array.getElem?_append_left hlt]
        simpa using hv
      boxes := hM.boxes
      own := fun k b hb => ⟨.inl ⟨k, b, hb, rfl⟩, hM.apart k b hb⟩
      inj := hM.inj
      keep := fun _ _ _ _ => rfl
      ext := hM.ext
      frame := fun _ _ _ => rfl
      big := Nat.le_refl _
      os := rfl, tape := rfl, output := rfl }
  · rintro e a' w' ⟨ι', σ', hq, hr⟩
    have fin : (∃ g : List (Nat × Nat), (∃ ss, ResL P σ' fn.results.toList ss ∧ r.ren (rn g) = resOf ss) ∧ boxesAt σ' (rn g) post ∧ injOn (rn g) (post.map (·.1)) = true ∧ pre.all (fun p => Nat.beq (rn g p.1) p.1) = true) →
        a'.defers = [] ∧ ∃ v, (results fn a'.tmps).run P w' = .ok v w' ∧ ∃ u κ, Ending.returned v = .returned u ∧ r.rel (stOf post) κ u ∧ MemOf X κ post w' ∧ MemPost pre post ι κ w w' := by
      rintro ⟨g, ⟨ss, hres, hrs⟩, hat, hinj, hfix⟩
      obtain ⟨v, hv, hvr⟩ := results_run hr hres
      rw [← hrs] at hvr
      have hback : Back post σ'.stat (rn g) := fun k x hx => ⟨fun b e => ⟨_, (boxesAt_look hat k x hx).1 b e⟩, (boxesAt_look hat k x hx).2.1⟩
      have hX : ∀ b o, X b = some o → w.heap[b]? = some o := hM.ext
      refine ⟨hr.defers, v, hv, v, fun k => ι' (rn g k), rfl, LV.rel_back hback hur hvr, ?_, ?_⟩
      · refine ⟨fun k b hk => ?_, fun k b hk => ?_, fun k k' b b' hk hk' he => ?_, fun b o hb => ?_⟩
        · obtain ⟨h1, -, h2⟩ := boxesAt_look hat k _ hk
          obtain ⟨arr, fr, harr, ht, hsz, hbr⟩ := hr.boxes _ _ (h1 b rfl)
          have hu' : b.cells.all (CV.inUse post) = true := by simpa using List.all_eq_true.1 hup _ h2
          exact ⟨arr, fr, harr, ht, hsz, Box.rel_back hback hu' hbr⟩
        · have h1 := hr.own _ _ ((boxesAt_look hat k _ hk).1 b rfl)
          cases hx : X (ι' (rn g k)).1 with
          | none => rfl
          | some o =>
            rcases h1.1 with ⟨k0, b0, hk0, he⟩ | hge
            · have := hM.apart k0 b0 hk0
              rw [he, hx] at this
              cases this
            · have hlt := (Array.getElem?_eq_some_iff.1 (hX _ o hx)).1
              exact absurd hlt (Nat.not_lt.2 hge)
        · exact injOn_spec hinj k k' (look_key hk) (look_key hk') (hr.inj _ _ _ _ ((boxesAt_look hat k _ hk).1 b rfl) ((boxesAt_look hat k' _ hk').1 b' rfl) he)
        · have hlt := (Array.getElem?_eq_some_iff.1 (hX b o hb)).1
          rw [hr.frame b hlt (by
            rintro ⟨k, b0, hk, he⟩
            have := hM.apart k b0 hk
            rw [he, hb] at this
            cases this)]
          exact hX b o hb
      · refine ⟨fun k b hk hp => ?_, fun k b hk hp => ?_, fun b hb hn => ?_, hr.big, hr.os, hr.tape, hr.output⟩
        · cases hx : stOf pre k with
          | none => exact absurd hx hp
          | some x =>
            have hmem : (k, x) ∈ pre := by
              have : ∀ (l : List (Nat × Option Box)), look k l = some x → (k, x) ∈ l := by
                intro l
                induction l with
                | nil => intro h; simp [look] at h
                | cons p l ih =>
                  intro h
                  simp only [look] at h
                  cases e : Nat.beq p.1 k with
                  | true =>
                    rw [e] at h
                    simp at h
                    have h2 := Nat.eq_of_beq_eq_true e
                    rw [← h2, ← h]
                    exact List.mem_cons_self
                  | false =>
                    rw [e] at h
                    exact List.mem_cons_of_mem _ (ih (by simpa using h))
              exact this pre hx
            have e1 : rn g k = k := Nat.eq_of_beq_eq_true (List.all_eq_true.1 hfix _ hmem)
            have e2 : 1000000 ≤ k := Nat.le_of_ble_eq_true (List.all_eq_true.1 hbig _ hmem)
            have h1 := (boxesAt_look hat k _ hk).1 b rfl
            have h3 := hr.keep _ _ h1 (by rw [e1]; exact e2)
            rw [e1] at h1 h3
            refine ⟨?_, by simp only [e1]; exact h3⟩
            cases x with
            | some b0 => exact ⟨b0, rfl⟩
            | none => exact absurd (List.all_eq_true.1 hlive _ hmem) (by simp)
        · obtain ⟨own, -⟩ := hr.own _ _ ((boxesAt_look hat k _ hk).1 b rfl)
          rcases own with ⟨k0, b0, hk0, he⟩ | hge
          · exact .inr ⟨k0, b0, hk0, he⟩
          · exact .inl hge
        · exact hr.frame b hb (by rintro ⟨k, b0, hk, he⟩; exact hn k b0 hk he)
    cases e <;> first
      | exact fin hq
      | exact hq.elim

def callPost (ρ : List (Nat × Nat)) (post : List (Nat × Option Box)) : List (Nat × Option Box) := post.map fun p => (rn ρ p.1, p.2.map (Box.ren (rn ρ)))
theorem look_map {f : Nat → Nat} {g : Option Box → Option Box} : ∀ {l : List (Nat × Option Box)}, injOn f (l.map (·.1)) = true → ∀ {k : Nat} {x : Option Box}, look k l = some x → look (f k) (l.map fun p => (f p.1, g p.2)) = some (g x)
  | [], _, k, x, h => by simp [look] at h
  | p :: l, hi, k, x, h => by
    have hi2 : injOn f (l.map (·.1)) = true := by simp only [List.map_cons, injOn, Bool.and_eq_true] at hi; exact hi.2
    simp only [look, List.map_cons] at h ⊢
    cases e : Nat.beq p.1 k with
    | true =>
      have := Nat.eq_of_beq_eq_true e
      rw [e] at h
      simp at h
      rw [this, Nat.beq_refl, h]
      rfl
    | false =>
      rw [e] at h
      have h' : look k l = some x := by simpa using h
      have hne : Nat.beq (f p.1) (f k) = false := by
        cases e2 : Nat.beq (f p.1) (f k) with
        | false => rfl
        | true =>
          have h3 := injOn_spec hi p.1 k (by simp) (by simp only [List.map_cons, List.mem_cons]; exact .inr (look_key h')) (Nat.eq_of_beq_eq_true e2)
          rw [h3, Nat.beq_refl] at e
          cases e
      rw [hne]
      simpa using look_map hi2 h'
theorem look_unmap {f : Nat → Nat} {g : Option Box → Option Box} : ∀ {l : List (Nat × Option Box)} {j : Nat} {y : Option Box}, look j (l.map fun p => (f p.1, g p.2)) = some y → ∃ k, k ∈ l.map (·.1) ∧ f k = j
  | [], j, y, h => by simp [look] at h
  | p :: l, j, y, h => by
    simp only [look, List.map_cons] at h
    cases e : Nat.beq (f p.1) j with
    | true => exact ⟨p.1, by simp, Nat.eq_of_beq_eq_true e⟩
    | false =>
      rw [e] at h
      obtain ⟨k, hk, he⟩ := look_unmap (by simpa using h : look j (l.map fun p => (f p.1, g p.2)) = some y)
      exact ⟨k, by simp only [List.map_cons, List.mem_cons]; exact .inr hk, he⟩
section
variable {P : Program} {n : Nat} {ops os : List Oper} {acc : List Eff} {K : List Eff → St → Prop} {s : List (Nat × LV)} {bx : List (Nat × Option Box)} {X : Nat → Option Obj} {σ : St}
open Classical in
/-- the names' meanings behind the call -/
noncomputable def after (f : Nat → Nat) (post : List (Nat × Option Box)) (ι ι' : Nat → Nat × Nat) (j : Nat) : Nat × Nat :=
  if h : ∃ k, k ∈ post.map (·.1) ∧ f k = j then ι' (Classical.choose h) else ι j
theorem after_in {f : Nat → Nat} {post : List (Nat × Option Box)} {ι ι' : Nat → Nat × Nat} (hi : injOn f (post.map (·.1)) = true) {k : Nat} (hk : k ∈ post.map (·.1)) : after f post ι ι' (f k) = ι' k := by
  have h : ∃ k', k' ∈ post.map (·.1) ∧ f k' = f k := ⟨k, hk, rfl⟩
  unfold after
  rw [dif_pos h]
  have := Classical.choose_spec h
  rw [injOn_spec hi _ _ this.1 hk this.2]
theorem after_out {f : Nat → Nat} {post : List (Nat × Option Box)} {ι ι' : Nat → Nat × Nat} {j : Nat} (h : ¬∃ k, k ∈ post.map (·.1) ∧ f k = j) : after f post ι ι' j = ι j := dif_neg h
theorem LOK.more {o : Oper} {e : Eff} {ft : List Nat} (h : LOK P n ops o σ e) (hf : ∀ k, k ∈ e.foot → k ∈ ft) : LOK P n ops o σ ⟨e.slots, ft, e.boxes⟩ :=
  ⟨fun σ' ha => h.out σ' ⟨ha.slot, fun k hk => ha.stat k (hk.imp (hf k) id), ha.X⟩⟩
theorem LOK.callM {d : Nat} {f : FuncId} {args : List Operand} {tys : Array TypeId} {ty : TypeId} {pos : String} {after_ : Array Edge} {g : Option (Nat × Bool)} {lvs : List LV} {r : LV} {pre post : List (Nat × Option Box)} (ρ : List (Nat × Nat))
    (hs : MSpec P σ.X f lvs pre r post) (hargs : evs σ args = some (lvs.map (LV.ren (rn ρ)))) (hu : lvs.all (LV.inUse pre) = true) (hpre : boxesAt σ (rn ρ) pre)
    (hub : pre.all (fun p => match p.2 with | some b => b.cells.all (CV.inUse pre) | none => true) = true) (hi : injOn (rn ρ) (post.map (·.1)) = true)
    (hsub : pre.all (fun p => (look p.1 post).isSome) = true) (hnew : post.all (fun p => (look p.1 pre).isSome || σ.fresh (rn ρ p.1)) = true) :
    LOK P n ops ⟨some d, .call ⟨.value (.func f), args.toArray, tys⟩, ty, pos, after_, g⟩ σ ⟨[(d, r.ren (rn ρ))], pre.map (fun p => rn ρ p.1), callPost ρ post⟩ := by
  refine ⟨fun σ' ha C ι a w hr hd next Q hn => ?_⟩
  generalize hF : rn ρ = F at *
  have hargs' : evs σ' args = some (lvs.map (LV.ren F)) := by
    rw [evs_agree fun x hx => ha.ev (by simp [Op.operands, Call.operands, hx])]
    exact hargs
  have hrun : (execOp a.eval ⟨some d, .call ⟨.value (.func f), args.toArray, tys⟩, ty, pos, after_, g⟩).run P w = .ok (.enter f (args.toArray.map a.eval)) w := by
    simp only [execOp, resolve, Act.eval, Deferred.ofValue, invoke, Sem.run_bind, Sem.run_pure, Result.andThen_ok]
    simp [run_enter hs.enters]
  -- the boxes in the state that is met
  have hpm : ∀ k x, look k pre = some x → k ∈ pre.map (·.1) := fun k x h => look_key h
  have hsub' : ∀ k, k ∈ pre.map (·.1) → k ∈ post.map (·.1) := fun k hk => by
    obtain ⟨p, hp, rfl⟩ := List.mem_map.1 hk
    obtain ⟨x, hx⟩ := Option.isSome_iff_exists.1 (List.all_eq_true.1 hsub p hp)
    exact look_key hx
  have hst : ∀ k x, look k pre = some x → σ'.stat (F k) = σ.stat (F k) := fun k x hk => ha.stat (F k) (.inl (by
    obtain ⟨p, hp, e⟩ := List.mem_map.1 (hpm k x hk)
    exact List.mem_map.2 ⟨p, hp, by rw [e]⟩))
  have hat : ∀ k x, look k pre = some x → (∀ b, x = some b → σ'.stat (F k) = some (some (b.ren F))) ∧ ∃ y, σ'.stat (F k) = some y := fun k x hk => by
    obtain ⟨h1, h2, -⟩ := boxesAt_look hpre k x hk
    rw [hst k x hk]
    exact ⟨h1, h2⟩
  have hmem : ∀ k x, look k pre = some x → (k, x) ∈ pre := fun k x hk => (boxesAt_look hpre k x hk).2.2
  have hback : Back pre σ'.stat F := fun k x hk => ⟨fun b e => ⟨_, (hat k x hk).1 b e⟩, (hat k x hk).2⟩
  have hrel := LVs.rel_back hback hu (evs_rel hr hargs')
  have hM : MemOf σ.X (fun k => ι (F k)) pre w := by
    refine ⟨fun k b hk => ?_, fun k b hk => ?_, fun k k' b b' hk hk' he => ?_, fun b o hb => hr.ext b o (by rw [ha.X]; exact hb)⟩
    · obtain ⟨arr, fr, harr, ht, hsz, hbr⟩ := hr.boxes _ _ ((hat k _ hk).1 b rfl)
      exact ⟨arr, fr, harr, ht, hsz, Box.rel_back hback (by simpa using List.all_eq_true.1 hub _ (hmem k _ hk)) hbr⟩
    · rw [← ha.X]; exact (hr.own _ _ ((hat k _ hk).1 b rfl)).2
    · have := hr.inj _ _ _ _ ((hat k _ hk).1 b rfl) ((hat k' _ hk').1 b' rfl) he
      exact injOn_spec hi k k' (hsub' k (hpm k _ hk)) (hsub' k' (hpm k' _ hk')) this
  have hc := hs.out w (args.toArray.map a.eval) _ hM (by simpa using hrel)
  unfold Oper.wp
  rw [hrun]
  refine hc.mono ?_
  rintro e w' ⟨v, ι', rfl, hv, hM', hP⟩
  have hcp : callPost ρ post = post.map fun p => (F p.1, p.2.map (Box.ren F)) := by unfold callPost; rw [hF]
  rw [hcp] at hn ha
  -- the state behind the call
  have hτ : ∀ (sl : List (Nat × LV)) j, (⟨sl, (post.map fun p => (F p.1, p.2.map (Box.ren F))) ++ σ'.boxes, σ'.X⟩ : St).stat j = (look j (post.map fun p => (F p.1, p.2.map (Box.ren F)))).or (σ'.stat j) := fun sl j => look_append _ _ _
  have hin : ∀ (sl : List (Nat × LV)) k x, look k post = some x → (⟨sl, (post.map fun p => (F p.1, p.2.map (Box.ren F))) ++ σ'.boxes, σ'.X⟩ : St).stat (F k) = some (x.map (Box.ren F)) := fun sl k x hk => by
    rw [hτ, look_map (g := fun o => o.map (Box.ren F)) hi hk]; rfl
  have hout : ∀ (sl : List (Nat × LV)) j, (¬∃ k, k ∈ post.map (·.1) ∧ F k = j) → (⟨sl, (post.map fun p => (F p.1, p.2.map (Box.ren F))) ++ σ'.boxes, σ'.X⟩ : St).stat j = σ'.stat j := fun sl j h => by
    rw [hτ]
    cases hl : look j (post.map fun p => (F p.1, p.2.map (Box.ren F))) with
    | none => rfl
    | some y => exact absurd (look_unmap (g := fun o => o.map (Box.ren F)) hl) h
  have hfresh : ∀ k x, look k post = some x → look k pre = none → σ'.stat (F k) = none ∧ F k < 1000000 := fun k x hk hp => by
    have hm : ∃ p, p ∈ post ∧ p.1 = k := by
      obtain ⟨p, hp, e⟩ := List.mem_map.1 (look_key hk)
      exact ⟨p, hp, e⟩
    obtain ⟨p, hp1, rfl⟩ := hm
    have h1 := List.all_eq_true.1 hnew p hp1
    rw [hp] at h1
    simp at h1
    refine ⟨?_, St.fresh_lt h1⟩
    rw [ha.stat (F p.1) (.inr (List.mem_map.2 ⟨(F p.1, p.2.map (Box.ren F)), List.mem_map.2 ⟨p, hp1, rfl⟩, rfl⟩))]
    exact St.fresh_none h1
  have hlater : ∀ sl, Later σ'.stat (⟨sl, (post.map fun p => (F p.1, p.2.map (Box.ren F))) ++ σ'.boxes, σ'.X⟩ : St).stat ι (after F post ι ι') := by
    intro sl j hj
    by_cases h : ∃ k, k ∈ post.map (·.1) ∧ F k = j
    · obtain ⟨k, hk, rfl⟩ := h
      obtain ⟨x, hx⟩ := key_look hk
      rw [hin sl k x hx]
      refine ⟨by simp, fun b' hb' => ?_⟩
      cases x with
      | none => simp at hb'
      | some b =>
        have hpk : look k pre ≠ none := fun hn' => hj (hfresh k _ hx hn').1
        obtain ⟨⟨b0, hb0⟩, he⟩ := hP.old k b hx hpk
        rw [after_in hi hk]
        exact ⟨he, _, (hat k _ hb0).1 b0 rfl⟩
    · rw [hout sl j h, after_out h]
      exact ⟨hj, fun b' hb' => ⟨rfl, b', hb'⟩⟩
  have hmaps : ∀ sl, Maps (stOf post) (⟨sl, (post.map fun p => (F p.1, p.2.map (Box.ren F))) ++ σ'.boxes, σ'.X⟩ : St).stat ι' (after F post ι ι') F := by
    intro sl k hk
    cases hx : look k post with
    | none => exact absurd hx hk
    | some x =>
      rw [hin sl k x hx]
      refine ⟨by simp, fun b' hb' => ?_⟩
      cases x with
      | none => simp at hb'
      | some b => exact ⟨after_in hi (look_key hx), b, hx⟩
  -- a box that was there, and is none of those that were handed over
  have hother : ∀ j b, σ'.stat j = some (some b) → (¬∃ k, k ∈ post.map (·.1) ∧ F k = j) → (ι j).1 < w.heap.size ∧ ∀ k b0, stOf pre k = some (some b0) → (ι (F k)).1 ≠ (ι j).1 := fun j b hj h =>
    ⟨hr.blocklt hj, fun k b0 hk he => h ⟨k, hsub' k (hpm k _ hk), hr.inj _ _ _ _ ((hat k _ hk).1 b0 rfl) hj he⟩⟩
  have hXpre : ∀ b o, σ'.X b = some o → b < w.heap.size ∧ ∀ k b0, stOf pre k = some (some b0) → (ι (F k)).1 ≠ b := fun b o hb =>
    ⟨(Array.getElem?_eq_some_iff.1 (hr.ext b o hb)).1, fun k b0 hk he => by
      have := (hr.own _ _ ((hat k _ hk).1 b0 rfl)).2
      rw [he, hb] at this
      cases this⟩
  have hnewblk : ∀ k b, stOf post k = some (some b) → stOf pre k = none → w.heap.size ≤ (ι' k).1 ∨ ∃ k0 b0, stOf pre k0 = some (some b0) ∧ (ι (F k0)).1 = (ι' k).1 := fun k b hk hp => hP.new k b hk hp
  have key : Rel n C (after F post ι ι') ⟨σ'.slots, (post.map fun p => (F p.1, p.2.map (Box.ren F))) ++ σ'.boxes, σ'.X⟩ a w' := {
    defers := hr.defers, size := hr.size
    slots := fun d lv hd => by
      obtain ⟨v, hv, hvr⟩ := hr.slots d lv hd
      exact ⟨v, hv, LV.rel_later (hlater _) hvr⟩
    boxes := fun j b hj => by
      by_cases h : ∃ k, k ∈ post.map (·.1) ∧ F k = j
      · obtain ⟨k, hk, rfl⟩ := h
        obtain ⟨x, hx⟩ := key_look hk
        rw [hin _ k x hx] at hj
        cases x with
        | none => simp at hj
        | some b1 =>
          simp only [Option.map_some, Option.some.injEq] at hj
          subst hj
          obtain ⟨arr, fr, harr, ht, hsz, hbr⟩ := hM'.boxes k b1 hx
          rw [after_in hi hk]
          exact ⟨arr, fr, harr, ht, hsz, Box.rel_maps (hmaps _) hbr⟩
      · rw [hout _ j h] at hj
        obtain ⟨arr, fr, harr, ht, hsz, hbr⟩ := hr.boxes j b hj
        obtain ⟨h1, h2⟩ := hother j b hj h
        rw [after_out h]
        exact ⟨arr, fr, (hP.frame _ h1 h2).trans harr, ht, hsz, Box.rel_later (hlater _) hbr⟩
    own := fun j b hj => by
      by_cases h : ∃ k, k ∈ post.map (·.1) ∧ F k = j
      · obtain ⟨k, hk, rfl⟩ := h
        obtain ⟨x, hx⟩ := key_look hk
        rw [hin _ k x hx] at hj
        cases x with
        | none => simp at hj
        | some b1 =>
          rw [after_in hi hk]
          refine ⟨?_, by rw [ha.X]; exact hM'.apart k b1 hx⟩
          cases hp : stOf pre k with
          | none =>
            rcases hnewblk k b1 hx hp with h1 | ⟨k0, b0, h0, he⟩
            · exact .inr (Nat.le_trans hr.big h1)
            · rw [← he]; exact (hr.own _ _ ((hat k0 _ h0).1 b0 rfl)).1
          | some y =>
            obtain ⟨⟨b0, hb0⟩, he⟩ := hP.old k b1 hx (by rw [hp]; simp)
            rw [he]; exact (hr.own _ _ ((hat k _ hb0).1 b0 rfl)).1
      · rw [hout _ j h] at hj
        rw [after_out h]
        exact hr.own j b hj
    inj := fun i j bi bj hi' hj' heq => by
      have cross : ∀ i j bi bj, (∃ k, k ∈ post.map (·.1) ∧ F k = i) → (¬∃ k, k ∈ post.map (·.1) ∧ F k = j) → (⟨σ'.slots, (post.map fun p => (F p.1, p.2.map (Box.ren F))) ++ σ'.boxes, σ'.X⟩ : St).stat i = some (some bi) → σ'.stat j = some (some bj) → (after F post ι ι' i).1 ≠ (ι j).1 := by
        rintro i j bi bj ⟨k, hk, rfl⟩ h2 hi2 hj2 he
        obtain ⟨x, hx⟩ := key_look hk
        rw [hin _ k x hx] at hi2
        cases x with
        | none => simp at hi2
        | some b1 =>
          rw [after_in hi hk] at he
          obtain ⟨h3, h4⟩ := hother j bj hj2 h2
          cases hp : stOf pre k with
          | none =>
            rcases hnewblk k b1 hx hp with h1 | ⟨k0, b0, h0, he0⟩
            · omega
            · exact h4 k0 b0 h0 (he0.trans he)
          | some y =>
            obtain ⟨⟨b0, hb0⟩, he0⟩ := hP.old k b1 hx (by rw [hp]; simp)
            exact h4 k b0 hb0 (by rw [← he, he0])
      by_cases h1 : ∃ k, k ∈ post.map (·.1) ∧ F k = i
      · by_cases h2 : ∃ k, k ∈ post.map (·.1) ∧ F k = j
        · obtain ⟨k, hk, rfl⟩ := h1
          obtain ⟨k', hk', rfl⟩ := h2
          obtain ⟨x, hx⟩ := key_look hk
          obtain ⟨x', hx'⟩ := key_look hk'
          rw [hin _ k x hx] at hi'
          rw [hin _ k' x' hx'] at hj'
          cases x with
          | none => simp at hi'
          | some b1 =>
            cases x' with
            | none => simp at hj'
            | some b2 =>
              rw [after_in hi hk, after_in hi hk'] at heq
              rw [hM'.inj k k' b1 b2 hx hx' heq]
        · rw [hout _ j h2] at hj'
          rw [after_out h2] at heq
          exact absurd heq (cross i j bi bj h1 h2 hi' hj')
      · by_cases h2 : ∃ k, k ∈ post.map (·.1) ∧ F k = j
        · rw [hout _ i h1] at hi'
          rw [after_out h1] at heq
          exact absurd heq.symm (cross j i bj bi h2 h1 hj' hi')
        · rw [hout _ i h1] at hi'
          rw [hout _ j h2] at hj'
          rw [after_out h1, after_out h2] at heq
          exact hr.inj i j bi bj hi' hj' heq
    keep := fun j b hj hlt => by
      by_cases h : ∃ k, k ∈ post.map (·.1) ∧ F k = j
      · obtain ⟨k, hk, rfl⟩ := h
        obtain ⟨x, hx⟩ := key_look hk
        rw [hin _ k x hx] at hj
        cases x with
        | none => simp at hj
        | some b1 =>
          rw [after_in hi hk]
          cases hp : stOf pre k with
          | none => exact absurd (hfresh k _ hx hp).2 (Nat.not_lt.2 hlt)
          | some y =>
            obtain ⟨⟨b0, hb0⟩, he⟩ := hP.old k b1 hx (by rw [hp]; simp)
            rw [he]
            exact hr.keep _ _ ((hat k _ hb0).1 b0 rfl) hlt
      · rw [hout _ j h] at hj
        rw [after_out h]
        exact hr.keep j b hj hlt
    ext := fun b o hb => by
      obtain ⟨h1, h2⟩ := hXpre b o hb
      exact (hP.frame b h1 h2).trans (hr.ext b o hb)
    frame := fun b hb hnb => by
      refine (hP.frame b (Nat.lt_of_lt_of_le hb hr.big) fun k b0 hk he => ?_).trans (hr.frame b hb hnb)
      rcases (hr.own _ _ ((hat k _ hk).1 b0 rfl)).1 with h1 | h1
      · exact hnb (by rw [← he]; exact h1)
      · rw [he] at h1; omega
    big := Nat.le_trans hr.big hP.big
    os := hP.os.trans hr.os, tape := hP.tape.trans hr.tape, output := hP.output.trans hr.output }
  exact hn _ _ w' (key.put (hd d rfl) (LV.rel_maps (hmaps _) hv))
theorem LOK.callR {d : Nat} {f : FuncId} {args : List Operand} {tys : Array TypeId} {ty : TypeId} {pos : String} {after_ : Array Edge} {g : Option (Nat × Bool)} {lvs : List LV} {r : LV} {pre : List (Nat × Option Box)} (ρ : List (Nat × Nat))
    (hs : MSpec P σ.X f lvs pre r pre) (hargs : evs σ args = some (lvs.map (LV.ren (rn ρ)))) (hu : lvs.all (LV.inUse pre) = true) (hpre : boxesAt σ (rn ρ) pre)
    (hub : pre.all (fun p => match p.2 with | some b => b.cells.all (CV.inUse pre) | none => true) = true) (hi : injOn (rn ρ) (pre.map (·.1)) = true) (hlive : pre.all (fun p => p.2.isSome) = true) :
    LOK P n ops ⟨some d, .call ⟨.value (.func f), args.toArray, tys⟩, ty, pos, after_, g⟩ σ ⟨[(d, r.ren (rn ρ))], pre.map (fun p => rn ρ p.1), []⟩ := by
  refine ⟨fun σ' ha => ?_⟩
  have hkeys : ∀ p, p ∈ pre → (look p.1 pre).isSome = true := fun p hp => by
    obtain ⟨x, hx⟩ := key_look (l := pre) (k := p.1) (List.mem_map.2 ⟨p, hp, rfl⟩)
    rw [hx]; rfl
  have h := (LOK.callM (P := P) (n := n) (ops := ops) (d := d) (tys := tys) (ty := ty) (pos := pos) (after_ := after_) (g := g) ρ hs hargs hu hpre hub hi
    (List.all_eq_true.2 hkeys) (List.all_eq_true.2 fun p hp => by rw [hkeys p hp]; rfl)).out σ' ⟨ha.slot, fun k hk => ha.stat k (.inl (by
      rcases hk with hk | hk
      · exact hk
      · simpa [callPost] using hk)), ha.X⟩
  intro C ι a w hr hd next Q hn
  refine h C ι a w hr hd next Q (fun ι' a' w' hr' => hn ι' a' w' (hr'.same ⟨fun _ => rfl, fun j => ?_, rfl⟩))
  have e1 : ((⟨[(d, r.ren (rn ρ))], pre.map (fun p => rn ρ p.1), callPost ρ pre⟩ : Eff).app σ').stat j = (look j (callPost ρ pre)).or (σ'.stat j) := Eff.stat_app _ _ _
  have e2 : ((⟨[(d, r.ren (rn ρ))], pre.map (fun p => rn ρ p.1), []⟩ : Eff).app σ').stat j = σ'.stat j := by rw [Eff.stat_app]; rfl
  rw [e1, e2]
  cases hl : look j (callPost ρ pre) with
  | none => rfl
  | some y =>
    obtain ⟨k, hk, rfl⟩ := look_unmap (f := rn ρ) (g := fun o => o.map (Box.ren (rn ρ))) (l := pre) hl
    obtain ⟨x, hx⟩ := key_look hk
    have h2 := look_map (f := rn ρ) (g := fun o => o.map (Box.ren (rn ρ))) hi hx
    have h3 : look (rn ρ k) (callPost ρ pre) = some (x.map (Box.ren (rn ρ))) := h2
    rw [hl] at h3
    obtain ⟨h4, -, h5⟩ := boxesAt_look hpre k x hx
    have hsome := List.all_eq_true.1 hlive _ h5
    cases x with
    | none => simp at hsome
    | some b =>
      have h6 : σ'.stat (rn ρ k) = some (some (b.ren (rn ρ))) := by
        rw [ha.stat (rn ρ k) (.inl (List.mem_map.2 ⟨(k, some b), h5, rfl⟩))]
        exact h4 b rfl
      rw [h6]
      simp only [Option.map_some] at h3
      rw [h3]
      rfl
theorem K.callR {d : Nat} {f : FuncId} {args : List Operand} {tys : Array TypeId} {ty : TypeId} {pos : String} {after_ : Array Edge} {g : Option (Nat × Bool)} {lvs : List LV} {r : LV} {pre : List (Nat × Option Box)} (ρ : List (Nat × Nat))
    (hs : MSpec P X f lvs pre r pre) {ft : List Nat} (hargs : evs ⟨s, bx, X⟩ args = some (lvs.map (LV.ren (rn ρ)))) (hu : lvs.all (LV.inUse pre) = true) (hpre : boxesAt ⟨s, bx, X⟩ (rn ρ) pre)
    (hub : pre.all (fun p => match p.2 with | some b => b.cells.all (CV.inUse pre) | none => true) = true) (hi : injOn (rn ρ) (pre.map (·.1)) = true) (hlive : pre.all (fun p => p.2.isSome) = true)
    (hlv : r.ren (rn ρ) = r) (hft : pre.map (fun p => rn ρ p.1) = ft) (hw : Want ops s g)
    (kont : RunK P n ops os ⟨(d, r) :: s, bx, X⟩ (⟨[(d, r)], ft, []⟩ :: acc) K) :
    RunK P n ops (⟨some d, .call ⟨.value (.func f), args.toArray, tys⟩, ty, pos, after_, g⟩ :: os) ⟨s, bx, X⟩ acc K := by
  have h := LOK.callR (P := P) (n := n) (ops := ops) (σ := ⟨s, bx, X⟩) (d := d) (args := args) (tys := tys) (ty := ty) (pos := pos) (after_ := after_) (g := g) ρ hs hargs hu hpre hub hi hlive
  rw [hlv, hft] at h
  exact RunK.gen hw h kont
theorem K.callMp {d : Nat} {f : FuncId} {args : List Operand} {tys : Array TypeId} {ty : TypeId} {pos : String} {after_ : Array Edge} {g : Option (Nat × Bool)} {lvs : List LV} {r : LV} {pre post : List (Nat × Option Box)} (ρ : List (Nat × Nat)) (lv : LV) (pb : List (Nat × Option Box))
    (hs : MSpec P X f lvs pre r post) (hargs : evs ⟨s, bx, X⟩ args = some (lvs.map (LV.ren (rn ρ)))) (hu : lvs.all (LV.inUse pre) = true) (hpre : boxesAt ⟨s, bx, X⟩ (rn ρ) pre)
    (hub : pre.all (fun p => match p.2 with | some b => b.cells.all (CV.inUse pre) | none => true) = true) (hi : injOn (rn ρ) (post.map (·.1)) = true)
    (hsub : pre.all (fun p => (look p.1 post).isSome) = true) (hnew : post.all (fun p => (look p.1 pre).isSome || (⟨s, bx, X⟩ : St).fresh (rn ρ p.1)) = true)
    (hlv : r.ren (rn ρ) = lv) (hpb : PostEq (rn ρ) post pb) (hw : Want ops s g)
    (kont : RunK P n ops os ⟨(d, lv) :: s, pb ++ bx, X⟩ (⟨[(d, lv)], pb.map (·.1), pb⟩ :: acc) K) :
    RunK P n ops (⟨some d, .call ⟨.value (.func f), args.toArray, tys⟩, ty, pos, after_, g⟩ :: os) ⟨s, bx, X⟩ acc K := by
  have e1 : callPost ρ post = pb := hpb.eq
  have h := LOK.callM (P := P) (n := n) (ops := ops) (σ := ⟨s, bx, X⟩) (d := d) (args := args) (tys := tys) (ty := ty) (pos := pos) (after_ := after_) (g := g) ρ hs hargs hu hpre hub hi hsub hnew
  rw [e1, hlv] at h
  exact RunK.gen hw (h.more (fun k hk => by
    obtain ⟨p, hp, rfl⟩ := List.mem_map.1 hk
    obtain ⟨x, hx⟩ := Option.isSome_iff_exists.1 (List.all_eq_true.1 hsub p hp)
    obtain ⟨q, hq, e⟩ := List.mem_map.1 (look_key hx)
    rw [← e1]
    exact List.mem_map.2 ⟨(rn ρ q.1, q.2.map (Box.ren (rn ρ))), List.mem_map.2 ⟨q, hq, rfl⟩, by rw [e]⟩)) kont
theorem K.callM {d : Nat} {f : FuncId} {args : List Operand} {tys : Array TypeId} {ty : TypeId} {pos : String} {after_ : Array Edge} {g : Option (Nat × Bool)} {lvs : List LV} {r : LV} {pre post : List (Nat × Option Box)} (ρ : List (Nat × Nat)) (pb : List (Nat × Option Box))
    (hs : MSpec P X f lvs pre r post) (hargs : evs ⟨s, bx, X⟩ args = some (lvs.map (LV.ren (rn ρ)))) (hu : lvs.all (LV.inUse pre) = true) (hpre : boxesAt ⟨s, bx, X⟩ (rn ρ) pre)
    (hub : pre.all (fun p => match p.2 with | some b => b.cells.all (CV.inUse pre) | none => true) = true) (hi : injOn (rn ρ) (post.map (·.1)) = true)
    (hsub : pre.all (fun p => (look p.1 post).isSome) = true) (hnew : post.all (fun p => (look p.1 pre).isSome || (⟨s, bx, X⟩ : St).fresh (rn ρ p.1)) = true)
    (hlv : r.ren (rn ρ) = r) (hpb : PostEq (rn ρ) post pb) (hw : Want ops s g)
    (kont : RunK P n ops os ⟨(d, r) :: s, pb ++ bx, X⟩ (⟨[(d, r)], pb.map (·.1), pb⟩ :: acc) K) :
    RunK P n ops (⟨some d, .call ⟨.value (.func f), args.toArray, tys⟩, ty, pos, after_, g⟩ :: os) ⟨s, bx, X⟩ acc K :=
  Go.Lg.K.callMp ρ r pb hs hargs hu hpre hub hi hsub hnew hlv hpb hw kont
end
end Go.Lg
