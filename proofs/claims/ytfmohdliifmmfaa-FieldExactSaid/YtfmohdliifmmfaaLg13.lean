/- A piece of a proof over this program: contracts of its functions, and a logic to prove them by. -/
import Derived.Test.YtfmohdliifmmfaaLg12
import Derived.Great.BuildSlice
import Derived.Laws.BytesString
namespace Go.Lg
open Go Go.RowKit
section
variable {P : Program} {n : Nat} {ops os : List Oper} {acc : List Eff} {K : List Eff → St → Prop} {s : List (Nat × LV)} {bx : List (Nat × Option Box)} {X : Nat → Option Obj} {σ : St}
/-- the cells of a slice literal before its parts are put, and its element's size and type -/
def slcBuild (P : Program) (t : TypeId) (len : Nat) : Option (List Value × Nat × TypeId) :=
  match P.underlying t with
  | some (.slice e) =>
    match P.info? e with
    | some ie =>
      match ie.zero with
      | some z => if len * ie.size > 2 ^ 24 then none else some ((List.range (len * ie.size)).map (fun i => z.cells[i % z.cells.size]!), ie.size, e)
      | none => none
    | none => none
  | _ => none
theorem range_map (m : Nat) (f : Nat → Value) : (Array.range m).map f = ((List.range m).map f).toArray := by
  apply Array.ext'
  rw [Array.toList_map, Array.toList_range]
theorem runBuildSlc (w : World) (t e : TypeId) (len : Nat) (parts : Array (Nat × Value)) (cells : Array Value) (ie : TypeInfo) (z : Value)
    (hu : P.underlying t = some (.slice e)) (hie : P.info? e = some ie) (hz : ie.zero = some z) (hsmall : ¬ len * ie.size > 2 ^ 24)
    (h : Instr.fill (fun i => some (i * ie.size, ie.size)) ((List.range (len * ie.size)).map (fun i => z.cells[i % z.cells.size]!)).toArray parts.toList = some cells) :
    (Instr.buildSlice t len parts).run P w = .ok (.slice (some ⟨w.heap.size, 0, none⟩) len len) (w.alloc (.cells cells e)) := by
  by_cases h0 : len * ie.size = 0
  · have hf0 : Instr.fill (fun i => some (i * ie.size, ie.size)) #[] parts.toList = some cells := by rw [h0] at h; exact h
    have hd : Array.map (fun _ : Nat => (default : Value)) (Array.range 0) = #[] := by rw [range_map]; rfl
    simp [Instr.buildSlice, run_underlying hu, sizeOf, typeInfo, hie, h0, newRow]
    rw [hd, hf0]
    simp
  · exact run_buildSlice w t e len parts cells ie z hu hie hz hsmall h0 (by rw [range_map]; exact h)
theorem LOK.buildSlc {d k : Nat} {t e : TypeId} {len : Nat} {parts : List (Nat × Operand)} {ty : TypeId} {pos : String} {after : Array Edge} {g : Option (Nat × Bool)} {ps : List (Nat × SV)} {zs : List Value} {sz : Nat} {cs : List CV}
    (hst : slcBuild P t len = some (zs, sz, e)) (hp : evParts σ parts = some ps) (hso : ps.all (fun p => p.2.solid) = true) (hf : fillL (fun i => some (i * sz, sz)) (zs.map .val) ps = some cs) (hln : Nat.ble (len * sz) cs.length = true) (hk : σ.fresh k = true) :
    LOK P n ops ⟨some d, .buildSlice t len parts.toArray, ty, pos, after, g⟩ σ ⟨[(d, .sv (.one (.slc k 0 len sz)))], [], [(k, some ⟨e, cs, false⟩)]⟩ :=
  LOK.make fun σ' ha C ι a w hr => by
    have hk' : σ'.stat k = none := (ha.stat k (.inr (by simp))).trans (St.fresh_none hk)
    have hlt := St.fresh_lt hk
    have hp' : evParts σ' parts = some ps := by
      rw [evParts_agree fun x hx => ha.ev (by simp [Op.operands]; simpa using hx)]
      exact hp
    have hrel := evParts_rel hr hp' hso
    obtain ⟨arr', hfill, hcs⟩ := fill_rel (arr := zs.toArray) hrel (by simpa using CVs.rel_map_val zs) hf
    unfold slcBuild at hst
    cases hu : P.underlying t with
    | none => simp [hu] at hst
    | some dd =>
      cases dd <;> simp only [hu] at hst <;> try (simp at hst; done)
      rename_i e'
      cases hie : P.info? e' with
      | none => simp [hie] at hst
      | some ie =>
        cases hz : ie.zero with
        | none => simp [hie, hz] at hst
        | some z =>
          simp only [hie, hz] at hst
          by_cases hbig : len * ie.size > 2 ^ 24
          · rw [if_pos hbig] at hst; cases hst
          · rw [if_neg hbig] at hst
            simp only [Option.some.injEq, Prod.mk.injEq] at hst
            obtain ⟨e1, e2, e3⟩ := hst
            subst e3
            rw [← e1, ← e2] at hfill
            refine ⟨.slice (some ⟨w.heap.size, 0, none⟩) len len, w.alloc (.cells arr' e'), put1 ι k (w.heap.size, arr'.size), ?_, ?_, ?_⟩
            · have hrun := runBuildSlc w t e' len (parts.toArray.map fun (i, x) => (i, a.eval x)) arr' ie z hu hie hz hbig (by simpa using hfill)
              simp only [execOp, Sem.run_bind, hrun, Result.andThen_ok, Sem.run_pure]
            · exact hr.new hlt hk' (b := ⟨e', cs, false⟩) hcs
            · have h1 := Nat.le_of_ble_eq_true hln
              rw [CVs.rel_length hcs, Array.length_toList] at h1
              simp [LV.rel, SV.rel, CV.rel, stat_cons, put1, h1]
theorem K.buildSlc {d : Nat} {t e : TypeId} {len : Nat} {ty : TypeId} {pos : String} {after : Array Edge} {g : Option (Nat × Bool)} {parts : List (Nat × Operand)} {ps : List (Nat × SV)} {zs : List Value} {sz : Nat} {cs cs' : List CV}
    (hst : slcBuild P t len = some (zs, sz, e)) (hp : evParts ⟨s, bx, X⟩ parts = some ps) (hso : ps.all (fun p => p.2.solid) = true) (hf : fillL (fun i => some (i * sz, sz)) (zs.map .val) ps = some cs) (hn : cs = cs') (hln : Nat.ble (len * sz) cs'.length = true) (hk : (⟨s, bx, X⟩ : St).fresh d = true) (hw : Want ops s g)
    (kont : RunK P n ops os ⟨(d, .sv (.one (.slc d 0 len sz))) :: s, (d, some ⟨e, cs', false⟩) :: bx, X⟩ (⟨[(d, .sv (.one (.slc d 0 len sz)))], [], [(d, some ⟨e, cs', false⟩)]⟩ :: acc) K) :
    RunK P n ops (⟨some d, .buildSlice t len parts.toArray, ty, pos, after, g⟩ :: os) ⟨s, bx, X⟩ acc K := RunK.g2 (LOK.buildSlc hst hp hso (by rw [← hn] at *; exact hf) hln hk) hw kont
/-- a byte's cell -/
def bc (c : UInt8) : CV := .val (.int .u8 (c.toNat : Nat))
theorem foldl_push : ∀ (l : List UInt8) (r : ByteArray), (l.map fun c => ((c.toNat : Nat) : Int)).foldl (fun r n => r.push (UInt8.ofNat n.toNat)) r = ⟨(r.data.toList ++ l).toArray⟩
  | [], r => by simp
  | c :: l, r => by
    rw [List.map_cons, List.foldl_cons, foldl_push l]
    congr 1
    have : UInt8.ofNat (((c.toNat : Nat) : Int).toNat) = c := by simp
    rw [this]
    simp [ByteArray.push]
theorem rel_bytes {S : Nat → Option (Option Box)} {ι : Nat → Nat × Nat} : ∀ {l : List UInt8} {vs : List Value}, CVs.rel S ι (l.map bc) vs → vs = (l.map fun c => ((c.toNat : Nat) : Int)).map (Value.int .u8)
  | [], [], _ => rfl
  | _ :: _, _ :: _, h => by
    obtain ⟨h1, h2⟩ := h
    simp only [bc, CV.rel] at h1
    rw [h1, rel_bytes h2]; rfl
  | [], _ :: _, h => h.elim
  | _ :: _, [], h => h.elim
def isBytes (P : Program) (t : TypeId) : Bool := match P.underlying t with | some (.slice e) => (match P.underlying e with | some (.int .u8) => true | _ => false) | _ => false
theorem isBytes_spec {t : TypeId} (h : isBytes P t = true) : ∃ e, P.underlying t = some (.slice e) ∧ P.underlying e = some (.int .u8) := by
  unfold isBytes at h
  split at h
  · rename_i e he
    split at h
    · rename_i h2; exact ⟨e, he, h2⟩
    · cases h
  · cases h
theorem run_load_bytes {w : World} {b off : Nat} {arr : Array Value} {el : TypeId} {fr : Nat × Nat} {vs : List Value} (hb : w.heap[b]? = some (.cells arr el fr)) {m : Nat} (hm : off + m ≤ arr.size) (hv : (arr.toList.drop off).take m = vs) :
    (loadCells ⟨b, off, none⟩ m).run P w = .ok vs.toArray w := by
  have hlen : vs.length = m := by rw [← hv]; simp; omega
  have hl := run_loadCells_list (P := P) w ⟨b, off, none⟩ vs (fun j v hj => by
    rw [addr_add]
    simp only [World.cell?, hb, Option.isSome_none, Bool.false_eq_true, if_false]
    rw [← hv, List.getElem?_take] at hj
    split at hj
    · rw [List.getElem?_drop] at hj
      simpa using hj
    · simp at hj)
  rw [hlen] at hl
  exact hl
theorem LOK.convStr {d k off len es : Nat} {t t' : TypeId} {x : Operand} {ty : TypeId} {pos : String} {after : Array Edge} {g : Option (Nat × Bool)} {b : Box} {l : List UInt8} (hx : σ.ev x = some (.sv (.one (.slc k off len es)))) (hk : σ.stat k = some (some b))
    (ht : isBytes P t = true) (ht' : P.underlying t' = some .string) (hm : off + len ≤ b.cells.length) (hl : (b.cells.drop off).take len = l.map bc) :
    LOK P n ops ⟨some d, .convert t t' x, ty, pos, after, g⟩ σ ⟨[(d, .sv (.one (.val (.string ⟨l.toArray⟩))))], [k], []⟩ :=
  LOK.value fun σ' ha C ι a w hr => by
    have hk' := (ha.stat k (.inl (by simp))).trans hk
    have hv := hr.ev ((ha.ev (x := x) (by simp [Op.operands])).trans hx)
    simp only [LV.rel, SV.rel, CV.rel, hk'] at hv
    obtain ⟨c, hv, _⟩ := hv
    obtain ⟨arr, fr, harr, -, -, hrel⟩ := hr.boxes k _ hk'
    obtain ⟨hm', hpart⟩ := Box.rel_part hrel hm
    rw [hl] at hpart
    have hb := run_load_bytes (P := P) harr (by simpa using hm') (rel_bytes hpart)
    obtain ⟨e, hu, hu8⟩ := isBytes_spec ht
    have h1 := run_convert_bytes_string w t t' e (some ⟨(ι k).1, off, none⟩) len c hu hu8 ht'
    rw [run_bytesToString w _ len c _ hb, foldl_push] at h1
    exact ⟨_, by simp only [execOp, hv, Sem.run_bind, h1, Result.andThen_ok, Sem.run_pure]; rfl, by simp [LV.rel, SV.rel, CV.rel]⟩
theorem K.convStr {d k off len es : Nat} {t t' : TypeId} {x : Operand} {ty : TypeId} {pos : String} {after : Array Edge} {g : Option (Nat × Bool)} {b : Box} {l : List UInt8} (hx : (⟨s, bx, X⟩ : St).ev x = some (.sv (.one (.slc k off len es)))) (hk : (⟨s, bx, X⟩ : St).stat k = some (some b))
    (ht : isBytes P t = true) (ht' : P.underlying t' = some .string) (hm : off + len ≤ b.cells.length) (hl : (b.cells.drop off).take len = l.map bc) (hw : Want ops s g)
    (kont : RunK P n ops os ⟨(d, .sv (.one (.val (.string ⟨l.toArray⟩)))) :: s, bx, X⟩ (⟨[(d, .sv (.one (.val (.string ⟨l.toArray⟩))))], [k], []⟩ :: acc) K) :
    RunK P n ops (⟨some d, .convert t t' x, ty, pos, after, g⟩ :: os) ⟨s, bx, X⟩ acc K := RunK.g1 (LOK.convStr hx hk ht ht' hm hl) hw kont
end
end Go.Lg
