/- A piece of a proof over this program: contracts of its functions, and a logic to prove them by. -/
import Derived.Test.YtjifibloagkeeaaGreatQ1
import Derived.Great.BuildSlice
import Derived.Laws.BytesString
import Derived.Laws.Pointers
import Derived.Laws.IdiomStrings
import Derived.Laws.MakeOwn
import Derived.Deep.AppendSrc
import Derived.ProofKit
import Derived.OpenShut
import Derived.Stop.Joined
import Derived.Lib.SmallJoins
import Derived.Deep.Slices
import Derived.Carry
import Derived.ChangeMaps5
import Derived.JoinedOf
import Derived.Lib.AppendZerosOnto
section
namespace Go.Lg
open Go Go.RowKit
section
variable {P:Program} {n:Nat} {ops os:List Oper} {acc:List Eff} {K:List Eff→St→Prop} {s:List (Nat×LV)} {bx:List (Nat×Option Box)} {X:Nat→Option Obj} {σ:St}
def arrBuild (P:Program) (t:TypeId):Option (List Value×Nat):=
  match P.info? t,P.underlying t with
  | some it,some (.array _ e) =>
    match it.zero,P.info? e with
    | some z,some ie=>some (z.cells.toList,ie.size)
    | _,_=>none
  | _,_=>none
class ArrB (P:Program) (t:TypeId) (zs:outParam (List Value)) (sz:outParam Nat):Prop where
  h:arrBuild P t=some (zs,sz)
theorem LOK.buildArr {d:Nat} {t:TypeId} {parts:List (Nat×Operand)} {ty:TypeId} {pos:String} {after:Array Edge} {g:Option (Nat×Bool)} {ps:List (Nat×SV)} {zs:List Value} {sz:Nat} {cs:List CV}
    (hst:arrBuild P t=some (zs,sz)) (hp:evParts σ parts=some ps) (hso:ps.all (fun p=>p.2.solid)=true) (hf:fillL (fun i=>some (i*sz,sz)) (zs.map .val) ps=some cs):
    LOK P n ops ⟨some d,.build t parts.toArray,ty,pos,after,g⟩ σ ⟨[(d,.sv (.agg cs))],[],[]⟩:=
  LOK.value fun σ' ha C ι a w hr=>by
    have hp':evParts σ' parts=some ps:=by
      rw [evParts_agree fun x hx=>ha.ev (by simp [Op.operands];simpa using hx)]
      exact hp
    have hrel:=evParts_rel hr hp' hso
    obtain ⟨arr',hfill,hcs⟩:=fill_rel (arr:=zs.toArray) hrel (by simpa using CVs.rel_map_val zs) hf
    refine ⟨.agg arr',?_,arr',rfl,hcs⟩
    have hb:P.built t ((parts.toArray.map fun (i,x)=>(i,a.eval x)).toList)=some arr':=by
      unfold arrBuild at hst
      unfold Program.built
      cases hit:P.info? t with
      | none=>simp [hit] at hst
      | some it =>
        cases hu:P.underlying t with
        | none=>simp [hit,hu] at hst
        | some dd =>
          cases dd<;>simp only [hit,hu] at hst<;>try (simp at hst;done)
          rename_i len e
          cases hz:it.zero with
          | none=>simp [hz] at hst
          | some z =>
            cases hpl:P.info? e with
            | none=>simp [hz,hpl] at hst
            | some ie =>
              simp only [hz,hpl,Option.some.injEq,Prod.mk.injEq] at hst
              obtain ⟨e1,e2⟩:=hst
              simp only
              rw [← e1,← e2] at hfill
              simp only [hz,hpl]
              simpa using hfill
    simp only [execOp,Sem.run_bind,run_build w t _ arr' hb,Result.andThen_ok,Sem.run_pure]
theorem K.buildArr {d:Nat} {t:TypeId} {ty:TypeId} {pos:String} {after:Array Edge} {g:Option (Nat×Bool)} {parts:List (Nat×Operand)} {ps:List (Nat×SV)} {zs:List Value} {sz:Nat} {cs cs':List CV} [i:ArrB P t zs sz]
    (hp:evParts ⟨s,bx,X⟩ parts=some ps) (hso:ps.all (fun p=>p.2.solid)=true) (hf:fillL (fun i=>some (i*sz,sz)) (zs.map .val) ps=some cs) (hn:cs=cs') (hw:Want ops s g) (kont:RunK P n ops os ⟨(d,.sv (.agg cs'))::s,bx,X⟩ (⟨[(d,.sv (.agg cs'))],[],[]⟩::acc) K):
    RunK P n ops (⟨some d,.build t parts.toArray,ty,pos,after,g⟩::os) ⟨s,bx,X⟩ acc K:=RunK.g1 (LOK.buildArr i.h hp hso (by rw [← hn] at *;exact hf)) hw kont
end
end Go.Lg
end
section
namespace Go.Lg
open Go Go.RowKit
section
variable {P:Program} {n:Nat} {ops os:List Oper} {acc:List Eff} {K:List Eff→St→Prop} {s:List (Nat×LV)} {bx:List (Nat×Option Box)} {X:Nat→Option Obj} {σ:St}
def slcBuild (P:Program) (t:TypeId) (len:Nat):Option (List Value×Nat×TypeId):=
  match P.underlying t with
  | some (.slice e) =>
    match P.info? e with
    | some ie =>
      match ie.zero with
      | some z=>if len*ie.size>2^24 then none else some ((List.range (len*ie.size)).map (fun i=>z.cells[i%z.cells.size]!),ie.size,e)
      | none=>none
    | none=>none
  | _=>none
theorem range_map (m:Nat) (f:Nat→Value):(Array.range m).map f=((List.range m).map f).toArray:=by
  apply Array.ext'
  rw [Array.toList_map,Array.toList_range]
theorem runBuildSlc (w:World) (t e:TypeId) (len:Nat) (parts:Array (Nat×Value)) (cells:Array Value) (ie:TypeInfo) (z:Value)
    (hu:P.underlying t=some (.slice e)) (hie:P.info? e=some ie) (hz:ie.zero=some z) (hsmall:¬ len*ie.size>2^24)
    (h:Instr.fill (fun i=>some (i*ie.size,ie.size)) ((List.range (len*ie.size)).map (fun i=>z.cells[i%z.cells.size]!)).toArray parts.toList=some cells):
    (Instr.buildSlice t len parts).run P w = .ok (.slice (some ⟨w.heap.size,0,none⟩) len len) (w.alloc (.cells cells e)):=by
  by_cases h0:len*ie.size=0
  · have hf0:Instr.fill (fun i=>some (i*ie.size,ie.size)) #[] parts.toList=some cells:=by rw [h0] at h;exact h
    have hd:Array.map (fun _:Nat=>(default:Value)) (Array.range 0) = #[]:=by rw [range_map];rfl
    simp [Instr.buildSlice,run_underlying hu,sizeOf,typeInfo,hie,h0,newRow]
    rw [hd,hf0]
    simp
  · exact run_buildSlice w t e len parts cells ie z hu hie hz hsmall h0 (by rw [range_map];exact h)
theorem LOK.buildSlc {d k:Nat} {t e:TypeId} {len:Nat} {parts:List (Nat×Operand)} {ty:TypeId} {pos:String} {after:Array Edge} {g:Option (Nat×Bool)} {ps:List (Nat×SV)} {zs:List Value} {sz:Nat} {cs:List CV}
    (hst:slcBuild P t len=some (zs,sz,e)) (hp:evParts σ parts=some ps) (hso:ps.all (fun p=>p.2.solid)=true) (hf:fillL (fun i=>some (i*sz,sz)) (zs.map .val) ps=some cs) (hln:Nat.ble (len*sz) cs.length=true) (hk:σ.fresh k=true):
    LOK P n ops ⟨some d,.buildSlice t len parts.toArray,ty,pos,after,g⟩ σ ⟨[(d,.sv (.one (.slc k 0 len sz)))],[],[(k,some ⟨e,cs,false⟩)]⟩:=
  LOK.make fun σ' ha C ι a w hr=>by
    have hk':σ'.stat k=none:=(ha.stat k (.inr (by simp))).trans (St.fresh_none hk)
    have hlt:=St.fresh_lt hk
    have hp':evParts σ' parts=some ps:=by
      rw [evParts_agree fun x hx=>ha.ev (by simp [Op.operands];simpa using hx)]
      exact hp
    have hrel:=evParts_rel hr hp' hso
    obtain ⟨arr',hfill,hcs⟩:=fill_rel (arr:=zs.toArray) hrel (by simpa using CVs.rel_map_val zs) hf
    unfold slcBuild at hst
    cases hu:P.underlying t with
    | none=>simp [hu] at hst
    | some dd =>
      cases dd<;>simp only [hu] at hst<;>try (simp at hst;done)
      rename_i e'
      cases hie:P.info? e' with
      | none=>simp [hie] at hst
      | some ie =>
        cases hz:ie.zero with
        | none=>simp [hie,hz] at hst
        | some z =>
          simp only [hie,hz] at hst
          by_cases hbig:len*ie.size>2^24
          · rw [if_pos hbig] at hst;cases hst
          · rw [if_neg hbig] at hst
            simp only [Option.some.injEq,Prod.mk.injEq] at hst
            obtain ⟨e1,e2,e3⟩:=hst
            subst e3
            rw [← e1,← e2] at hfill
            refine ⟨.slice (some ⟨w.heap.size,0,none⟩) len len,w.alloc (.cells arr' e'),put1 ι k (w.heap.size,arr'.size),?_,?_,?_⟩
            · have hrun:=runBuildSlc w t e' len (parts.toArray.map fun (i,x)=>(i,a.eval x)) arr' ie z hu hie hz hbig (by simpa using hfill)
              simp only [execOp,Sem.run_bind,hrun,Result.andThen_ok,Sem.run_pure]
            · exact hr.new hlt hk' (b:=⟨e',cs,false⟩) hcs
            · have h1:=Nat.le_of_ble_eq_true hln
              rw [CVs.rel_length hcs,Array.length_toList] at h1
              simp [LV.rel,SV.rel,CV.rel,stat_cons,put1,h1]
theorem K.buildSlc {d:Nat} {t e:TypeId} {len:Nat} {ty:TypeId} {pos:String} {after:Array Edge} {g:Option (Nat×Bool)} {parts:List (Nat×Operand)} {ps:List (Nat×SV)} {zs:List Value} {sz:Nat} {cs cs':List CV}
    (hst:slcBuild P t len=some (zs,sz,e)) (hp:evParts ⟨s,bx,X⟩ parts=some ps) (hso:ps.all (fun p=>p.2.solid)=true) (hf:fillL (fun i=>some (i*sz,sz)) (zs.map .val) ps=some cs) (hn:cs=cs') (hln:Nat.ble (len*sz) cs'.length=true) (hk:(⟨s,bx,X⟩:St).fresh d=true) (hw:Want ops s g)
    (kont:RunK P n ops os ⟨(d,.sv (.one (.slc d 0 len sz)))::s,(d,some ⟨e,cs',false⟩)::bx,X⟩ (⟨[(d,.sv (.one (.slc d 0 len sz)))],[],[(d,some ⟨e,cs',false⟩)]⟩::acc) K):
    RunK P n ops (⟨some d,.buildSlice t len parts.toArray,ty,pos,after,g⟩::os) ⟨s,bx,X⟩ acc K:=RunK.g2 (LOK.buildSlc hst hp hso (by rw [← hn] at *;exact hf) hln hk) hw kont
def bc (c:UInt8):CV:=.val (.int .u8 (c.toNat:Nat))
theorem foldl_push:∀ (l:List UInt8) (r:ByteArray),(l.map fun c=>((c.toNat:Nat):Int)).foldl (fun r n=>r.push (UInt8.ofNat n.toNat)) r=⟨(r.data.toList++l).toArray⟩
  | [],r=>by simp
  | c::l,r=>by
    rw [List.map_cons,List.foldl_cons,foldl_push l]
    congr 1
    have:UInt8.ofNat (((c.toNat:Nat):Int).toNat)=c:=by simp
    rw [this]
    simp [ByteArray.push]
theorem rel_bytes {S:Nat→Option (Option Box)} {ι:Nat→Nat×Nat}:∀ {l:List UInt8} {vs:List Value},CVs.rel S ι (l.map bc) vs→vs=(l.map fun c=>((c.toNat:Nat):Int)).map (Value.int .u8)
  | [],[],_=>rfl
  | _::_,_::_,h=>by
    obtain ⟨h1,h2⟩:=h
    simp only [bc,CV.rel] at h1
    rw [h1,rel_bytes h2];rfl
  | [],_::_,h=>h.elim
  | _::_,[],h=>h.elim
def isBytes (P:Program) (t:TypeId):Bool:=match P.underlying t with|some (.slice e)=>(match P.underlying e with|some (.int .u8)=>true|_=>false)|_=>false
theorem isBytes_spec {t:TypeId} (h:isBytes P t=true):∃ e,P.underlying t=some (.slice e)∧P.underlying e=some (.int .u8):=by
  unfold isBytes at h
  split at h
  · rename_i e he
    split at h
    · rename_i h2;exact ⟨e,he,h2⟩
    · cases h
  · cases h
theorem run_load_bytes {w:World} {b off:Nat} {arr:Array Value} {el:TypeId} {fr:Nat×Nat} {vs:List Value} (hb:w.heap[b]? = some (.cells arr el fr)) {m:Nat} (hm:off+m≤arr.size) (hv:(arr.toList.drop off).take m=vs):
    (loadCells ⟨b,off,none⟩ m).run P w = .ok vs.toArray w:=by
  have hlen:vs.length=m:=by rw [← hv];simp;omega
  have hl:=run_loadCells_list (P:=P) w ⟨b,off,none⟩ vs (fun j v hj=>by
    rw [addr_add]
    simp only [World.cell?,hb,Option.isSome_none,Bool.false_eq_true,if_false]
    rw [← hv,List.getElem?_take] at hj
    split at hj
    · rw [List.getElem?_drop] at hj
      simpa using hj
    · simp at hj)
  rw [hlen] at hl
  exact hl
theorem LOK.convStr {d k off len es:Nat} {t t':TypeId} {x:Operand} {ty:TypeId} {pos:String} {after:Array Edge} {g:Option (Nat×Bool)} {e:TypeId} {cs:List CV} {row:Bool} {l:List UInt8} (hx:σ.ev x=some (.sv (.one (.slc k off len es)))) (hk:σ.stat k=some (some ⟨e,cs,row⟩))
    (ht:isBytes P t=true) (ht':P.underlying t'=some .string) (hm:off+len≤cs.length) (hl:(cs.drop off).take len=l.map bc):
    LOK P n ops ⟨some d,.convert t t' x,ty,pos,after,g⟩ σ ⟨[(d,.sv (.one (.val (.string ⟨l.toArray⟩))))],[k],[]⟩:=
  LOK.value fun σ' ha C ι a w hr=>by
    have hk':=(ha.stat k (.inl (by simp))).trans hk
    have hv:=hr.ev ((ha.ev (x:=x) (by simp [Op.operands])).trans hx)
    simp only [LV.rel,SV.rel,CV.rel,hk'] at hv
    obtain ⟨c,hv,_⟩:=hv
    obtain ⟨arr,fr,harr,-,-,hrel⟩:=hr.boxes k _ hk' rfl
    obtain ⟨hm',hpart⟩:=Box.rel_part hrel hm
    rw [hl] at hpart
    have hb:=run_load_bytes (P:=P) harr (by simpa using hm') (rel_bytes hpart)
    obtain ⟨eb,hu,hu8⟩:=isBytes_spec ht
    have h1:=run_convert_bytes_string w t t' eb (some ⟨(ι k).1,off,none⟩) len c hu hu8 ht'
    rw [run_bytesToString w _ len c _ hb,foldl_push] at h1
    exact ⟨_,by simp only [execOp,hv,Sem.run_bind,h1,Result.andThen_ok,Sem.run_pure];rfl,by simp [LV.rel,SV.rel,CV.rel]⟩
theorem K.convStr {d k off len es:Nat} {t t':TypeId} {x:Operand} {ty:TypeId} {pos:String} {after:Array Edge} {g:Option (Nat×Bool)} {e:TypeId} {cs:List CV} {row:Bool} {l:List UInt8} (hx:(⟨s,bx,X⟩:St).ev x=some (.sv (.one (.slc k off len es)))) (hk:(⟨s,bx,X⟩:St).stat k=some (some ⟨e,cs,row⟩))
    (ht:isBytes P t=true) (ht':P.underlying t'=some .string) (hm:off+len≤cs.length) (hl:(cs.drop off).take len=l.map bc) (hw:Want ops s g)
    (kont:RunK P n ops os ⟨(d,.sv (.one (.val (.string ⟨l.toArray⟩))))::s,bx,X⟩ (⟨[(d,.sv (.one (.val (.string ⟨l.toArray⟩))))],[k],[]⟩::acc) K):
    RunK P n ops (⟨some d,.convert t t' x,ty,pos,after,g⟩::os) ⟨s,bx,X⟩ acc K:=RunK.g1 (LOK.convStr hx hk ht ht' hm hl) hw kont
end
end Go.Lg
end
section
namespace Go.Lg
open Go Go.RowKit
def CV.ren (f:Nat→Nat):CV→CV
  | .val v=>.val v
  | .junk=>.junk
  | .ptr k off=>.ptr (f k) off
  | .slc k off n sz=>.slc (f k) off n sz
  | .mp k=>.mp (f k)
  | .fn fi gi k=>.fn fi gi (f k)
  | .hang g h k=>.hang g h (f k)
def SV.ren (f:Nat→Nat):SV→SV
  | .one c=>.one (c.ren f)
  | .agg l=>.agg (l.map (CV.ren f))
def LV.ren (f:Nat→Nat):LV→LV
  | .sv s=>.sv (s.ren f)
  | .tup l=>.tup (l.map (SV.ren f))
def Box.ren (f:Nat→Nat) (b:Box):Box:=⟨b.elem,b.cells.map (CV.ren f),b.row⟩
def rn (l:List (Nat×Nat)) (k:Nat):Nat:=(look k l).getD k
section
variable {S T:Nat→Option (Option Box)} {ι κ:Nat→Nat×Nat} {f:Nat→Nat}
def Maps (S T:Nat→Option (Option Box)) (ι κ:Nat→Nat×Nat) (f:Nat→Nat):Prop:=
  ∀ k,S k≠none→T (f k)≠none∧∀ b',T (f k)=some (some b')→κ (f k)=ι k∧∃ b,S k=some (some b)
theorem CV.rel_maps (h:Maps S T ι κ f) {c:CV} {v:Value} (hr:c.rel S ι v):(c.ren f).rel T κ v:=by
  cases c with
  | val u=>exact hr
  | junk=>trivial
  | ptr k off =>
    simp only [CV.rel,CV.ren] at hr ⊢
    cases hk:S k with
    | none=>simp [hk] at hr
    | some x =>
      obtain ⟨h1,h2⟩:=h k (by simp [hk])
      cases hk':T (f k) with
      | none=>exact absurd hk' h1
      | some x' =>
        cases x' with
        | none =>
          cases x with
          | none=>simpa [hk] using hr
          | some _=>rw [hk] at hr;exact ⟨_,hr⟩
        | some b' =>
          obtain ⟨e,b,hb⟩:=h2 b' hk'
          rw [hb] at hr
          simp only at hr ⊢
          rw [e]
          exact hr
  | slc k off n sz =>
    simp only [CV.rel,CV.ren] at hr ⊢
    cases hk:S k with
    | none=>simp [hk] at hr
    | some x =>
      obtain ⟨h1,h2⟩:=h k (by simp [hk])
      cases hk':T (f k) with
      | none=>exact absurd hk' h1
      | some x' =>
        cases x' with
        | none =>
          cases x with
          | none=>simpa [hk] using hr
          | some _=>rw [hk] at hr;obtain ⟨c,h3,h4,_⟩:=hr;exact ⟨_,c,h3,h4⟩
        | some b' =>
          obtain ⟨e,b,hb⟩:=h2 b' hk'
          rw [hb] at hr
          simp only at hr ⊢
          rw [e]
          exact hr
  | mp k =>
    simp only [CV.rel,CV.ren] at hr ⊢
    cases hk:S k with
    | none=>simp [hk] at hr
    | some x =>
      obtain ⟨h1,h2⟩:=h k (by simp [hk])
      cases hk':T (f k) with
      | none=>exact absurd hk' h1
      | some x' =>
        cases x' with
        | none =>
          cases x with
          | none=>simpa [hk] using hr
          | some _=>rw [hk] at hr;exact ⟨_,hr⟩
        | some b' =>
          obtain ⟨e,b,hb⟩:=h2 b' hk'
          rw [hb] at hr
          simp only at hr ⊢
          rw [e]
          exact hr
  | fn fi gi k =>
    simp only [CV.rel,CV.ren] at hr ⊢
    cases hk:S k with
    | none=>simp [hk] at hr
    | some x =>
      obtain ⟨h1,h2⟩:=h k (by simp [hk])
      cases hk':T (f k) with
      | none=>exact absurd hk' h1
      | some x' =>
        cases x' with
        | none =>
          cases x with
          | none=>simpa [hk] using hr
          | some _=>rw [hk] at hr;exact ⟨_,hr⟩
        | some b' =>
          obtain ⟨e,b,hb⟩:=h2 b' hk'
          rw [hb] at hr
          simp only at hr ⊢
          rw [e]
          exact hr
  | hang g hg k =>
    simp only [CV.rel,CV.ren] at hr ⊢
    cases hk:S k with
    | none=>simp [hk] at hr
    | some x =>
      obtain ⟨h1,h2⟩:=h k (by simp [hk])
      cases hk':T (f k) with
      | none=>exact absurd hk' h1
      | some x' =>
        cases x' with
        | none =>
          cases x with
          | none=>simpa [hk] using hr
          | some _=>rw [hk] at hr;exact ⟨_,hr⟩
        | some b' =>
          obtain ⟨e,b,hb⟩:=h2 b' hk'
          rw [hb] at hr
          simp only at hr ⊢
          rw [e]
          exact hr
theorem CVs.rel_maps (h:Maps S T ι κ f):∀ {l:List CV} {vs:List Value},CVs.rel S ι l vs→CVs.rel T κ (l.map (CV.ren f)) vs
  | [],[],_=>trivial
  | _::_,_::_,hr=>⟨CV.rel_maps h hr.1,CVs.rel_maps h hr.2⟩
  | [],_::_,hr=>hr.elim
  | _::_,[],hr=>hr.elim
theorem SV.rel_maps (h:Maps S T ι κ f) {s:SV} {v:Value} (hr:s.rel S ι v):(s.ren f).rel T κ v:=by
  cases s with
  | one c=>exact CV.rel_maps h hr
  | agg l=>obtain ⟨arr,e,hl⟩:=hr;exact ⟨arr,e,CVs.rel_maps h hl⟩
theorem SVs.rel_maps (h:Maps S T ι κ f):∀ {l:List SV} {vs:List Value},SVs.rel S ι l vs→SVs.rel T κ (l.map (SV.ren f)) vs
  | [],[],_=>trivial
  | _::_,_::_,hr=>⟨SV.rel_maps h hr.1,SVs.rel_maps h hr.2⟩
  | [],_::_,hr=>hr.elim
  | _::_,[],hr=>hr.elim
theorem LV.rel_maps (h:Maps S T ι κ f) {s:LV} {v:Value} (hr:s.rel S ι v):(s.ren f).rel T κ v:=by
  cases s with
  | sv s=>exact SV.rel_maps h hr
  | tup l=>obtain ⟨arr,e,hl⟩:=hr;exact ⟨arr,e,SVs.rel_maps h hl⟩
theorem Box.rel_maps (h:Maps S T ι κ f) {b:Box} {vs:List Value} (hr:b.rel S ι vs):(b.ren f).rel T κ vs:=by
  unfold Box.rel at hr ⊢
  unfold Box.ren
  cases hb:b.row with
  | res R=>rw [hb] at hr;exact hr.elim
  | bool r =>
    cases r with
    | false=>rw [hb] at hr;exact CVs.rel_maps h hr
    | true=>rw [hb] at hr;obtain ⟨us,sp,e,hl⟩:=hr;exact ⟨us,sp,e,CVs.rel_maps h hl⟩
def Back (bx:List (Nat×Option Box)) (T:Nat→Option (Option Box)) (f:Nat→Nat):Prop:=
  ∀ k x,look k bx=some x→(∀ b,x=some b→∃ b',T (f k)=some (some b'))∧∃ y,T (f k)=some y
variable {bx:List (Nat×Option Box)}
theorem CV.rel_back (h:Back bx T f) {c:CV} (hu:c.inUse bx=true) {v:Value} (hr:(c.ren f).rel T κ v):c.rel (fun k=>look k bx) (fun k=>κ (f k)) v:=by
  cases c with
  | val u=>exact hr
  | junk=>trivial
  | ptr k off =>
    simp only [CV.inUse,Option.isSome_iff_exists] at hu
    obtain ⟨x,hx⟩:=hu
    obtain ⟨h1,y,hy⟩:=h k x hx
    simp only [CV.rel,CV.ren,hx] at hr ⊢
    cases x with
    | none =>
      rw [hy] at hr
      cases y with
      | none=>exact hr
      | some b=>exact ⟨_,hr⟩
    | some b=>obtain ⟨b',hb'⟩:=h1 b rfl;rw [hb'] at hr;exact hr
  | slc k off m sz =>
    simp only [CV.inUse,Option.isSome_iff_exists] at hu
    obtain ⟨x,hx⟩:=hu
    obtain ⟨h1,y,hy⟩:=h k x hx
    simp only [CV.rel,CV.ren,hx] at hr ⊢
    cases x with
    | none =>
      rw [hy] at hr
      cases y with
      | none=>exact hr
      | some b=>obtain ⟨c,h3,h4,_⟩:=hr;exact ⟨_,c,h3,h4⟩
    | some b=>obtain ⟨b',hb'⟩:=h1 b rfl;rw [hb'] at hr;exact hr
  | mp k =>
    simp only [CV.inUse,Option.isSome_iff_exists] at hu
    obtain ⟨x,hx⟩:=hu
    obtain ⟨h1,y,hy⟩:=h k x hx
    simp only [CV.rel,CV.ren,hx] at hr ⊢
    cases x with
    | none =>
      rw [hy] at hr
      cases y with
      | none=>exact hr
      | some b=>exact ⟨_,hr⟩
    | some b=>obtain ⟨b',hb'⟩:=h1 b rfl;rw [hb'] at hr;exact hr
  | fn fi gi k =>
    simp only [CV.inUse,Option.isSome_iff_exists] at hu
    obtain ⟨x,hx⟩:=hu
    obtain ⟨h1,y,hy⟩:=h k x hx
    simp only [CV.rel,CV.ren,hx] at hr ⊢
    cases x with
    | none =>
      rw [hy] at hr
      cases y with
      | none=>exact hr
      | some b=>exact ⟨_,hr⟩
    | some b=>obtain ⟨b',hb'⟩:=h1 b rfl;rw [hb'] at hr;exact hr
  | hang g hg k =>
    simp only [CV.inUse,Option.isSome_iff_exists] at hu
    obtain ⟨x,hx⟩:=hu
    obtain ⟨h1,y,hy⟩:=h k x hx
    simp only [CV.rel,CV.ren,hx] at hr ⊢
    cases x with
    | none =>
      rw [hy] at hr
      cases y with
      | none=>exact hr
      | some b=>exact ⟨_,hr⟩
    | some b=>obtain ⟨b',hb'⟩:=h1 b rfl;rw [hb'] at hr;exact hr
theorem CVs.rel_back (h:Back bx T f):∀ {l:List CV} {vs:List Value},l.all (CV.inUse bx)=true→CVs.rel T κ (l.map (CV.ren f)) vs→CVs.rel (fun k=>look k bx) (fun k=>κ (f k)) l vs
  | [],[],_,_=>trivial
  | _::_,_::_,hu,hr=>by
    simp only [List.all_cons,Bool.and_eq_true] at hu
    exact ⟨CV.rel_back h hu.1 hr.1,CVs.rel_back h hu.2 hr.2⟩
  | [],_::_,_,hr=>hr.elim
  | _::_,[],_,hr=>hr.elim
theorem SV.rel_back (h:Back bx T f) {s:SV} (hu:s.inUse bx=true) {v:Value} (hr:(s.ren f).rel T κ v):s.rel (fun k=>look k bx) (fun k=>κ (f k)) v:=by
  cases s with
  | one c=>exact CV.rel_back h hu hr
  | agg l=>obtain ⟨arr,e,hl⟩:=hr;exact ⟨arr,e,CVs.rel_back h hu hl⟩
theorem SVs.rel_back (h:Back bx T f):∀ {l:List SV} {vs:List Value},l.all (SV.inUse bx)=true→SVs.rel T κ (l.map (SV.ren f)) vs→SVs.rel (fun k=>look k bx) (fun k=>κ (f k)) l vs
  | [],[],_,_=>trivial
  | _::_,_::_,hu,hr=>by
    simp only [List.all_cons,Bool.and_eq_true] at hu
    exact ⟨SV.rel_back h hu.1 hr.1,SVs.rel_back h hu.2 hr.2⟩
  | [],_::_,_,hr=>hr.elim
  | _::_,[],_,hr=>hr.elim
theorem LV.rel_back (h:Back bx T f) {s:LV} (hu:s.inUse bx=true) {v:Value} (hr:(s.ren f).rel T κ v):s.rel (fun k=>look k bx) (fun k=>κ (f k)) v:=by
  cases s with
  | sv s=>exact SV.rel_back h hu hr
  | tup l=>obtain ⟨arr,e,hl⟩:=hr;exact ⟨arr,e,SVs.rel_back h hu hl⟩
theorem LVs.rel_back (h:Back bx T f):∀ {l:List LV} {vs:List Value},l.all (LV.inUse bx)=true→LVs.rel T κ (l.map (LV.ren f)) vs→LVs.rel (fun k=>look k bx) (fun k=>κ (f k)) l vs
  | [],[],_,_=>trivial
  | _::_,_::_,hu,hr=>by
    simp only [List.all_cons,Bool.and_eq_true] at hu
    exact ⟨LV.rel_back h hu.1 hr.1,LVs.rel_back h hu.2 hr.2⟩
  | [],_::_,_,hr=>hr.elim
  | _::_,[],_,hr=>hr.elim
theorem Box.rel_back (h:Back bx T f) {b:Box} (hu:b.cells.all (CV.inUse bx)=true) {vs:List Value} (hr:(b.ren f).rel T κ vs):b.rel (fun k=>look k bx) (fun k=>κ (f k)) vs:=by
  unfold Box.rel at hr ⊢
  unfold Box.ren at hr
  cases hb:b.row with
  | res R=>rw [hb] at hr;exact hr.elim
  | bool r =>
    cases r with
    | false=>rw [hb] at hr;exact CVs.rel_back h hu hr
    | true=>rw [hb] at hr;obtain ⟨us,sp,e,hl⟩:=hr;exact ⟨us,sp,e,CVs.rel_back h hu hl⟩
end
def boxesAt (σ:St) (f:Nat→Nat):List (Nat×Option Box)→Prop
  | []=>True
  | (k,some b)::r=>(∃ b',σ.stat (f k)=some (some b')∧b.ren f=b')∧boxesAt σ f r
  | (k,none)::r=>(∃ x,σ.stat (f k)=some x)∧boxesAt σ f r
theorem ren_bytes (f:Nat→Nat):∀ (l:List UInt8),(l.map bc).map (CV.ren f)=l.map bc
  | []=>rfl
  | c::l=>by rw [List.map_cons,List.map_cons,ren_bytes f l];rfl
theorem Box.ren_bytes (f:Nat→Nat) (e:TypeId) (l:List UInt8) (r:Bool):Box.ren f ⟨e,l.map bc,r⟩=⟨e,l.map bc,r⟩:=by
  unfold Box.ren
  simp only [Go.Lg.ren_bytes]
theorem bytes_inUse {bx:List (Nat×Option Box)}:∀ {l:List UInt8},(l.map bc).all (CV.inUse bx)=true
  | []=>rfl
  | c::l=>by rw [List.map_cons,List.all_cons,bytes_inUse];rfl
theorem all_cons_true {α:Type} {f:α→Bool} {x:α} {l:List α} (h:f x=true) (t:l.all f=true):(x::l).all f=true:=by rw [List.all_cons,h,t];rfl
inductive PostEq (f:Nat→Nat):List (Nat×Option Box)→List (Nat×Option Box)→Prop
  | nil:PostEq f [] []
  | dead {k j:Nat} {r r':List (Nat×Option Box)} (hk:f k=j) (h:PostEq f r r'):PostEq f ((k,none)::r) ((j,none)::r')
  | box {k j:Nat} {b b':Box} {r r':List (Nat×Option Box)} (hk:f k=j) (hb:b.ren f=b') (h:PostEq f r r'):PostEq f ((k,some b)::r) ((j,some b')::r')
theorem PostEq.eq {f:Nat→Nat} {l l':List (Nat×Option Box)} (h:PostEq f l l'):(l.map fun p=>(f p.1,p.2.map (Box.ren f)))=l':=by
  induction h with
  | nil=>rfl
  | dead hk _ ih=>rw [List.map_cons,ih,← hk];rfl
  | box hk hb _ ih=>rw [List.map_cons,ih,← hk,← hb];rfl
theorem boxesAt_look {σ:St} {f:Nat→Nat}:∀ {l:List (Nat×Option Box)},boxesAt σ f l→∀ k x,look k l=some x→(∀ b,x=some b→σ.stat (f k)=some (some (b.ren f)))∧(∃ y,σ.stat (f k)=some y)∧(k,x)∈l
  | [],_,k,x,h=>by simp [look] at h
  | (k',ob)::r,hb,k,x,h=>by
    simp only [look] at h
    cases e:Nat.beq k' k with
    | true =>
      have:=Nat.eq_of_beq_eq_true e
      subst this
      rw [e] at h
      simp at h
      subst h
      cases ob with
      | none=>exact ⟨fun b h2=>(by cases h2),hb.1,List.mem_cons_self⟩
      | some b =>
        obtain ⟨⟨b1,h3,h4⟩,_⟩:=hb
        subst h4
        exact ⟨fun b' h2=>(by cases h2;exact h3),⟨_,h3⟩,List.mem_cons_self⟩
    | false =>
      rw [e] at h
      have hr:boxesAt σ f r:=by cases ob<;>exact hb.2
      obtain ⟨h1,h2,h3⟩:=boxesAt_look hr k x h
      exact ⟨h1,h2,by simp [h3]⟩
def injOn (f:Nat→Nat):List Nat→Bool
  | []=>true
  | k::r=>r.all (fun j => !Nat.beq (f k) (f j))&&injOn f r
theorem injOn_spec {f:Nat→Nat}:∀ {l:List Nat},injOn f l=true→∀ i j,i∈l→j∈l→f i=f j→i=j
  | [],_,i,_,h,_,_=>by simp at h
  | k::r,h,i,j,hi,hj,e=>by
    simp only [injOn,Bool.and_eq_true,List.all_eq_true,Bool.not_eq_true'] at h
    obtain ⟨h1,h2⟩:=h
    rcases List.mem_cons.1 hi with rfl|hi'
    · rcases List.mem_cons.1 hj with rfl|hj'
      · rfl
      · have:=h1 j hj'
        rw [e,Nat.beq_refl] at this
        cases this
    · rcases List.mem_cons.1 hj with rfl|hj'
      · have:=h1 i hi'
        rw [e,Nat.beq_refl] at this
        cases this
      · exact injOn_spec h2 i j hi' hj' e
theorem look_key {α:Type} {k:Nat} {l:List (Nat×α)} {x:α} (h:look k l=some x):k∈l.map (·.1):=by
  apply Classical.byContradiction
  intro hn
  rw [look_none hn] at h
  cases h
theorem key_look {α:Type} {k:Nat}:∀ {l:List (Nat×α)},k∈l.map (·.1)→∃ x,look k l=some x
  | [],h=>by simp at h
  | (k',x)::r,h=>by
    simp only [look]
    cases e:Nat.beq k' k with
    | true=>exact ⟨x,by simp⟩
    | false =>
      have hne:k≠k':=fun h2=>by subst h2;rw [Nat.beq_refl] at e;cases e
      simp only [List.map_cons,List.mem_cons] at h
      obtain ⟨y,hy⟩:=key_look (h.resolve_left hne)
      exact ⟨y,by simpa using hy⟩
theorem Le.ofR {n:Nat} {C:Ctx} {σ:St} (f:List (Nat×Nat)) {s:List (Nat×LV)} {bx:List (Nat×Option Box)} {X:Nat→Option Obj}
    (hs:slotsIn σ (s.map fun p=>(p.1,p.2.ren (rn f)))) (hb:boxesAt σ (rn f) bx) (hX:σ.X=X)
    (hu:s.all (fun p=>p.2.inUse bx)=true) (hub:bx.all (fun p=>match p.2 with|some b=>b.cells.all (CV.inUse bx)|none=>true)=true)
    (hi:injOn (rn f) (bx.map (·.1))=true) (hk:bx.all (fun p=>Nat.blt p.1 1000000||Nat.beq (rn f p.1) p.1)=true):Le n C σ ⟨s,bx,X⟩:=by
  refine ⟨fun ι a w h => ?_⟩
  have hback:Back bx σ.stat (rn f):=fun k x hx=>⟨fun b e=>⟨_,(boxesAt_look hb k x hx).1 b e⟩,(boxesAt_look hb k x hx).2.1⟩
  refine ⟨fun k=>ι (rn f k),{
    defers:=h.defers,size:=h.size
    slots:=fun d lv hd => ?_
    boxes:=fun k b hk hbk => ?_
    own:=fun k b hk => ?_
    inj:=fun k k' b b' hk hk' he => ?_
    keep:=fun k b hk2 hlt => ?_
    ext:=by rw [← hX];exact h.ext
    res:=by
      obtain ⟨F,hF⟩:=h.res
      rw [← hX]
      exact ⟨_,hF.move (rn f) (fun k e cs R hk=>⟨⟨e,cs.map (CV.ren (rn f)),(boxesAt_look hb k _ hk).1 _ rfl⟩,rfl⟩) (fun k k' ⟨_,_,_,h1⟩ ⟨_,_,_,h2⟩ e=>injOn_spec hi k k' (look_key h1) (look_key h2) e) (fun _ _ _ _ _ hj=>hj) (fun _ _ ho=>ho) (fun _ _ hx _ _=>hx)
        (fun j bj hj=>.inl ⟨rn f j,_,(boxesAt_look hb j _ hj).1 _ rfl,rfl,fun k ⟨_,_,_,h1⟩ e=>(injOn_spec hi k j (look_key h1) (look_key hj) e).symm⟩)⟩
    frame:=h.frame,big:=h.big,os:=h.os,tape:=h.tape,output:=h.output }⟩
  · have hd2:look d (s.map fun p=>(p.1,p.2.ren (rn f)))=some (lv.ren (rn f))∧(d,lv)∈s:=by
      clear hs hu
      induction s with
      | nil=>simp [St.slot,look] at hd
      | cons p s ih =>
        simp only [St.slot,look,List.map_cons] at hd ⊢
        cases e:Nat.beq p.1 d with
        | true =>
          have:=Nat.eq_of_beq_eq_true e
          rw [e] at hd
          simp at hd
          exact ⟨by simp [hd],by rw [← this,← hd];simp⟩
        | false =>
          rw [e] at hd
          obtain ⟨h1,h2⟩:=ih hd
          exact ⟨by simpa using h1,by simp [h2]⟩
    obtain ⟨h1,-⟩:=slotsIn_look hs d _ hd2.1
    obtain ⟨v,hv,hr⟩:=h.slots d _ h1
    exact ⟨v,hv,LV.rel_back hback (List.all_eq_true.1 hu _ hd2.2) hr⟩
  · obtain ⟨h1,-,h2⟩:=boxesAt_look hb k _ hk
    obtain ⟨arr,fr,harr,ht,hsz,hr⟩:=h.boxes _ _ (h1 b rfl) hbk
    have hu':b.cells.all (CV.inUse bx)=true:=by simpa using List.all_eq_true.1 hub _ h2
    exact ⟨arr,fr,harr,ht,hsz,Box.rel_back hback hu' hr⟩
  · have:=h.own _ _ ((boxesAt_look hb k _ hk).1 b rfl)
    exact ⟨this.1,by rw [← hX];exact this.2⟩
  · have:=h.inj _ _ _ _ ((boxesAt_look hb k _ hk).1 b rfl) ((boxesAt_look hb k' _ hk').1 b' rfl) he
    exact injOn_spec hi k k' (look_key hk) (look_key hk') this
  · have h2:=List.all_eq_true.1 hk _ (boxesAt_look hb k _ hk2).2.2
    simp only [Bool.or_eq_true] at h2
    have e:rn f k=k:=by
      rcases h2 with h2|h2
      · have:k<1000000:=by rw [Nat.blt_eq] at h2;exact h2
        omega
      · exact Nat.eq_of_beq_eq_true h2
    have h3:=(boxesAt_look hb k _ hk2).1 b rfl
    have h4:=h.keep _ _ h3 (by rw [e];exact hlt)
    simp only [e] at h4 ⊢
    exact h4
end Go.Lg
end
section
namespace Go.Lg
open Go Go.RowKit
abbrev stOf (bx:List (Nat×Option Box)):Nat→Option (Option Box):=fun k=>look k bx
structure MemOf (X:Nat→Option Obj) (ι:Nat→Nat×Nat) (H:Nat→Nat→Option Obj) (bx:List (Nat×Option Box)) (w:World):Prop where
  boxes:∀ k b,stOf bx k=some (some b)→b.blk=true→∃ arr fr,w.heap[(ι k).1]? = some (.cells arr b.elem fr)∧Thaw fr arr.size∧arr.size=(ι k).2∧b.rel (stOf bx) ι arr.toList
  apart:∀ k b,stOf bx k=some (some b)→X (ι k).1=none
  inj:∀ k k' b b',stOf bx k=some (some b)→stOf bx k'=some (some b')→(ι k).1=(ι k').1→k=k'
  ext:∀ b o,X b=some o→w.heap[b]? = some o
  res:ResAt (fun _=>True) ι H (stOf bx) X w
def LentB (pre:List (Nat×Option Box)) (ι:Nat→Nat×Nat) (H:Nat→Nat→Option Obj) (b:Nat):Prop:=(∃ k b0,stOf pre k=some (some b0)∧(ι k).1=b)∨∃ k,H k b≠none
structure MemPost (pre post:List (Nat×Option Box)) (ι ι':Nat→Nat×Nat) (H H':Nat→Nat→Option Obj) (w w':World):Prop where
  old:∀ k b,stOf post k=some (some b)→stOf pre k≠none→(∃ b0,stOf pre k=some (some b0))∧ι' k=ι k
  new:∀ k b,stOf post k=some (some b)→stOf pre k=none→w.heap.size≤(ι' k).1∨LentB pre ι H (ι' k).1
  newH:∀ k b,H' k b≠none→w.heap.size≤b∨LentB pre ι H b
  frame:∀ b,b<w.heap.size→¬ LentB pre ι H b→w'.heap[b]? = w.heap[b]?
  big:w.heap.size≤w'.heap.size
  os:w'.os=w.os
  tape:w'.tape=w.tape
  output:w'.output=w.output
structure MSpec (P:Program) (X:Nat→Option Obj) (f:FuncId) (args:List LV) (pre:List (Nat×Option Box)) (r:LV) (post:List (Nat×Option Box)):Prop where
  enters:Program.enters P f=true
  out:∀ (w:World) (vals:Array Value) (ι:Nat→Nat×Nat) (H:Nat→Nat→Option Obj),MemOf X ι H pre w→LVs.rel (stOf pre) ι args vals.toList →
    Calls P f vals w (fun e w'=>∃ v ι' H',e = .returned v∧r.rel (stOf post) ι' v∧MemOf X ι' H' post w'∧MemPost pre post ι ι' H H' w w')
def retM (P:Program) (fn:Func) (pre:List (Nat×Option Box)) (r:LV) (post:List (Nat×Option Box)):Exit→St→Prop:=fun e σ =>
  match e with
  | .normal | .ret=>∃ g:List (Nat×Nat),(∃ ss,ResL P σ fn.results.toList ss∧r.ren (rn g)=resOf ss)∧boxesAt σ (rn g) post∧injOn (rn g) (post.map (·.1))=true ∧
      pre.all (fun p=>Nat.beq (rn g p.1) p.1)=true
  | _=>False
theorem MSpec.intro {P:Program} {X:Nat→Option Obj} {f:FuncId} {fn:Func} {c:Code} {args:List LV} {pre post:List (Nat×Option Box)} {r:LV} (hf:P.funcs[f]? = some fn) (hb:fn.body=some c) (hent:Program.enters P f=true)
    (hlen:Nat.ble args.length fn.ntmps=true) (hur:r.inUse post=true) (hup:post.all (fun p=>match p.2 with|some b=>b.cells.all (CV.inUse post)|none=>true)=true) (hbig:pre.all (fun p=>Nat.ble 1000000 p.1)=true) (hlive:pre.all (fun p=>p.2.isSome)=true)
    (h:∀ C:Ctx,LWP P fn.ntmps C c (retM P fn pre r post) ⟨enumL 0 args,pre,X⟩):MSpec P X f args pre r post:=by
  replace hlen:=Nat.le_of_ble_eq_true hlen
  refine ⟨hent,fun w vals ι H hM hargs => ?_⟩
  refine calls_of_wp hf hb ?_
  have hvl:=LVs.rel_length hargs
  simp only [Array.length_toList] at hvl
  refine wp_mono ((h ⟨w,LentB pre ι H,ι⟩).out ι _ w ?_) ?_
  · exact {
      defers:=rfl
      size:=by simp;omega
      slots:=by
        intro d lv hd
        obtain ⟨_,hd'⟩:=look_enum args 0 d lv hd
        simp only [Nat.sub_zero] at hd'
        obtain ⟨v,hv,hvr⟩:=LVs.rel_get hargs hd'
        have hlt:d<vals.size:=by have:=(List.getElem?_eq_some_iff.1 hv).1;simpa using this
        refine ⟨v,?_,hvr⟩
        rw [Array.getElem?_append_left hlt]
        simpa using hv
      boxes:=hM.boxes
      own:=fun k b hb=>⟨.inl (.inl ⟨k,b,hb,rfl⟩),hM.apart k b hb⟩
      res:=⟨H,hM.res.holds,fun k b o ho=>(hM.res.mem k b o ho).imp id fun ⟨h1,h2,_,h4⟩=>⟨h1,h2,.inl (.inr ⟨k,by rw [ho];simp⟩),h4⟩,hM.res.apart⟩
      inj:=hM.inj
      keep:=fun _ _ _ _=>rfl
      ext:=hM.ext
      frame:=fun _ _ _=>rfl
      big:=Nat.le_refl _
      os:=rfl,tape:=rfl,output:=rfl }
  · rintro e a' w' ⟨ι',σ',hq,hr⟩
    have fin:(∃ g:List (Nat×Nat),(∃ ss,ResL P σ' fn.results.toList ss∧r.ren (rn g)=resOf ss)∧boxesAt σ' (rn g) post∧injOn (rn g) (post.map (·.1))=true∧pre.all (fun p=>Nat.beq (rn g p.1) p.1)=true) →
        a'.defers=[]∧∃ v,(results fn a'.tmps).run P w' = .ok v w'∧∃ u κ H',Ending.returned v = .returned u∧r.rel (stOf post) κ u∧MemOf X κ H' post w'∧MemPost pre post ι κ H H' w w':=by
      rintro ⟨g,⟨ss,hres,hrs⟩,hat,hinj,hfix⟩
      obtain ⟨v,hv,hvr⟩:=results_run hr hres
      rw [← hrs] at hvr
      have hback:Back post σ'.stat (rn g):=fun k x hx=>⟨fun b e=>⟨_,(boxesAt_look hat k x hx).1 b e⟩,(boxesAt_look hat k x hx).2.1⟩
      have hX:∀ b o,X b=some o→w.heap[b]? = some o:=hM.ext
      have hLX:∀ b,LentB pre ι H b→X b=none:=fun b hb=>by
        rcases hb with ⟨k,b0,hk,rfl⟩|⟨k,hk⟩
        · exact hM.apart k b0 hk
        · cases ho:H k b with
          | none=>exact absurd ho hk
          | some o=>exact (hM.res.mem k b o ho).2.2.2.2.1
      obtain ⟨H1,hH1⟩:=hr.res
      have hH2:=hH1.move (S':=stOf post) (own':=fun _=>True) (ι':=fun k=>ι' (rn g k)) (X':=X) (w':=w') (rn g) (fun k e cs R hk=>⟨⟨e,cs.map (CV.ren (rn g)),(boxesAt_look hat k _ hk).1 _ rfl⟩,rfl⟩) (fun k k' ⟨_,_,_,h1⟩ ⟨_,_,_,h2⟩ e=>injOn_spec hinj k k' (look_key h1) (look_key h2) e) (fun _ _ _ _ _ hj=>hj) (fun _ _ _=>trivial)
        (fun b hb _ _ _=>by
          rcases hb with hb|hb
          · exact hLX b hb
          · cases hx:X b with
            | none=>rfl
            | some o=>exact absurd (Array.getElem?_eq_some_iff.1 (hX _ o hx)).1 (Nat.not_lt.2 hb))
        (fun j bj hj=>.inl ⟨rn g j,_,(boxesAt_look hat j _ hj).1 _ rfl,rfl,fun k ⟨_,_,_,h1⟩ e=>(injOn_spec hinj k j (look_key h1) (look_key hj) e).symm⟩)
      refine ⟨hr.defers,v,hv,v,fun k=>ι' (rn g k),_,rfl,LV.rel_back hback hur hvr,⟨fun k b hk hbk => ?_,fun k b hk => ?_,fun k k' b b' hk hk' he => ?_,fun b o hb => ?_,hH2⟩,⟨fun k b hk hp => ?_,fun k b hk hp => ?_,fun k b hk => ?_,fun b hb hn => ?_,hr.big,hr.os,hr.tape,hr.output⟩⟩
      · obtain ⟨h1,-,h2⟩:=boxesAt_look hat k _ hk
        obtain ⟨arr,fr,harr,ht,hsz,hbr⟩:=hr.boxes _ _ (h1 b rfl) hbk
        have hu':b.cells.all (CV.inUse post)=true:=by simpa using List.all_eq_true.1 hup _ h2
        exact ⟨arr,fr,harr,ht,hsz,Box.rel_back hback hu' hbr⟩
      · have h1:=hr.own _ _ ((boxesAt_look hat k _ hk).1 b rfl)
        cases hx:X (ι' (rn g k)).1 with
        | none=>rfl
        | some o =>
          rcases h1.1 with h2|hge
          · rw [hLX _ h2] at hx;cases hx
          · have hlt:=(Array.getElem?_eq_some_iff.1 (hX _ o hx)).1
            exact absurd hlt (Nat.not_lt.2 hge)
      · exact injOn_spec hinj k k' (look_key hk) (look_key hk') (hr.inj _ _ _ _ ((boxesAt_look hat k _ hk).1 b rfl) ((boxesAt_look hat k' _ hk').1 b' rfl) he)
      · have hlt:=(Array.getElem?_eq_some_iff.1 (hX b o hb)).1
        rw [hr.frame b hlt (fun hl=>by rw [hLX b hl] at hb;cases hb)]
        exact hX b o hb
      · cases hx:stOf pre k with
        | none=>exact absurd hx hp
        | some x =>
          have hmem:(k,x)∈pre:=by
            have:∀ (l:List (Nat×Option Box)),look k l=some x→(k,x)∈l:=by
              intro l
              induction l with
              | nil=>intro h;simp [look] at h
              | cons p l ih =>
                intro h
                simp only [look] at h
                cases e:Nat.beq p.1 k with
                | true =>
                  rw [e] at h
                  simp at h
                  have h2:=Nat.eq_of_beq_eq_true e
                  rw [← h2,← h]
                  exact List.mem_cons_self
                | false =>
                  rw [e] at h
                  exact List.mem_cons_of_mem _ (ih (by simpa using h))
            exact this pre hx
          have e1:rn g k=k:=Nat.eq_of_beq_eq_true (List.all_eq_true.1 hfix _ hmem)
          have e2:1000000≤k:=Nat.le_of_ble_eq_true (List.all_eq_true.1 hbig _ hmem)
          have h1:=(boxesAt_look hat k _ hk).1 b rfl
          have h3:=hr.keep _ _ h1 (by rw [e1];exact e2)
          rw [e1] at h1 h3
          refine ⟨?_,by simp only [e1];exact h3⟩
          cases x with
          | some b0=>exact ⟨b0,rfl⟩
          | none=>exact absurd (List.all_eq_true.1 hlive _ hmem) (by simp)
      · obtain ⟨own,-⟩:=hr.own _ _ ((boxesAt_look hat k _ hk).1 b rfl)
        exact own.symm
      · split at hk
        · cases ho:H1 (rn g k) b with
          | none=>exact absurd ho hk
          | some o=>exact (hH1.mem _ _ _ ho).2.2.2.1.symm
        · exact absurd rfl hk
      · exact hr.frame b hb hn
    cases e<;>first
      | exact fin hq
      | exact hq.elim
def callPost (ρ:List (Nat×Nat)) (post:List (Nat×Option Box)):List (Nat×Option Box):=post.map fun p=>(rn ρ p.1,p.2.map (Box.ren (rn ρ)))
theorem look_map {f:Nat→Nat} {g:Option Box→Option Box}:∀ {l:List (Nat×Option Box)},injOn f (l.map (·.1))=true→∀ {k:Nat} {x:Option Box},look k l=some x→look (f k) (l.map fun p=>(f p.1,g p.2))=some (g x)
  | [],_,k,x,h=>by simp [look] at h
  | p::l,hi,k,x,h=>by
    have hi2:injOn f (l.map (·.1))=true:=by simp only [List.map_cons,injOn,Bool.and_eq_true] at hi;exact hi.2
    simp only [look,List.map_cons] at h ⊢
    cases e:Nat.beq p.1 k with
    | true =>
      have:=Nat.eq_of_beq_eq_true e
      rw [e] at h
      simp at h
      rw [this,Nat.beq_refl,h]
      rfl
    | false =>
      rw [e] at h
      have h':look k l=some x:=by simpa using h
      have hne:Nat.beq (f p.1) (f k)=false:=by
        cases e2:Nat.beq (f p.1) (f k) with
        | false=>rfl
        | true =>
          have h3:=injOn_spec hi p.1 k (by simp) (by simp only [List.map_cons,List.mem_cons];exact .inr (look_key h')) (Nat.eq_of_beq_eq_true e2)
          rw [h3,Nat.beq_refl] at e
          cases e
      rw [hne]
      simpa using look_map hi2 h'
theorem look_unmap {f:Nat→Nat} {g:Option Box→Option Box}:∀ {l:List (Nat×Option Box)} {j:Nat} {y:Option Box},look j (l.map fun p=>(f p.1,g p.2))=some y→∃ k,k∈l.map (·.1)∧f k=j
  | [],j,y,h=>by simp [look] at h
  | p::l,j,y,h=>by
    simp only [look,List.map_cons] at h
    cases e:Nat.beq (f p.1) j with
    | true=>exact ⟨p.1,by simp,Nat.eq_of_beq_eq_true e⟩
    | false =>
      rw [e] at h
      obtain ⟨k,hk,he⟩:=look_unmap (by simpa using h:look j (l.map fun p=>(f p.1,g p.2))=some y)
      exact ⟨k,by simp only [List.map_cons,List.mem_cons];exact .inr hk,he⟩
section
variable {P:Program} {n:Nat} {ops os:List Oper} {acc:List Eff} {K:List Eff→St→Prop} {s:List (Nat×LV)} {bx:List (Nat×Option Box)} {X:Nat→Option Obj} {σ:St}
open Classical in
noncomputable def after (f:Nat→Nat) (post:List (Nat×Option Box)) (ι ι':Nat→Nat×Nat) (j:Nat):Nat×Nat:=
  if h:∃ k,k∈post.map (·.1)∧f k=j then ι' (Classical.choose h) else ι j
theorem after_in {f:Nat→Nat} {post:List (Nat×Option Box)} {ι ι':Nat→Nat×Nat} (hi:injOn f (post.map (·.1))=true) {k:Nat} (hk:k∈post.map (·.1)):after f post ι ι' (f k)=ι' k:=by
  have h:∃ k',k'∈post.map (·.1)∧f k'=f k:=⟨k,hk,rfl⟩
  unfold after
  rw [dif_pos h]
  have:=Classical.choose_spec h
  rw [injOn_spec hi _ _ this.1 hk this.2]
theorem after_out {f:Nat→Nat} {post:List (Nat×Option Box)} {ι ι':Nat→Nat×Nat} {j:Nat} (h:¬∃ k,k∈post.map (·.1)∧f k=j):after f post ι ι' j=ι j:=dif_neg h
theorem LOK.more {o:Oper} {e:Eff} {ft:List Nat} (h:LOK P n ops o σ e) (hf:∀ k,k∈e.foot→k∈ft):LOK P n ops o σ ⟨e.slots,ft,e.boxes⟩:=
  ⟨fun σ' ha=>h.out σ' ⟨ha.slot,fun k hk=>ha.stat k (hk.imp (hf k) id),ha.X⟩⟩
theorem LOK.callM {d:Nat} {f:FuncId} {args:List Operand} {tys:Array TypeId} {ty:TypeId} {pos:String} {after_:Array Edge} {g:Option (Nat×Bool)} {lvs:List LV} {r:LV} {pre post:List (Nat×Option Box)} (ρ:List (Nat×Nat))
    (hs:MSpec P σ.X f lvs pre r post) (hargs:evs σ args=some (lvs.map (LV.ren (rn ρ)))) (hu:lvs.all (LV.inUse pre)=true) (hpre:boxesAt σ (rn ρ) pre)
    (hub:pre.all (fun p=>match p.2 with|some b=>b.cells.all (CV.inUse pre)|none=>true)=true) (hi:injOn (rn ρ) (post.map (·.1))=true)
    (hsub:pre.all (fun p=>(look p.1 post).isSome)=true) (hnew:post.all (fun p=>(look p.1 pre).isSome||σ.fresh (rn ρ p.1))=true):
    LOK P n ops ⟨some d,.call ⟨.value (.func f),args.toArray,tys⟩,ty,pos,after_,g⟩ σ ⟨[(d,r.ren (rn ρ))],pre.map (fun p=>rn ρ p.1),callPost ρ post⟩:=by
  refine ⟨fun σ' ha C ι a w hr hd next Q hn => ?_⟩
  generalize hF:rn ρ=F at *
  have hargs':evs σ' args=some (lvs.map (LV.ren F)):=by
    rw [evs_agree fun x hx=>ha.ev (by simp [Op.operands,Call.operands,hx])]
    exact hargs
  have hrun:(execOp a.eval ⟨some d,.call ⟨.value (.func f),args.toArray,tys⟩,ty,pos,after_,g⟩).run P w = .ok (.enter f (args.toArray.map a.eval)) w:=by
    simp only [execOp,resolve,Act.eval,Deferred.ofValue,invoke,Sem.run_bind,Sem.run_pure,Result.andThen_ok]
    simp [run_enter hs.enters]
  have hpm:∀ k x,look k pre=some x→k∈pre.map (·.1):=fun k x h=>look_key h
  have hsub':∀ k,k∈pre.map (·.1)→k∈post.map (·.1):=fun k hk=>by
    obtain ⟨p,hp,rfl⟩:=List.mem_map.1 hk
    obtain ⟨x,hx⟩:=Option.isSome_iff_exists.1 (List.all_eq_true.1 hsub p hp)
    exact look_key hx
  have hst:∀ k x,look k pre=some x→σ'.stat (F k)=σ.stat (F k):=fun k x hk=>ha.stat (F k) (.inl (by
    obtain ⟨p,hp,e⟩:=List.mem_map.1 (hpm k x hk)
    exact List.mem_map.2 ⟨p,hp,by rw [e]⟩))
  have hat:∀ k x,look k pre=some x→(∀ b,x=some b→σ'.stat (F k)=some (some (b.ren F)))∧∃ y,σ'.stat (F k)=some y:=fun k x hk=>by
    obtain ⟨h1,h2,-⟩:=boxesAt_look hpre k x hk
    rw [hst k x hk]
    exact ⟨h1,h2⟩
  have hmem:∀ k x,look k pre=some x→(k,x)∈pre:=fun k x hk=>(boxesAt_look hpre k x hk).2.2
  have hback:Back pre σ'.stat F:=fun k x hk=>⟨fun b e=>⟨_,(hat k x hk).1 b e⟩,(hat k x hk).2⟩
  have hrel:=LVs.rel_back hback hu (evs_rel hr hargs')
  obtain ⟨H,hH⟩:=hr.res
  have hH0:=hH.move (S':=stOf pre) (own':=fun _=>True) (ι':=fun k=>ι (F k)) (X':=σ.X) (w':=w) F (fun k e cs R hk=>⟨⟨e,cs.map (CV.ren F),(hat k _ hk).1 _ rfl⟩,rfl⟩) (fun k k' ⟨_,_,_,h1⟩ ⟨_,_,_,h2⟩ e=>injOn_spec hi k k' (hsub' k (hpm k _ h1)) (hsub' k' (hpm k' _ h2)) e) (fun _ _ _ _ _ hj=>hj) (fun _ _ _=>trivial) (fun b _ hx _ _=>by rw [← ha.X];exact hx)
    (fun j bj hj=>.inl ⟨F j,_,(hat j _ hj).1 _ rfl,rfl,fun k ⟨_,_,_,h1⟩ e=>(injOn_spec hi k j (hsub' k (hpm k _ h1)) (hsub' j (hpm j _ hj)) e).symm⟩)
  have hHF:∀ k b,(open Classical in if isRes (stOf pre) k then H (F k) else fun _=>none) b≠none→isRes (stOf pre) k∧H (F k) b≠none:=fun k b h=>by
    split at h
    · rename_i h1;exact ⟨h1,h⟩
    · exact absurd rfl h
  generalize hH0e:(fun k=>open Classical in if isRes (stOf pre) k then H (F k) else fun _=>none)=H0 at hH0
  have hHF:∀ k b,H0 k b≠none→isRes (stOf pre) k∧H (F k) b≠none:=fun k b h=>by
    rw [← hH0e] at h
    exact hHF k b h
  have hM:MemOf σ.X (fun k=>ι (F k)) H0 pre w:=by
    refine ⟨fun k b hk hbk => ?_,fun k b hk => ?_,fun k k' b b' hk hk' he => ?_,fun b o hb=>hr.ext b o (by rw [ha.X];exact hb),hH0⟩
    · obtain ⟨arr,fr,harr,ht,hsz,hbr⟩:=hr.boxes _ _ ((hat k _ hk).1 b rfl) (by unfold Box.blk at hbk ⊢;exact hbk)
      exact ⟨arr,fr,harr,ht,hsz,Box.rel_back hback (by simpa using List.all_eq_true.1 hub _ (hmem k _ hk)) hbr⟩
    · rw [← ha.X];exact (hr.own _ _ ((hat k _ hk).1 b rfl)).2
    · have:=hr.inj _ _ _ _ ((hat k _ hk).1 b rfl) ((hat k' _ hk').1 b' rfl) he
      exact injOn_spec hi k k' (hsub' k (hpm k _ hk)) (hsub' k' (hpm k' _ hk')) this
  have hc:=hs.out w (args.toArray.map a.eval) _ H0 hM (by simpa using hrel)
  unfold Oper.wp
  rw [hrun]
  refine hc.mono ?_
  rintro e w' ⟨v,ι',H',rfl,hv,hM',hP⟩
  have hcp:callPost ρ post=post.map fun p=>(F p.1,p.2.map (Box.ren F)):=by unfold callPost;rw [hF]
  rw [hcp] at hn ha
  have hτ:∀ (sl:List (Nat×LV)) j,(⟨sl,(post.map fun p=>(F p.1,p.2.map (Box.ren F)))++σ'.boxes,σ'.X⟩:St).stat j=(look j (post.map fun p=>(F p.1,p.2.map (Box.ren F)))).or (σ'.stat j):=fun sl j=>look_append _ _ _
  have hin:∀ (sl:List (Nat×LV)) k x,look k post=some x→(⟨sl,(post.map fun p=>(F p.1,p.2.map (Box.ren F)))++σ'.boxes,σ'.X⟩:St).stat (F k)=some (x.map (Box.ren F)):=fun sl k x hk=>by
    rw [hτ,look_map (g:=fun o=>o.map (Box.ren F)) hi hk];rfl
  have hout:∀ (sl:List (Nat×LV)) j,(¬∃ k,k∈post.map (·.1)∧F k=j)→(⟨sl,(post.map fun p=>(F p.1,p.2.map (Box.ren F)))++σ'.boxes,σ'.X⟩:St).stat j=σ'.stat j:=fun sl j h=>by
    rw [hτ]
    cases hl:look j (post.map fun p=>(F p.1,p.2.map (Box.ren F))) with
    | none=>rfl
    | some y=>exact absurd (look_unmap (g:=fun o=>o.map (Box.ren F)) hl) h
  have hfresh:∀ k x,look k post=some x→look k pre=none→σ'.stat (F k)=none∧F k<1000000:=fun k x hk hp=>by
    have hm:∃ p,p∈post∧p.1=k:=by
      obtain ⟨p,hp,e⟩:=List.mem_map.1 (look_key hk)
      exact ⟨p,hp,e⟩
    obtain ⟨p,hp1,rfl⟩:=hm
    have h1:=List.all_eq_true.1 hnew p hp1
    rw [hp] at h1
    simp at h1
    refine ⟨?_,St.fresh_lt h1⟩
    rw [ha.stat (F p.1) (.inr (List.mem_map.2 ⟨(F p.1,p.2.map (Box.ren F)),List.mem_map.2 ⟨p,hp1,rfl⟩,rfl⟩))]
    exact St.fresh_none h1
  have hlater:∀ sl,Later σ'.stat (⟨sl,(post.map fun p=>(F p.1,p.2.map (Box.ren F)))++σ'.boxes,σ'.X⟩:St).stat ι (after F post ι ι'):=by
    intro sl j hj
    by_cases h:∃ k,k∈post.map (·.1)∧F k=j
    · obtain ⟨k,hk,rfl⟩:=h
      obtain ⟨x,hx⟩:=key_look hk
      rw [hin sl k x hx]
      refine ⟨by simp,fun b' hb' => ?_⟩
      cases x with
      | none=>simp at hb'
      | some b =>
        have hpk:look k pre≠none:=fun hn'=>hj (hfresh k _ hx hn').1
        obtain ⟨⟨b0,hb0⟩,he⟩:=hP.old k b hx hpk
        rw [after_in hi hk]
        exact ⟨he,_,(hat k _ hb0).1 b0 rfl⟩
    · rw [hout sl j h,after_out h]
      exact ⟨hj,fun b' hb'=>⟨rfl,b',hb'⟩⟩
  have hmaps:∀ sl,Maps (stOf post) (⟨sl,(post.map fun p=>(F p.1,p.2.map (Box.ren F)))++σ'.boxes,σ'.X⟩:St).stat ι' (after F post ι ι') F:=by
    intro sl k hk
    cases hx:look k post with
    | none=>exact absurd hx hk
    | some x =>
      rw [hin sl k x hx]
      refine ⟨by simp,fun b' hb' => ?_⟩
      cases x with
      | none=>simp at hb'
      | some b=>exact ⟨after_in hi (look_key hx),b,hx⟩
  have hlent:∀ b,LentB pre (fun k=>ι (F k)) H0 b→(C.own b∨C.w0.heap.size≤b)∧σ'.X b=none∧∀ j bj,σ'.stat j=some (some bj)→(ι j).1=b→∃ k,k∈post.map (·.1)∧F k=j:=fun b hb=>by
    rcases hb with ⟨k,b0,hk,rfl⟩|⟨k,hk⟩
    · have h1:=(hat k _ hk).1 b0 rfl
      have h2:=hr.own _ _ h1
      exact ⟨h2.1,h2.2,fun j bj hj e=>⟨k,hsub' k (hpm k _ hk),hr.inj _ _ _ _ h1 hj e.symm⟩⟩
    · obtain ⟨⟨_,_,_,h1⟩,h2⟩:=hHF k b hk
      cases ho:H (F k) b with
      | none=>exact absurd ho h2
      | some o =>
        obtain ⟨_,_,_,h3,h4,h5⟩:=hH.mem _ _ _ ho
        exact ⟨h3,h4,fun j bj hj e=>⟨k,hsub' k (hpm k _ h1),(h5 j bj hj e).symm⟩⟩
  have hother:∀ j b,σ'.stat j=some (some b)→(¬∃ k,k∈post.map (·.1)∧F k=j)→(ι j).1<w.heap.size∧¬ LentB pre (fun k=>ι (F k)) H0 (ι j).1:=fun j b hj h =>
    ⟨hr.blocklt hj,fun hl=>h ((hlent _ hl).2.2 j b hj rfl)⟩
  have hXpre:∀ b o,σ'.X b=some o→b<w.heap.size∧¬ LentB pre (fun k=>ι (F k)) H0 b:=fun b o hb =>
    ⟨(Array.getElem?_eq_some_iff.1 (hr.ext b o hb)).1,fun hl=>by rw [(hlent _ hl).2.1] at hb;cases hb⟩
  have hnewblk:∀ k b,stOf post k=some (some b)→stOf pre k=none→w.heap.size≤(ι' k).1∨LentB pre (fun k=>ι (F k)) H0 (ι' k).1:=fun k b hk hp=>hP.new k b hk hp
  have hHout:∀ j b,(¬∃ k,k∈post.map (·.1)∧F k=j)→H j b≠none→b<w.heap.size∧¬ LentB pre (fun k=>ι (F k)) H0 b:=fun j b hj hb=>by
    cases ho:H j b with
    | none=>exact absurd ho hb
    | some o =>
      obtain ⟨h1,h2,_,_,_,h5⟩:=hH.mem _ _ _ ho
      refine ⟨(Array.getElem?_eq_some_iff.1 h2).1,fun hl => ?_⟩
      rcases hl with ⟨k,b0,hk,e⟩|⟨k,hk⟩
      · exact hj ⟨k,hsub' k (hpm k _ hk),h5 _ _ ((hat k _ hk).1 b0 rfl) e⟩
      · obtain ⟨⟨_,_,_,h6⟩,h7⟩:=hHF k b hk
        exact hj ⟨k,hsub' k (hpm k _ h6),hH.apart _ _ b h7 hb⟩
  have hres:∃ G,ResAt (fun b=>C.own b∨C.w0.heap.size≤b) (after F post ι ι') G (⟨σ'.slots,(post.map fun p=>(F p.1,p.2.map (Box.ren F)))++σ'.boxes,σ'.X⟩:St).stat σ'.X w':=by
    have hG1:∀ k,k∈post.map (·.1)→(open Classical in if h:∃ k',k'∈post.map (·.1)∧F k'=F k then H' (Classical.choose h) else H (F k))=H' k:=fun k hk=>by
      have h:∃ k',k'∈post.map (·.1)∧F k'=F k:=⟨k,hk,rfl⟩
      rw [dif_pos h]
      have:=Classical.choose_spec h
      rw [injOn_spec hi _ _ this.1 hk this.2]
    have hG2:∀ j,(¬∃ k,k∈post.map (·.1)∧F k=j)→(open Classical in if h:∃ k',k'∈post.map (·.1)∧F k'=j then H' (Classical.choose h) else H j)=H j:=fun j h=>dif_neg h
    refine ⟨fun j=>open Classical in if h:∃ k',k'∈post.map (·.1)∧F k'=j then H' (Classical.choose h) else H j,?_⟩
    generalize hGe:(fun j=>open Classical in if h:∃ k',k'∈post.map (·.1)∧F k'=j then H' (Classical.choose h) else H j)=G
    have hG1:∀ k,k∈post.map (·.1)→G (F k)=H' k:=fun k hk=>by rw [← hGe];exact hG1 k hk
    have hG2:∀ j,(¬∃ k,k∈post.map (·.1)∧F k=j)→G j=H j:=fun j hj=>by rw [← hGe];exact hG2 j hj
    have hside:∀ k b,k∈post.map (·.1)→H' k b≠none→w.heap.size≤b∨LentB pre (fun k=>ι (F k)) H0 b:=fun k b _ h=>hP.newH k b h
    constructor
    · intro j e cs R hj
      by_cases h:∃ k,k∈post.map (·.1)∧F k=j
      · obtain ⟨k,hk,rfl⟩:=h
        obtain ⟨x,hx⟩:=key_look hk
        rw [hin _ k x hx] at hj
        cases x with
        | none=>simp at hj
        | some b1 =>
          obtain ⟨e1,cs1,r1⟩:=b1
          simp only [Option.map_some,Option.some.injEq,Box.ren,Box.mk.injEq] at hj
          obtain ⟨rfl,_,rfl⟩:=hj
          rw [after_in hi hk,hG1 k hk]
          exact hM'.res.holds k _ _ _ hx
      · rw [hout _ j h] at hj
        rw [after_out h,hG2 j h]
        exact hH.holds j _ _ _ hj
    · intro j b o ho
      by_cases h:∃ k,k∈post.map (·.1)∧F k=j
      · obtain ⟨k,hk,rfl⟩:=h
        rw [hG1 k hk] at ho
        obtain ⟨⟨e,cs,R,h1⟩,h2,h3,_,h5,h6⟩:=hM'.res.mem k b o ho
        have hnl:=hside k b hk (by rw [ho];simp)
        refine ⟨⟨e,cs.map (CV.ren F),R,by rw [hin _ k _ h1];rfl⟩,h2,h3,?_,by rw [ha.X];exact h5,fun j2 bj hj2 e2 => ?_⟩
        · rcases hnl with h7|h7
          · exact .inr (Nat.le_trans hr.big h7)
          · exact (hlent b h7).1
        · by_cases h8:∃ k,k∈post.map (·.1)∧F k=j2
          · obtain ⟨k2,hk2,rfl⟩:=h8
            obtain ⟨x2,hx2⟩:=key_look hk2
            rw [hin _ k2 x2 hx2] at hj2
            cases x2 with
            | none=>simp at hj2
            | some b2=>rw [after_in hi hk2] at e2;rw [h6 k2 b2 hx2 e2]
          · rw [hout _ j2 h8] at hj2
            rw [after_out h8] at e2
            obtain ⟨h9,h10⟩:=hother j2 bj hj2 h8
            rw [e2] at h9 h10
            rcases hnl with h7|h7
            · omega
            · exact absurd h7 h10
      · rw [hG2 j h] at ho
        obtain ⟨⟨e,cs,R,h1⟩,h2,h3,h4,h5,h6⟩:=hH.mem j b o ho
        obtain ⟨h7,h8⟩:=hHout j b h (by rw [ho];simp)
        refine ⟨⟨e,cs,R,by rw [hout _ j h];exact h1⟩,(hP.frame b h7 h8).trans h2,h3,h4,h5,fun j2 bj hj2 e2 => ?_⟩
        by_cases h9:∃ k,k∈post.map (·.1)∧F k=j2
        · obtain ⟨k2,hk2,rfl⟩:=h9
          obtain ⟨x2,hx2⟩:=key_look hk2
          rw [hin _ k2 x2 hx2] at hj2
          cases x2 with
          | none=>simp at hj2
          | some b2 =>
            rw [after_in hi hk2] at e2
            cases hp:stOf pre k2 with
            | none =>
              rcases hnewblk k2 b2 hx2 hp with h10|h10
              · omega
              · rw [e2] at h10;exact absurd h10 h8
            | some y =>
              obtain ⟨⟨b0,hb0⟩,he⟩:=hP.old k2 b2 hx2 (by rw [hp];simp)
              rw [he] at e2
              exact h6 _ _ ((hat k2 _ hb0).1 b0 rfl) e2
        · rw [hout _ j2 h9] at hj2
          rw [after_out h9] at e2
          exact h6 j2 bj hj2 e2
    · intro i j b h1 h2
      by_cases hi1:∃ k,k∈post.map (·.1)∧F k=i
      · obtain ⟨k,hk,rfl⟩:=hi1
        rw [hG1 k hk] at h1
        by_cases hj1:∃ k,k∈post.map (·.1)∧F k=j
        · obtain ⟨k2,hk2,rfl⟩:=hj1
          rw [hG1 k2 hk2] at h2
          rw [hM'.res.apart k k2 b h1 h2]
        · rw [hG2 j hj1] at h2
          obtain ⟨h7,h8⟩:=hHout j b hj1 h2
          rcases hside k b hk h1 with h9|h9
          · omega
          · exact absurd h9 h8
      · rw [hG2 i hi1] at h1
        by_cases hj1:∃ k,k∈post.map (·.1)∧F k=j
        · obtain ⟨k2,hk2,rfl⟩:=hj1
          rw [hG1 k2 hk2] at h2
          obtain ⟨h7,h8⟩:=hHout i b hi1 h1
          rcases hside k2 b hk2 h2 with h9|h9
          · omega
          · exact absurd h9 h8
        · rw [hG2 j hj1] at h2
          exact hH.apart i j b h1 h2
  have key:Rel n C (after F post ι ι') ⟨σ'.slots,(post.map fun p=>(F p.1,p.2.map (Box.ren F)))++σ'.boxes,σ'.X⟩ a w':={
    defers:=hr.defers,size:=hr.size
    slots:=fun d lv hd=>by
      obtain ⟨v,hv,hvr⟩:=hr.slots d lv hd
      exact ⟨v,hv,LV.rel_later (hlater _) hvr⟩
    res:=hres
    boxes:=fun j b hj hbk=>by
      by_cases h:∃ k,k∈post.map (·.1)∧F k=j
      · obtain ⟨k,hk,rfl⟩:=h
        obtain ⟨x,hx⟩:=key_look hk
        rw [hin _ k x hx] at hj
        cases x with
        | none=>simp at hj
        | some b1 =>
          simp only [Option.map_some,Option.some.injEq] at hj
          subst hj
          obtain ⟨arr,fr,harr,ht,hsz,hbr⟩:=hM'.boxes k b1 hx (by unfold Box.blk at hbk ⊢;exact hbk)
          rw [after_in hi hk]
          exact ⟨arr,fr,harr,ht,hsz,Box.rel_maps (hmaps _) hbr⟩
      · rw [hout _ j h] at hj
        obtain ⟨arr,fr,harr,ht,hsz,hbr⟩:=hr.boxes j b hj hbk
        obtain ⟨h1,h2⟩:=hother j b hj h
        rw [after_out h]
        exact ⟨arr,fr,(hP.frame _ h1 h2).trans harr,ht,hsz,Box.rel_later (hlater _) hbr⟩
    own:=fun j b hj=>by
      by_cases h:∃ k,k∈post.map (·.1)∧F k=j
      · obtain ⟨k,hk,rfl⟩:=h
        obtain ⟨x,hx⟩:=key_look hk
        rw [hin _ k x hx] at hj
        cases x with
        | none=>simp at hj
        | some b1 =>
          rw [after_in hi hk]
          refine ⟨?_,by rw [ha.X];exact hM'.apart k b1 hx⟩
          cases hp:stOf pre k with
          | none =>
            rcases hnewblk k b1 hx hp with h1|h1
            · exact .inr (Nat.le_trans hr.big h1)
            · exact (hlent _ h1).1
          | some y =>
            obtain ⟨⟨b0,hb0⟩,he⟩:=hP.old k b1 hx (by rw [hp];simp)
            rw [he];exact (hr.own _ _ ((hat k _ hb0).1 b0 rfl)).1
      · rw [hout _ j h] at hj
        rw [after_out h]
        exact hr.own j b hj
    inj:=fun i j bi bj hi' hj' heq=>by
      have cross:∀ i j bi bj,(∃ k,k∈post.map (·.1)∧F k=i)→(¬∃ k,k∈post.map (·.1)∧F k=j)→(⟨σ'.slots,(post.map fun p=>(F p.1,p.2.map (Box.ren F)))++σ'.boxes,σ'.X⟩:St).stat i=some (some bi)→σ'.stat j=some (some bj)→(after F post ι ι' i).1≠(ι j).1:=by
        rintro i j bi bj ⟨k,hk,rfl⟩ h2 hi2 hj2 he
        obtain ⟨x,hx⟩:=key_look hk
        rw [hin _ k x hx] at hi2
        cases x with
        | none=>simp at hi2
        | some b1 =>
          rw [after_in hi hk] at he
          obtain ⟨h3,h4⟩:=hother j bj hj2 h2
          cases hp:stOf pre k with
          | none =>
            rcases hnewblk k b1 hx hp with h1|h1
            · omega
            · rw [he] at h1;exact h4 h1
          | some y =>
            obtain ⟨⟨b0,hb0⟩,he0⟩:=hP.old k b1 hx (by rw [hp];simp)
            exact h4 (.inl ⟨k,b0,hb0,by rw [← he,he0]⟩)
      by_cases h1:∃ k,k∈post.map (·.1)∧F k=i
      · by_cases h2:∃ k,k∈post.map (·.1)∧F k=j
        · obtain ⟨k,hk,rfl⟩:=h1
          obtain ⟨k',hk',rfl⟩:=h2
          obtain ⟨x,hx⟩:=key_look hk
          obtain ⟨x',hx'⟩:=key_look hk'
          rw [hin _ k x hx] at hi'
          rw [hin _ k' x' hx'] at hj'
          cases x with
          | none=>simp at hi'
          | some b1 =>
            cases x' with
            | none=>simp at hj'
            | some b2 =>
              rw [after_in hi hk,after_in hi hk'] at heq
              rw [hM'.inj k k' b1 b2 hx hx' heq]
        · rw [hout _ j h2] at hj'
          rw [after_out h2] at heq
          exact absurd heq (cross i j bi bj h1 h2 hi' hj')
      · by_cases h2:∃ k,k∈post.map (·.1)∧F k=j
        · rw [hout _ i h1] at hi'
          rw [after_out h1] at heq
          exact absurd heq.symm (cross j i bj bi h2 h1 hj' hi')
        · rw [hout _ i h1] at hi'
          rw [hout _ j h2] at hj'
          rw [after_out h1,after_out h2] at heq
          exact hr.inj i j bi bj hi' hj' heq
    keep:=fun j b hj hlt=>by
      by_cases h:∃ k,k∈post.map (·.1)∧F k=j
      · obtain ⟨k,hk,rfl⟩:=h
        obtain ⟨x,hx⟩:=key_look hk
        rw [hin _ k x hx] at hj
        cases x with
        | none=>simp at hj
        | some b1 =>
          rw [after_in hi hk]
          cases hp:stOf pre k with
          | none=>exact absurd (hfresh k _ hx hp).2 (Nat.not_lt.2 hlt)
          | some y =>
            obtain ⟨⟨b0,hb0⟩,he⟩:=hP.old k b1 hx (by rw [hp];simp)
            rw [he]
            exact hr.keep _ _ ((hat k _ hb0).1 b0 rfl) hlt
      · rw [hout _ j h] at hj
        rw [after_out h]
        exact hr.keep j b hj hlt
    ext:=fun b o hb=>by
      obtain ⟨h1,h2⟩:=hXpre b o hb
      exact (hP.frame b h1 h2).trans (hr.ext b o hb)
    frame:=fun b hb hnb=>by
      refine (hP.frame b (Nat.lt_of_lt_of_le hb hr.big) fun hl => ?_).trans (hr.frame b hb hnb)
      rcases (hlent b hl).1 with h1|h1
      · exact hnb h1
      · omega
    big:=Nat.le_trans hr.big hP.big
    os:=hP.os.trans hr.os,tape:=hP.tape.trans hr.tape,output:=hP.output.trans hr.output }
  exact hn _ _ w' (key.put (hd d rfl) (LV.rel_maps (hmaps _) hv))
theorem LOK.callR {d:Nat} {f:FuncId} {args:List Operand} {tys:Array TypeId} {ty:TypeId} {pos:String} {after_:Array Edge} {g:Option (Nat×Bool)} {lvs:List LV} {r:LV} {pre:List (Nat×Option Box)} (ρ:List (Nat×Nat))
    (hs:MSpec P σ.X f lvs pre r pre) (hargs:evs σ args=some (lvs.map (LV.ren (rn ρ)))) (hu:lvs.all (LV.inUse pre)=true) (hpre:boxesAt σ (rn ρ) pre)
    (hub:pre.all (fun p=>match p.2 with|some b=>b.cells.all (CV.inUse pre)|none=>true)=true) (hi:injOn (rn ρ) (pre.map (·.1))=true) (hlive:pre.all (fun p=>p.2.isSome)=true):
    LOK P n ops ⟨some d,.call ⟨.value (.func f),args.toArray,tys⟩,ty,pos,after_,g⟩ σ ⟨[(d,r.ren (rn ρ))],pre.map (fun p=>rn ρ p.1),[]⟩:=by
  refine ⟨fun σ' ha => ?_⟩
  have hkeys:∀ p,p∈pre→(look p.1 pre).isSome=true:=fun p hp=>by
    obtain ⟨x,hx⟩:=key_look (l:=pre) (k:=p.1) (List.mem_map.2 ⟨p,hp,rfl⟩)
    rw [hx];rfl
  have h:=(LOK.callM (P:=P) (n:=n) (ops:=ops) (d:=d) (tys:=tys) (ty:=ty) (pos:=pos) (after_:=after_) (g:=g) ρ hs hargs hu hpre hub hi
    (List.all_eq_true.2 hkeys) (List.all_eq_true.2 fun p hp=>by rw [hkeys p hp];rfl)).out σ' ⟨ha.slot,fun k hk=>ha.stat k (.inl (by
      rcases hk with hk|hk
      · exact hk
      · simpa [callPost] using hk)),ha.X⟩
  intro C ι a w hr hd next Q hn
  refine h C ι a w hr hd next Q (fun ι' a' w' hr'=>hn ι' a' w' (hr'.same ⟨fun _=>rfl,fun j => ?_,rfl⟩))
  have e1:((⟨[(d,r.ren (rn ρ))],pre.map (fun p=>rn ρ p.1),callPost ρ pre⟩:Eff).app σ').stat j=(look j (callPost ρ pre)).or (σ'.stat j):=Eff.stat_app _ _ _
  have e2:((⟨[(d,r.ren (rn ρ))],pre.map (fun p=>rn ρ p.1),[]⟩:Eff).app σ').stat j=σ'.stat j:=by rw [Eff.stat_app];rfl
  rw [e1,e2]
  cases hl:look j (callPost ρ pre) with
  | none=>rfl
  | some y =>
    obtain ⟨k,hk,rfl⟩:=look_unmap (f:=rn ρ) (g:=fun o=>o.map (Box.ren (rn ρ))) (l:=pre) hl
    obtain ⟨x,hx⟩:=key_look hk
    have h2:=look_map (f:=rn ρ) (g:=fun o=>o.map (Box.ren (rn ρ))) hi hx
    have h3:look (rn ρ k) (callPost ρ pre)=some (x.map (Box.ren (rn ρ))):=h2
    rw [hl] at h3
    obtain ⟨h4,-,h5⟩:=boxesAt_look hpre k x hx
    have hsome:=List.all_eq_true.1 hlive _ h5
    cases x with
    | none=>simp at hsome
    | some b =>
      have h6:σ'.stat (rn ρ k)=some (some (b.ren (rn ρ))):=by
        rw [ha.stat (rn ρ k) (.inl (List.mem_map.2 ⟨(k,some b),h5,rfl⟩))]
        exact h4 b rfl
      rw [h6]
      simp only [Option.map_some] at h3
      rw [h3]
      rfl
theorem K.callR {d:Nat} {f:FuncId} {args:List Operand} {tys:Array TypeId} {ty:TypeId} {pos:String} {after_:Array Edge} {g:Option (Nat×Bool)} {lvs:List LV} {r:LV} {pre:List (Nat×Option Box)} (ρ:List (Nat×Nat))
    (hs:MSpec P X f lvs pre r pre) {ft:List Nat} (hargs:evs ⟨s,bx,X⟩ args=some (lvs.map (LV.ren (rn ρ)))) (hu:lvs.all (LV.inUse pre)=true) (hpre:boxesAt ⟨s,bx,X⟩ (rn ρ) pre)
    (hub:pre.all (fun p=>match p.2 with|some b=>b.cells.all (CV.inUse pre)|none=>true)=true) (hi:injOn (rn ρ) (pre.map (·.1))=true) (hlive:pre.all (fun p=>p.2.isSome)=true)
    (hlv:r.ren (rn ρ)=r) (hft:pre.map (fun p=>rn ρ p.1)=ft) (hw:Want ops s g)
    (kont:RunK P n ops os ⟨(d,r)::s,bx,X⟩ (⟨[(d,r)],ft,[]⟩::acc) K):
    RunK P n ops (⟨some d,.call ⟨.value (.func f),args.toArray,tys⟩,ty,pos,after_,g⟩::os) ⟨s,bx,X⟩ acc K:=by
  have h:=LOK.callR (P:=P) (n:=n) (ops:=ops) (σ:=⟨s,bx,X⟩) (d:=d) (args:=args) (tys:=tys) (ty:=ty) (pos:=pos) (after_:=after_) (g:=g) ρ hs hargs hu hpre hub hi hlive
  rw [hlv,hft] at h
  exact RunK.gen hw h kont
theorem K.callMp {d:Nat} {f:FuncId} {args:List Operand} {tys:Array TypeId} {ty:TypeId} {pos:String} {after_:Array Edge} {g:Option (Nat×Bool)} {lvs:List LV} {r:LV} {pre post:List (Nat×Option Box)} (ρ:List (Nat×Nat)) (lv:LV) (pb:List (Nat×Option Box))
    (hs:MSpec P X f lvs pre r post) (hargs:evs ⟨s,bx,X⟩ args=some (lvs.map (LV.ren (rn ρ)))) (hu:lvs.all (LV.inUse pre)=true) (hpre:boxesAt ⟨s,bx,X⟩ (rn ρ) pre)
    (hub:pre.all (fun p=>match p.2 with|some b=>b.cells.all (CV.inUse pre)|none=>true)=true) (hi:injOn (rn ρ) (post.map (·.1))=true)
    (hsub:pre.all (fun p=>(look p.1 post).isSome)=true) (hnew:post.all (fun p=>(look p.1 pre).isSome||(⟨s,bx,X⟩:St).fresh (rn ρ p.1))=true)
    (hlv:r.ren (rn ρ)=lv) (hpb:PostEq (rn ρ) post pb) (hw:Want ops s g)
    (kont:RunK P n ops os ⟨(d,lv)::s,pb++bx,X⟩ (⟨[(d,lv)],pb.map (·.1),pb⟩::acc) K):
    RunK P n ops (⟨some d,.call ⟨.value (.func f),args.toArray,tys⟩,ty,pos,after_,g⟩::os) ⟨s,bx,X⟩ acc K:=by
  have e1:callPost ρ post=pb:=hpb.eq
  have h:=LOK.callM (P:=P) (n:=n) (ops:=ops) (σ:=⟨s,bx,X⟩) (d:=d) (args:=args) (tys:=tys) (ty:=ty) (pos:=pos) (after_:=after_) (g:=g) ρ hs hargs hu hpre hub hi hsub hnew
  rw [e1,hlv] at h
  exact RunK.gen hw (h.more (fun k hk=>by
    obtain ⟨p,hp,rfl⟩:=List.mem_map.1 hk
    obtain ⟨x,hx⟩:=Option.isSome_iff_exists.1 (List.all_eq_true.1 hsub p hp)
    obtain ⟨q,hq,e⟩:=List.mem_map.1 (look_key hx)
    rw [← e1]
    exact List.mem_map.2 ⟨(rn ρ q.1,q.2.map (Box.ren (rn ρ))),List.mem_map.2 ⟨q,hq,rfl⟩,by rw [e]⟩)) kont
theorem K.callM {d:Nat} {f:FuncId} {args:List Operand} {tys:Array TypeId} {ty:TypeId} {pos:String} {after_:Array Edge} {g:Option (Nat×Bool)} {lvs:List LV} {r:LV} {pre post:List (Nat×Option Box)} (ρ:List (Nat×Nat)) (pb:List (Nat×Option Box))
    (hs:MSpec P X f lvs pre r post) (hargs:evs ⟨s,bx,X⟩ args=some (lvs.map (LV.ren (rn ρ)))) (hu:lvs.all (LV.inUse pre)=true) (hpre:boxesAt ⟨s,bx,X⟩ (rn ρ) pre)
    (hub:pre.all (fun p=>match p.2 with|some b=>b.cells.all (CV.inUse pre)|none=>true)=true) (hi:injOn (rn ρ) (post.map (·.1))=true)
    (hsub:pre.all (fun p=>(look p.1 post).isSome)=true) (hnew:post.all (fun p=>(look p.1 pre).isSome||(⟨s,bx,X⟩:St).fresh (rn ρ p.1))=true)
    (hlv:r.ren (rn ρ)=r) (hpb:PostEq (rn ρ) post pb) (hw:Want ops s g)
    (kont:RunK P n ops os ⟨(d,r)::s,pb++bx,X⟩ (⟨[(d,r)],pb.map (·.1),pb⟩::acc) K):
    RunK P n ops (⟨some d,.call ⟨.value (.func f),args.toArray,tys⟩,ty,pos,after_,g⟩::os) ⟨s,bx,X⟩ acc K:=
  Go.Lg.K.callMp ρ r pb hs hargs hu hpre hub hi hsub hnew hlv hpb hw kont
end
end Go.Lg
end
section
namespace Go.Lg
open Go Go.RowKit
section
variable {P:Program} {n:Nat} {ops os:List Oper} {acc:List Eff} {K:List Eff→St→Prop} {s:List (Nat×LV)} {bx:List (Nat×Option Box)} {X:Nat→Option Obj} {σ:St}
theorem CV.rel_ptr {S:Nat→Option (Option Box)} {ι:Nat→Nat×Nat} {k off:Nat} {v:Value} (h:(CV.ptr k off).rel S ι v):∃ b,v = .pointer (some ⟨b,off,none⟩):=by
  simp only [CV.rel] at h
  cases hk:S k with
  | none=>simp [hk] at h
  | some x=>cases x with
    | none=>rw [hk] at h;exact h
    | some b=>rw [hk] at h;exact ⟨_,h⟩
def isPtr (P:Program) (t:TypeId):Bool:=match P.underlying t with|some (.pointer _)=>true|_=>false
theorem isPtr_spec {t:TypeId} (h:isPtr P t=true):P.underlying t=some (.pointer (P.pointee t)):=by
  unfold isPtr at h
  split at h
  · rename_i e he
    unfold Program.pointee
    rw [he]
  · cases h
theorem LOK.ptrNil {d k off:Nat} {op:BinOp} {t t':TypeId} {x:Operand} {ty:TypeId} {pos:String} {after_:Array Edge} {g:Option (Nat×Bool)} {r:Bool} (hx:σ.ev x=some (.sv (.one (.ptr k off)))) (ht:isPtr P t=true)
    (hop:(op = .eql∧r=false)∨(op = .neq∧r=true)):
    LOK P n ops ⟨some d,.binOp op t x (.const (.pointer none)) t',ty,pos,after_,g⟩ σ ⟨[(d,.sv (.one (.val (.bool r))))],[],[]⟩:=
  LOK.value fun σ' ha C ι a w hr=>by
    obtain ⟨b,hv⟩:=CV.rel_ptr (hr.ev ((ha.ev (x:=x) (by simp [Op.operands])).trans hx))
    have hc:a.eval (.const (.pointer none)) = .pointer none:=rfl
    rcases hop with ⟨rfl,rfl⟩|⟨rfl,rfl⟩
    · exact ⟨_,by simp only [execOp,hv,hc,eqGuard,Sem.run_bind];simp [run_eql_pointer_nil w t _ (isPtr_spec ht)],rfl⟩
    · exact ⟨_,by simp only [execOp,hv,hc,eqGuard,Sem.run_bind];simp [run_neq_pointer_nil w t _ (isPtr_spec ht)],rfl⟩
theorem LOK.nilNil {d:Nat} {op:BinOp} {t t':TypeId} {x:Operand} {ty:TypeId} {pos:String} {after_:Array Edge} {g:Option (Nat×Bool)} {r:Bool} (hx:σ.ev x=some (.sv (.one (.val (.pointer none))))) (ht:isPtr P t=true)
    (hop:(op = .eql∧r=true)∨(op = .neq∧r=false)):
    LOK P n ops ⟨some d,.binOp op t x (.const (.pointer none)) t',ty,pos,after_,g⟩ σ ⟨[(d,.sv (.one (.val (.bool r))))],[],[]⟩:=
  LOK.value fun σ' ha C ι a w hr=>by
    have hv:a.eval x = .pointer none:=hr.ev ((ha.ev (x:=x) (by simp [Op.operands])).trans hx)
    have hc:a.eval (.const (.pointer none)) = .pointer none:=rfl
    rcases hop with ⟨rfl,rfl⟩|⟨rfl,rfl⟩
    · exact ⟨_,by simp only [execOp,hv,hc,eqGuard,Sem.run_bind];simp [run_eql_pointer_nil w t _ (isPtr_spec ht)],rfl⟩
    · exact ⟨_,by simp only [execOp,hv,hc,eqGuard,Sem.run_bind];simp [run_neq_pointer_nil w t _ (isPtr_spec ht)],rfl⟩
theorem LOK.nilCheck {d k off:Nat} {x:Operand} {ty:TypeId} {pos:String} {after_:Array Edge} {g:Option (Nat×Bool)} (hx:σ.ev x=some (.sv (.one (.ptr k off)))):
    LOK P n ops ⟨some d,.nilCheck x,ty,pos,after_,g⟩ σ ⟨[(d,.sv (.one (.ptr k off)))],[],[]⟩:=
  LOK.value fun σ' ha C ι a w hr=>by
    have h:=hr.ev ((ha.ev (x:=x) (by simp [Op.operands])).trans hx)
    obtain ⟨b,hv⟩:=CV.rel_ptr h
    exact ⟨a.eval x,by simp only [execOp,hv];simp,h⟩
theorem K.ptrNil {d k off:Nat} {op:BinOp} {t t':TypeId} {x:Operand} {ty:TypeId} {pos:String} {after_:Array Edge} {g:Option (Nat×Bool)} {r:Bool} (hx:(⟨s,bx,X⟩:St).ev x=some (.sv (.one (.ptr k off)))) (ht:isPtr P t=true)
    (hop:(op = .eql∧r=false)∨(op = .neq∧r=true)) (hw:Want ops s g) (kont:RunK P n ops os ⟨(d,.sv (.one (.val (.bool r))))::s,bx,X⟩ (⟨[(d,.sv (.one (.val (.bool r))))],[],[]⟩::acc) K):
    RunK P n ops (⟨some d,.binOp op t x (.const (.pointer none)) t',ty,pos,after_,g⟩::os) ⟨s,bx,X⟩ acc K:=RunK.g1 (LOK.ptrNil hx ht hop) hw kont
theorem K.nilNil {d:Nat} {op:BinOp} {t t':TypeId} {x:Operand} {ty:TypeId} {pos:String} {after_:Array Edge} {g:Option (Nat×Bool)} {r:Bool} (hx:(⟨s,bx,X⟩:St).ev x=some (.sv (.one (.val (.pointer none))))) (ht:isPtr P t=true)
    (hop:(op = .eql∧r=true)∨(op = .neq∧r=false)) (hw:Want ops s g) (kont:RunK P n ops os ⟨(d,.sv (.one (.val (.bool r))))::s,bx,X⟩ (⟨[(d,.sv (.one (.val (.bool r))))],[],[]⟩::acc) K):
    RunK P n ops (⟨some d,.binOp op t x (.const (.pointer none)) t',ty,pos,after_,g⟩::os) ⟨s,bx,X⟩ acc K:=RunK.g1 (LOK.nilNil hx ht hop) hw kont
theorem K.nilCheck {d k off:Nat} {x:Operand} {ty:TypeId} {pos:String} {after_:Array Edge} {g:Option (Nat×Bool)} (hx:(⟨s,bx,X⟩:St).ev x=some (.sv (.one (.ptr k off)))) (hw:Want ops s g)
    (kont:RunK P n ops os ⟨(d,.sv (.one (.ptr k off)))::s,bx,X⟩ (⟨[(d,.sv (.one (.ptr k off)))],[],[]⟩::acc) K):
    RunK P n ops (⟨some d,.nilCheck x,ty,pos,after_,g⟩::os) ⟨s,bx,X⟩ acc K:=RunK.g1 (LOK.nilCheck hx) hw kont
theorem LOK.cutSlc {d k off len sz h:Nat} {t:TypeId} {x y:Operand} {ty:TypeId} {pos:String} {after_:Array Edge} {g:Option (Nat×Bool)} {kh:IntKind} (hx:σ.ev x=some (.sv (.one (.slc k off len sz)))) (hy:σ.ev y=some (.sv (.one (.val (.int kh (h:Nat))))))
    (ht:sliceOf P t=some sz) (hh:h≤len):LOK P n ops ⟨some d,.slice t x none (some y) none,ty,pos,after_,g⟩ σ ⟨[(d,.sv (.one (.slc k off h sz)))],[],[]⟩:=
  LOK.value fun σ' ha C ι a w hr=>by
    have h1:=hr.ev ((ha.ev (x:=x) (by simp [Op.operands])).trans hx)
    have h2:a.eval y = .int kh (h:Nat):=hr.ev ((ha.ev (x:=y) (by simp [Op.operands])).trans hy)
    obtain ⟨e,hu,hsz⟩:=sliceOf_spec ht
    have hrun:∀ b c:Nat,len≤c→(Instr.sliceAt t (.slice (some ⟨b,off,none⟩) len c) none (some (.int kh (h:Nat))) none).run P w = .ok (.slice (some ⟨b,off,none⟩) h c) w:=by
      intro b c hc
      have ha0:(⟨b,off,none⟩:Addr).add 0=⟨b,off,none⟩:=by rw [addr_add,Nat.add_zero]
      simp [Instr.sliceAt,Instr.slice,run_underlying hu,Instr.sliceBounds,Instr.sliceBound,asIntOf,hsz,ha0]
      omega
    simp only [LV.rel,SV.rel,CV.rel] at h1 ⊢
    cases hk:σ'.stat k with
    | none=>simp [hk] at h1
    | some bb =>
      cases bb with
      | none =>
        simp only [hk] at h1 ⊢
        obtain ⟨b,c,h1,h3⟩:=h1
        exact ⟨_,by simp only [execOp,h1,h2,Option.map_none,Option.map_some,Sem.run_bind,hrun b c h3,Result.andThen_ok,Sem.run_pure],b,c,rfl,by omega⟩
      | some b =>
        simp only [hk] at h1 ⊢
        obtain ⟨c,h1,h3,h4⟩:=h1
        exact ⟨_,by simp only [execOp,h1,h2,Option.map_none,Option.map_some,Sem.run_bind,hrun _ c h3,Result.andThen_ok,Sem.run_pure],c,rfl,by omega,h4⟩
theorem K.cutSlc {d k off len sz h:Nat} {t:TypeId} {x y:Operand} {ty:TypeId} {pos:String} {after_:Array Edge} {g:Option (Nat×Bool)} {kh:IntKind} (hx:(⟨s,bx,X⟩:St).ev x=some (.sv (.one (.slc k off len sz)))) (hy:(⟨s,bx,X⟩:St).ev y=some (.sv (.one (.val (.int kh (h:Nat))))))
    (ht:sliceOf P t=some sz) (hh:h≤len) (hw:Want ops s g) (kont:RunK P n ops os ⟨(d,.sv (.one (.slc k off h sz)))::s,bx,X⟩ (⟨[(d,.sv (.one (.slc k off h sz)))],[],[]⟩::acc) K):
    RunK P n ops (⟨some d,.slice t x none (some y) none,ty,pos,after_,g⟩::os) ⟨s,bx,X⟩ acc K:=RunK.g1 (LOK.cutSlc hx hy ht hh) hw kont
theorem LOK.makeSlc {d k m:Nat} {t e:TypeId} {x y:Operand} {ty:TypeId} {pos:String} {after_:Array Edge} {g:Option (Nat×Bool)} {kl kc:IntKind} {zs:List Value} {sz:Nat} {zc:List CV} {bytes:Nat}
    (hx:σ.ev x=some (.sv (.one (.val (.int kl (m:Nat)))))) (hy:σ.ev y=some (.sv (.one (.val (.int kc (m:Nat)))))) (hst:slcBuild P t m=some (zs,sz,e)) (hby:(P.info? e).map (·.bytes)=some bytes) (hfit:bytes*m≤281474976710656∧m<9223372036854775808)
    (hzc:zs.map .val=zc) (hk:σ.fresh k=true):LOK P n ops ⟨some d,.makeSlice t x y,ty,pos,after_,g⟩ σ ⟨[(d,.sv (.one (.slc k 0 m sz)))],[],[(k,some ⟨e,zc,false⟩)]⟩:=
  LOK.make fun σ' ha C ι a w hr=>by
    subst hzc
    have hk':σ'.stat k=none:=(ha.stat k (.inr (by simp))).trans (St.fresh_none hk)
    have hlt:=St.fresh_lt hk
    have h1:a.eval x = .int kl (m:Nat):=hr.ev ((ha.ev (x:=x) (by simp [Op.operands])).trans hx)
    have h2:a.eval y = .int kc (m:Nat):=hr.ev ((ha.ev (x:=y) (by simp [Op.operands])).trans hy)
    unfold slcBuild at hst
    cases hu:P.underlying t with
    | none=>simp [hu] at hst
    | some dd =>
      cases dd<;>simp only [hu] at hst<;>try (simp at hst;done)
      rename_i e'
      cases hie:P.info? e' with
      | none=>simp [hie] at hst
      | some ie =>
        cases hz:ie.zero with
        | none=>simp [hie,hz] at hst
        | some z =>
          simp only [hie,hz] at hst
          by_cases hbig:m*ie.size>2^24
          · rw [if_pos hbig] at hst;cases hst
          · rw [if_neg hbig] at hst
            simp only [Option.some.injEq,Prod.mk.injEq] at hst
            obtain ⟨e1,e2,e3⟩:=hst
            subst e3
            rw [hie] at hby
            simp only [Option.map_some,Option.some.injEq] at hby
            have hbb:(ie.bytes:Int)*((m:Nat):Int)≤281474976710656:=by
              rw [hby,← Int.natCast_mul]
              have:=hfit.1
              omega
            have hrun:=run_make (P:=P) w t e' ie z hu hie hz kl kc (m:Nat) (m:Nat) (by omega) (Int.le_refl _) hbb (by have:=hfit.2;omega)
            simp only [Int.toNat_natCast] at hrun
            have hmc:madeCells z.cells (m*ie.size)=zs.toArray:=by
              unfold madeCells
              rw [range_map,← e1]
            rw [hmc] at hrun
            refine ⟨.slice (some ⟨w.heap.size,0,none⟩) m m,w.alloc (.cells zs.toArray e'),put1 ι k (w.heap.size,zs.toArray.size),?_,?_,?_⟩
            · simp only [execOp,h1,h2,Sem.run_bind,hrun,Result.andThen_ok,Sem.run_pure]
            · exact hr.new hlt hk' (b:=⟨e',zs.map .val,false⟩) (by simp only [Box.rel];exact CVs.rel_map_val _)
            · have hl:zs.length=m*sz:=by rw [← e1,← e2];simp
              simp [LV.rel,SV.rel,CV.rel,stat_cons,put1,hl]
theorem K.makeSlc {d m:Nat} {t e:TypeId} {x y:Operand} {ty:TypeId} {pos:String} {after_:Array Edge} {g:Option (Nat×Bool)} {kl kc:IntKind} {zs:List Value} {sz:Nat} {zc:List CV} {bytes:Nat}
    (hx:(⟨s,bx,X⟩:St).ev x=some (.sv (.one (.val (.int kl (m:Nat)))))) (hy:(⟨s,bx,X⟩:St).ev y=some (.sv (.one (.val (.int kc (m:Nat)))))) (hst:slcBuild P t m=some (zs,sz,e)) (hby:(P.info? e).map (·.bytes)=some bytes) (hfit:bytes*m≤281474976710656∧m<9223372036854775808)
    (hzc:zs.map .val=zc) (hk:(⟨s,bx,X⟩:St).fresh d=true) (hw:Want ops s g) (kont:RunK P n ops os ⟨(d,.sv (.one (.slc d 0 m sz)))::s,(d,some ⟨e,zc,false⟩)::bx,X⟩ (⟨[(d,.sv (.one (.slc d 0 m sz)))],[],[(d,some ⟨e,zc,false⟩)]⟩::acc) K):
    RunK P n ops (⟨some d,.makeSlice t x y,ty,pos,after_,g⟩::os) ⟨s,bx,X⟩ acc K:=RunK.g2 (LOK.makeSlc hx hy hst hby hfit hzc hk) hw kont
theorem rel_bc {S:Nat→Option (Option Box)} {κ:Nat→Nat×Nat}:∀ (l:List UInt8),CVs.rel S κ (l.map bc) ((l.map fun c=>Value.int .u8 (c.toNat:Nat)))
  | []=>trivial
  | _::l=>⟨rfl,rel_bc l⟩
theorem LOK.strBytes {d k:Nat} {t t' e:TypeId} {x:Operand} {ty:TypeId} {pos:String} {after_:Array Edge} {g:Option (Nat×Bool)} {l:List UInt8} (hx:σ.ev x=some (.sv (.one (.val (.string ⟨l.toArray⟩))))) (ht:P.underlying t=some .string)
    (hu:P.underlying t'=some (.slice e)) (hu8:P.underlying e=some (.int .u8)) (hk:σ.fresh k=true):
    LOK P n ops ⟨some d,.convert t t' x,ty,pos,after_,g⟩ σ ⟨[(d,.sv (.one (.slc k 0 l.length)))],[],[(k,some ⟨e,l.map bc,true⟩)]⟩:=
  LOK.make fun σ' ha C ι a w hr=>by
    have hk':σ'.stat k=none:=(ha.stat k (.inr (by simp))).trans (St.fresh_none hk)
    have hlt:=St.fresh_lt hk
    have h1:a.eval x = .string ⟨l.toArray⟩:=hr.ev ((ha.ev (x:=x) (by simp [Op.operands])).trans hx)
    have hrun:=run_bytes_of_string (P:=P) w t t' e ⟨l.toArray⟩ ht hu hu8
    have hrow:∀ c,(bytesRow ⟨l.toArray⟩ c).toList=(l.map fun c=>Value.int .u8 (c.toNat:Nat))++List.replicate (c-l.length) (.int .u8 0):=by
      intro c
      unfold bytesRow
      simp [ByteArray.size]
    have hcap:l.length≤grownCap w l.length 0 e:=grownCap_ge w l.length 0 e
    refine ⟨.slice (some ⟨w.heap.size,0,none⟩) l.length (grownCap w l.length 0 e),w.drew.alloc (.cells (bytesRow ⟨l.toArray⟩ (grownCap w l.length 0 e)) e ((bytesRow ⟨l.toArray⟩ (grownCap w l.length 0 e)).size,(bytesRow ⟨l.toArray⟩ (grownCap w l.length 0 e)).size+1)),put1 ι k (w.heap.size,(bytesRow ⟨l.toArray⟩ (grownCap w l.length 0 e)).size),?_,?_,?_⟩
    · simp only [execOp,h1,Sem.run_bind,hrun,Result.andThen_ok,Sem.run_pure];rfl
    · exact hr.drew.newF hlt hk' (b:=⟨e,l.map bc,true⟩) (fun i hi=>by
        have:¬ ((bytesRow ⟨l.toArray⟩ (grownCap w l.length 0 e)).size≤i):=by omega
        simp [this]) (by
        simp only [Box.rel]
        exact ⟨_,_,hrow _,rel_bc l⟩)
    · have hsz:(bytesRow ⟨l.toArray⟩ (grownCap w l.length 0 e)).size=grownCap w l.length 0 e:=by
        rw [← Array.length_toList,hrow]
        simp
        omega
      have hst:(⟨σ'.slots,[(k,some ⟨e,l.map bc,true⟩)]++σ'.boxes,σ'.X⟩:St).stat k=some (some ⟨e,l.map bc,true⟩):=by
        show (⟨σ'.slots,(k,some ⟨e,l.map bc,true⟩)::σ'.boxes,σ'.X⟩:St).stat k=_
        rw [stat_cons,if_pos rfl]
      simp only [LV.rel,SV.rel,CV.rel,hst,if_true,put1]
      exact ⟨_,rfl,hcap,by rw [hsz];omega⟩
theorem K.strBytes {d:Nat} {t t' e:TypeId} {x:Operand} {ty:TypeId} {pos:String} {after_:Array Edge} {g:Option (Nat×Bool)} {l:List UInt8} (hx:(⟨s,bx,X⟩:St).ev x=some (.sv (.one (.val (.string ⟨l.toArray⟩))))) (ht:P.underlying t=some .string)
    (hu:P.underlying t'=some (.slice e)) (hu8:P.underlying e=some (.int .u8)) (hk:(⟨s,bx,X⟩:St).fresh d=true) (hw:Want ops s g)
    (kont:RunK P n ops os ⟨(d,.sv (.one (.slc d 0 l.length)))::s,(d,some ⟨e,l.map bc,true⟩)::bx,X⟩ (⟨[(d,.sv (.one (.slc d 0 l.length)))],[],[(d,some ⟨e,l.map bc,true⟩)]⟩::acc) K):
    RunK P n ops (⟨some d,.convert t t' x,ty,pos,after_,g⟩::os) ⟨s,bx,X⟩ acc K:=RunK.g2 (LOK.strBytes hx ht hu hu8 hk) hw kont
end
end Go.Lg
end
section
namespace Go.Lg
open Go Go.RowKit
def slcInfo (P:Program) (t:TypeId):Option (TypeId×Nat×Nat):=
  match P.underlying t with
  | some (.slice e) =>
    match P.info? e with
    | some ie=>match ie.zero with
      | some z=>if z.cells.size=ie.size then some (e,ie.size,ie.bytes) else none
      | none=>none
    | none=>none
  | _=>none
section
variable {P:Program} {n:Nat} {ops os:List Oper} {acc:List Eff} {K:List Eff→St→Prop} {s:List (Nat×LV)} {bx:List (Nat×Option Box)} {X:Nat→Option Obj} {σ:St} {C:Ctx} {ι:Nat→Nat×Nat} {a:Act} {w:World}
theorem slcInfo_spec {t e:TypeId} {sz by_:Nat} (h:slcInfo P t=some (e,sz,by_)):∃ ie z,P.underlying t=some (.slice e)∧P.info? e=some ie∧ie.zero=some z∧ie.size=sz∧ie.bytes=by_∧z.cells.size=sz:=by
  unfold slcInfo at h
  cases hu:P.underlying t with
  | none=>simp [hu] at h
  | some d =>
    cases d<;>simp only [hu] at h<;>try (simp at h;done)
    rename_i e'
    cases hi:P.info? e' with
    | none=>simp [hi] at h
    | some ie =>
      cases hz:ie.zero with
      | none=>simp [hi,hz] at h
      | some z =>
        simp only [hi,hz] at h
        by_cases hs:z.cells.size=ie.size
        · rw [if_pos hs] at h
          simp only [Option.some.injEq,Prod.mk.injEq] at h
          obtain ⟨h1,h2,h3⟩:=h
          subst h1
          exact ⟨ie,z,rfl,hi,hz,h2,h3,hs.trans h2⟩
        · rw [if_neg hs] at h;cases h
theorem Rel.move (h:Rel n C ι σ a w) {k d:Nat} (hlt:d<1000000) {b b':Box} (hk:σ.stat k=some (some b)) (hkb:b.blk=true) (hd:σ.stat d=none) (he:b'.elem=b.elem) {arr:Array Value} (hs:arr.size=(ι k).2) (hb:b'.rel σ.stat ι arr.toList):
    Rel n C (put1 ι d (ι k)) ⟨σ.slots,(d,some b')::(k,none)::σ.boxes,σ.X⟩ a (w.setRow (ι k).1 arr):=by
  have hkd:k≠d:=fun e=>by rw [e,hd] at hk;cases hk
  have hst:∀ j,(⟨σ.slots,(d,some b')::(k,none)::σ.boxes,σ.X⟩:St).stat j=if j=d then some (some b') else if j=k then some none else σ.stat j:=fun j=>by
    rw [stat_cons]
    by_cases e:j=d
    · rw [if_pos e,if_pos e]
    · rw [if_neg e,if_neg e]
      exact stat_cons σ.slots σ.boxes σ.X k j none
  have hlater:Later σ.stat (⟨σ.slots,(d,some b')::(k,none)::σ.boxes,σ.X⟩:St).stat ι (put1 ι d (ι k)):=by
    intro j hj
    have hne:j≠d:=by rintro rfl;exact hj hd
    rw [hst,if_neg hne]
    by_cases e:j=k
    · rw [if_pos e];exact ⟨by simp,fun b1 hb1=>by simp at hb1⟩
    · rw [if_neg e];exact ⟨hj,fun b1 hb1=>⟨by simp [put1,hne],b1,hb1⟩⟩
  obtain ⟨old,ofr,hold,hot,hos,_⟩:=h.boxes k b hk hkb
  exact {
    defers:=h.defers,size:=h.size
    slots:=fun x lv hx=>by
      obtain ⟨v,hv,hr⟩:=h.slots x lv hx
      exact ⟨v,hv,LV.rel_later hlater hr⟩
    boxes:=fun j b1 hb1 hbk=>by
      rw [hst] at hb1
      by_cases e:j=d
      · subst e
        simp only [if_true,Option.some.injEq] at hb1
        subst hb1
        refine ⟨arr,ofr,?_,by rw [hs,← hos];exact hot,by simp only [put1,if_true];exact hs,Box.rel_later hlater hb⟩
        simp only [put1,if_true]
        rw [he]
        exact setRow_heap w (ι k).1 old arr b.elem ofr hold
      · rw [if_neg e] at hb1
        by_cases e2:j=k
        · rw [if_pos e2] at hb1;simp at hb1
        · rw [if_neg e2] at hb1
          obtain ⟨arr',fr',ha',ht',hs',hr'⟩:=h.boxes j b1 hb1 hbk
          refine ⟨arr',fr',?_,ht',by simp only [put1,e,if_false];exact hs',Box.rel_later hlater hr'⟩
          simp only [put1,e,if_false]
          rw [setRow_other w (ι k).1 (ι j).1 arr (fun e'=>e2 (h.inj j k b1 b hb1 hk e'))]
          exact ha'
    own:=fun j b1 hb1=>by
      rw [hst] at hb1
      by_cases e:j=d
      · subst e;simp only [put1,if_true];exact h.own k b hk
      · rw [if_neg e] at hb1
        by_cases e2:j=k
        · rw [if_pos e2] at hb1;simp at hb1
        · rw [if_neg e2] at hb1;simp only [put1,e,if_false];exact h.own j b1 hb1
    inj:=fun i j bi bj hi hj heq=>by
      rw [hst] at hi hj
      by_cases ei:i=d
      · by_cases ej:j=d
        · rw [ei,ej]
        · rw [if_neg ej] at hj
          by_cases e2:j=k
          · rw [if_pos e2] at hj;simp at hj
          · rw [if_neg e2] at hj
            simp only [put1,ei,if_true,ej,if_false] at heq
            exact absurd (h.inj k j b bj hk hj heq) (Ne.symm e2)
      · rw [if_neg ei] at hi
        by_cases e1:i=k
        · rw [if_pos e1] at hi;simp at hi
        · rw [if_neg e1] at hi
          by_cases ej:j=d
          · simp only [put1,ej,if_true,ei,if_false] at heq
            exact absurd (h.inj i k bi b hi hk heq) e1
          · rw [if_neg ej] at hj
            by_cases e2:j=k
            · rw [if_pos e2] at hj;simp at hj
            · rw [if_neg e2] at hj
              simp only [put1,ei,ej,if_false] at heq
              exact h.inj i j bi bj hi hj heq
    keep:=fun j b1 hb1 hj=>by
      rw [hst] at hb1
      have e:j≠d:=by omega
      rw [if_neg e] at hb1
      by_cases e2:j=k
      · rw [if_pos e2] at hb1;simp at hb1
      · rw [if_neg e2] at hb1
        simp only [put1,e,if_false]
        exact h.keep j b1 hb1 hj
    ext:=fun j o hj=>by
      rw [setRow_other w (ι k).1 j arr (fun e=>by rw [e,(h.own k b hk).2] at hj;simp at hj)]
      exact h.ext j o hj
    res:=by
      obtain ⟨F,hF⟩:=h.res
      refine hF.keep (fun j e cs R hj => ?_) (fun j o _ _ hne hj=>by rw [setRow_other w (ι k).1 j arr (fun e=>hne k b hk hkb e.symm)];exact hj) (fun j _ ho=>ho) (fun _ _ hx _ _=>hx) (fun j bj hj => ?_)
      · rw [hst] at hj
        by_cases e:j=d
        · rw [if_pos e] at hj
          simp only [Option.some.injEq] at hj
          have:=Box.blk_of hb
          rw [hj] at this;cases this
        · rw [if_neg e] at hj
          by_cases e2:j=k
          · rw [if_pos e2] at hj;simp at hj
          · rw [if_neg e2] at hj;exact ⟨hj,by simp [put1,e]⟩
      · rw [hst] at hj
        by_cases e:j=d
        · exact .inr (.inl ⟨k,b,hk,hkb,by simp [put1,e]⟩)
        · rw [if_neg e] at hj
          by_cases e2:j=k
          · rw [if_pos e2] at hj;simp at hj
          · rw [if_neg e2] at hj;exact .inl ⟨bj,hj,by simp [put1,e]⟩
    frame:=fun j hj hn=>by
      rw [setRow_other w (ι k).1 j arr (fun e=>by
        rcases (h.own k b hk).1 with ho|ho
        · exact hn (by rw [e];exact ho)
        · omega)]
      exact h.frame j hj hn
    big:=by simp;exact h.big
    os:=h.os,tape:=h.tape,output:=h.output }
theorem Rel.kill (h:Rel n C ι σ a w) {k:Nat} (hk:∃ x,σ.stat k=some x):Rel n C ι ⟨σ.slots,(k,none)::σ.boxes,σ.X⟩ a w:=by
  have hst:∀ j,(⟨σ.slots,(k,none)::σ.boxes,σ.X⟩:St).stat j=if j=k then some none else σ.stat j:=fun j=>stat_cons _ _ _ _ j _
  have live:∀ j b,(⟨σ.slots,(k,none)::σ.boxes,σ.X⟩:St).stat j=some (some b)→σ.stat j=some (some b):=fun j b hb=>by
    rw [hst] at hb
    by_cases e:j=k
    · rw [if_pos e] at hb;simp at hb
    · rw [if_neg e] at hb;exact hb
  have hlater:Later σ.stat (⟨σ.slots,(k,none)::σ.boxes,σ.X⟩:St).stat ι ι:=by
    intro j hj
    rw [hst]
    by_cases e:j=k
    · rw [if_pos e];exact ⟨by simp,fun b hb=>by simp at hb⟩
    · rw [if_neg e];exact ⟨hj,fun b hb=>⟨rfl,b,hb⟩⟩
  exact {
    defers:=h.defers,size:=h.size
    slots:=fun x lv hx=>by
      obtain ⟨v,hv,hr⟩:=h.slots x lv hx
      exact ⟨v,hv,LV.rel_later hlater hr⟩
    boxes:=fun j b hb hbk=>by
      obtain ⟨arr,fr,h1,h2,h3,h4⟩:=h.boxes j b (live j b hb) hbk
      exact ⟨arr,fr,h1,h2,h3,Box.rel_later hlater h4⟩
    own:=fun j b hb=>h.own j b (live j b hb)
    inj:=fun i j bi bj hi hj=>h.inj i j bi bj (live i bi hi) (live j bj hj)
    keep:=fun j b hb=>h.keep j b (live j b hb)
    res:=by
      obtain ⟨F,hF⟩:=h.res
      exact hF.keep (fun j e cs R hj=>⟨live j _ hj,rfl⟩) (fun _ _ _ _ _ hj=>hj) (fun _ _ ho=>ho) (fun _ _ hx _ _=>hx) (fun j bj hj=>.inl ⟨bj,live j _ hj,rfl⟩)
    ext:=h.ext,frame:=h.frame,big:=h.big,os:=h.os,tape:=h.tape,output:=h.output }
theorem setCells_row {g:Nat} {t:TypeId} {fr:Nat×Nat}:∀ (vs:List Value) (off:Nat) (cur:Array Value) (w:World),w.heap[g]? = some (.cells cur t fr)→off+vs.length≤cur.size →
    w.setCells g off vs=w.setRow g (cur.toList.take off++vs++cur.toList.drop (off+vs.length)).toArray
  | [],off,cur,w,hg,hl=>by
    simp only [World.setCells,List.append_nil,List.length_nil,Nat.add_zero,List.take_append_drop,Array.toArray_toList]
    have hlt:g<w.heap.size:=(Array.getElem?_eq_some_iff.1 hg).1
    have hv:w.heap[g] = .cells cur t fr:=(Array.getElem?_eq_some_iff.1 hg).2
    unfold World.setRow
    cases w with
    | mk heap tape drawn os output =>
      congr 1
      apply Array.ext
      · simp
      · intro k h1 h2
        simp only [Array.getElem_modify]
        split
        · rename_i hk;subst hk;simp at hv;simp [hv]
        · rfl
  | v::rest,off,cur,w,hg,hl=>by
    have hi:off<cur.size:=by simp at hl;omega
    have ih:=setCells_row rest (off+1) (cur.setIfInBounds off v) (w.setRow g (cur.setIfInBounds off v)) (setRow_heap w g cur _ t fr hg) (by simp at hl ⊢;omega)
    rw [World.setCells,setCell_eq_setRow w g off cur t fr v hg,ih,setRow_setRow]
    congr 2
    apply List.ext_getElem?
    intro j
    simp only [Array.toList_setIfInBounds,List.getElem?_append,List.length_take,List.length_set,Array.length_toList,List.length_append,List.getElem?_take,List.getElem?_set,List.getElem?_drop,List.length_cons]
    simp at hl
    rcases Nat.lt_trichotomy j off with hj|hj|hj
    · simp [show j<off+1 by omega,show min (off+1) cur.size=off+1 by omega,show min off cur.size=off by omega,show off≠j by omega,hj,show j<off+1+rest.length by omega,show j<off+(rest.length+1) by omega]
    · subst hj
      simp [show min (j+1) cur.size=j+1 by omega,show min j cur.size=j by omega,hi,show j<j+1+rest.length by omega]
    · by_cases h2:j<off+(rest.length+1)
      · simp [show ¬ j<off+1 by omega,show min (off+1) cur.size=off+1 by omega,show min off cur.size=off by omega,show ¬ j<off by omega,show j<off+1+rest.length by omega,h2,show j-off=(j-(off+1))+1 by omega]
      · simp [show min (off+1) cur.size=off+1 by omega,show min off cur.size=off by omega,show ¬ j<off+1+rest.length by omega,h2,show off+1+rest.length+(j-(off+1+rest.length))=off+(rest.length+1)+(j-(off+(rest.length+1))) by omega]
        intro hh
        exact absurd hh (by omega)
theorem append_core {σ':St} (hr:Rel n C ι σ' a w) {t tx ty e:TypeId} {sz by_:Nat} (hinf:slcInfo P t=some (e,sz,by_)) {xv yv:Value} {k d len m c:Nat} {cells l2:List CV} {news:List Value} {row:Bool}
    (hv:xv = .slice (some ⟨(ι k).1,0,none⟩) len c) (hle:len≤c) (hcs:0+c*sz≤(ι k).2) (hk:σ'.stat k=some (some ⟨e,cells,row⟩)) (hcl:cells.length=len*sz)
    (hsrc:Src P sz tx yv m news w) (hl2:CVs.rel σ'.stat ι l2 news) (hd:σ'.stat d=none) (hlt:d<1000000) (hfit:(len+m)*by_≤140737488355328) (h63:len+m<9223372036854775808):
    ∃ v w' ι',(Builtin.append_ #[t,tx] ty #[xv,yv]).run P w = .ok v w'∧Rel n C ι' ⟨σ'.slots,(d,some ⟨e,cells++l2,true⟩)::(k,none)::σ'.boxes,σ'.X⟩ a w' ∧
      (CV.slc d 0 (len+m) sz).rel (⟨σ'.slots,(d,some ⟨e,cells++l2,true⟩)::(k,none)::σ'.boxes,σ'.X⟩:St).stat ι' v:=by
  obtain ⟨ie,z,hu,hi,hz,hsz,hby,hzs⟩:=slcInfo_spec hinf
  subst hv
  obtain ⟨arr,fr,harr,hthaw,hasz,hbr⟩:=hr.boxes k _ hk rfl
  obtain ⟨us,sp,hus,hrel⟩:∃ us sp,arr.toList=us++sp∧CVs.rel σ'.stat ι cells us:=by
    unfold Box.rel at hbr
    cases row with
    | false=>exact ⟨arr.toList,[],by simp,hbr⟩
    | true=>exact hbr
  have hul:us.length=len*sz:=by rw [← CVs.rel_length hrel,hcl]
  have hnl:news.length=m*sz:=hsrc.newsLen
  have hkd:k≠d:=fun e=>by rw [e,hd] at hk;cases hk
  have hstd:(⟨σ'.slots,(d,some ⟨e,cells++l2,true⟩)::(k,none)::σ'.boxes,σ'.X⟩:St).stat d=some (some ⟨e,cells++l2,true⟩):=by rw [stat_cons,if_pos rfl]
  subst hsz hby
  have hasz':arr.size=us.length+sp.length:=by rw [← Array.length_toList,hus,List.length_append]
  by_cases hroom:len+m≤c
  · have hm:(len+m)*ie.size≤c*ie.size:=Nat.mul_le_mul_right _ hroom
    rw [Nat.add_mul] at hm
    have hrun:=run_append_room_src (P:=P) w t tx ty e ie hu hi (ι k).1 0 len c yv m news hsrc hroom (fun j hj=>by
        have hj2:0+len*ie.size+j<arr.size:=by omega
        simp [World.cell?,harr,Nat.zero_add] at hj2 ⊢
        omega) (fun j hj=>by
        have h1:=hthaw (0+len*ie.size+j) (by omega)
        obtain ⟨lo,hi'⟩:=fr
        simpa [World.frozen?,harr] using h1)
    rw [setCells_row news (0+len*ie.size) arr w harr (by omega)] at hrun
    have htake:arr.toList.take (0+len*ie.size)=us:=by rw [hus,Nat.zero_add,← hul,List.take_left]
    rw [htake] at hrun
    refine ⟨_,_,put1 ι d (ι k),hrun,?_,?_⟩
    · refine hr.move hlt hk rfl hd rfl (b':=⟨e,cells++l2,true⟩) ?_ ?_
      · simp;omega
      · simp only [Box.rel]
        exact ⟨us++news,_,rfl,CVs.rel_append hrel hl2⟩
    · simp only [CV.rel,hstd,put1,if_true]
      exact ⟨c,rfl,hroom,hcs⟩
  · have hne:=growslice_fits (need:=len+m) (old:=c) (bytes:=ie.bytes) (by omega) hfit
    have hold:=run_firstCells_some (P:=P) w.drew ie.size len ⟨(ι k).1,0,none⟩ len c us hul (fun j v hj=>by
      rw [addr_add]
      have hj2:arr.toList[0+j]? = some v:=by
        rw [hus,Nat.zero_add,List.getElem?_append_left (List.getElem?_eq_some_iff.1 hj).1]
        exact hj
      have h4:w.drew.heap[(ι k).1]? = some (.cells arr e fr):=harr
      simp only [World.cell?,h4,Option.isSome_none,Bool.false_eq_true,if_false]
      simpa using hj2)
    have hrun:=run_append_grow_src (P:=P) w t tx ty e ie z hu hi hz (some ⟨(ι k).1,0,none⟩) len c us hold yv m news hsrc (by omega) (by omega) hne
    refine ⟨_,_,_,hrun,(hr.drew.kill ⟨_,hk⟩).new hlt ?_ (b:=⟨e,cells++l2,true⟩) (arr:=(us++news).toArray++Builtin.zeroCells z.cells (grownCap w (len+m) c e-(len+m))) ?_,?_⟩
    · rw [stat_cons,if_neg (Ne.symm hkd)];exact hd
    · simp only [Box.rel]
      refine ⟨us++news,(Builtin.zeroCells z.cells (grownCap w (len+m) c e-(len+m))).toList,by simp,?_⟩
      have hlater:Later σ'.stat (⟨σ'.slots,(k,none)::σ'.boxes,σ'.X⟩:St).stat ι ι:=by
        intro j hj
        rw [stat_cons]
        by_cases e:j=k
        · rw [if_pos e];exact ⟨by simp,fun b hb=>by simp at hb⟩
        · rw [if_neg e];exact ⟨hj,fun b hb=>⟨rfl,b,hb⟩⟩
      exact CVs.rel_later hlater (CVs.rel_append hrel hl2)
    · simp only [CV.rel,hstd,put1,if_true]
      have hge:=grownCap_ge w (len+m) c e
      refine ⟨_,rfl,hge,?_⟩
      have hzc:(Builtin.zeroCells z.cells (grownCap w (len+m) c e-(len+m))).size=(grownCap w (len+m) c e-(len+m))*ie.size:=by
        simp [Builtin.zeroCells,hzs]
      rw [Array.size_append,hzc]
      have h5:grownCap w (len+m) c e=(grownCap w (len+m) c e-(len+m))+(len+m):=by omega
      generalize grownCap w (len+m) c e-(len+m)=q at *
      rw [h5,Nat.add_mul,Nat.add_mul]
      simp
      omega
theorem bc_bytes {S:Nat→Option (Option Box)} {κ:Nat→Nat×Nat} (l:List UInt8):CVs.rel S κ (l.map bc) (byteCells ⟨l.toArray⟩):=rel_bc l
theorem LOK.appendStr {d k len by_:Nat} {t tx e:TypeId} {x y:Operand} {ty:TypeId} {pos:String} {after_:Array Edge} {g:Option (Nat×Bool)} {cells:List CV} {row:Bool} {l:List UInt8}
    (hx:σ.ev x=some (.sv (.one (.slc k 0 len)))) (hk:σ.stat k=some (some ⟨e,cells,row⟩)) (hcl:cells.length=len) (hy:σ.ev y=some (.sv (.one (.val (.string ⟨l.toArray⟩))))) (hinf:slcInfo P t=some (e,1,by_)) (htx:P.underlying tx=some .string)
    (hfit:(len+l.length)*by_≤140737488355328) (h63:len+l.length<9223372036854775808) (hd:σ.fresh d=true):
    LOK P n ops ⟨some d,.call ⟨.builtin .append,#[x,y],#[t,tx]⟩,ty,pos,after_,g⟩ σ ⟨[(d,.sv (.one (.slc d 0 (len+l.length))))],[],[(d,some ⟨e,cells++l.map bc,true⟩),(k,none)]⟩:=
  LOK.make fun σ' ha C ι a w hr=>by
    have hk':σ'.stat k=_:=(ha.stat k (.inr (by simp))).trans hk
    have hd':σ'.stat d=none:=(ha.stat d (.inr (by simp))).trans (St.fresh_none hd)
    have h1:=hr.ev ((ha.ev (x:=x) (by simp [Op.operands,Call.operands])).trans hx)
    have h2:a.eval y = .string ⟨l.toArray⟩:=hr.ev ((ha.ev (x:=y) (by simp [Op.operands,Call.operands])).trans hy)
    simp only [LV.rel,SV.rel,CV.rel,hk'] at h1
    obtain ⟨c,h1,hle,hcs⟩:=h1
    obtain ⟨v,w',ι',hrun,hrel,hv⟩:=append_core (ty:=ty) hr hinf (xv:=a.eval x) (yv:=.string ⟨l.toArray⟩) h1 hle hcs hk' (by rw [hcl,Nat.mul_one]) (Src.ofString w htx ⟨l.toArray⟩) (bc_bytes l) hd' (St.fresh_lt hd) hfit h63
    exact ⟨v,w',ι',by simp [execOp,resolve,invoke,builtin,h2,hrun],hrel,hv⟩
theorem K.appendStr {d k len by_:Nat} {t tx e:TypeId} {x y:Operand} {ty:TypeId} {pos:String} {after_:Array Edge} {g:Option (Nat×Bool)} {cells:List CV} {row:Bool} {l:List UInt8}
    (hx:(⟨s,bx,X⟩:St).ev x=some (.sv (.one (.slc k 0 len)))) (hk:(⟨s,bx,X⟩:St).stat k=some (some ⟨e,cells,row⟩)) (hcl:cells.length=len) (hy:(⟨s,bx,X⟩:St).ev y=some (.sv (.one (.val (.string ⟨l.toArray⟩))))) (hinf:slcInfo P t=some (e,1,by_)) (htx:P.underlying tx=some .string)
    (hfit:(len+l.length)*by_≤140737488355328) (h63:len+l.length<9223372036854775808) (hd:(⟨s,bx,X⟩:St).fresh d=true) {nl:Nat} {nc:List CV} (hnl:len+l.length=nl) (hnc:cells++l.map bc=nc) (hw:Want ops s g)
    (kont:RunK P n ops os ⟨(d,.sv (.one (.slc d 0 nl)))::s,(d,some ⟨e,nc,true⟩)::(k,none)::bx,X⟩ (⟨[(d,.sv (.one (.slc d 0 nl)))],[],[(d,some ⟨e,nc,true⟩),(k,none)]⟩::acc) K):
    RunK P n ops (⟨some d,.call ⟨.builtin .append,#[x,y],#[t,tx]⟩,ty,pos,after_,g⟩::os) ⟨s,bx,X⟩ acc K:=by
  subst hnl hnc
  exact RunK.gen hw (LOK.appendStr hx hk hcl hy hinf htx hfit h63 hd) kont
theorem LOK.appendSlc {d k k2 len m sz by_:Nat} {t tx e e2:TypeId} {x y:Operand} {ty:TypeId} {pos:String} {after_:Array Edge} {g:Option (Nat×Bool)} {cells l2:List CV} {row:Bool} {e3:TypeId} {cs2:List CV} {row2:Bool}
    (hx:σ.ev x=some (.sv (.one (.slc k 0 len sz)))) (hk:σ.stat k=some (some ⟨e,cells,row⟩)) (hcl:cells.length=len*sz) (hy:σ.ev y=some (.sv (.one (.slc k2 0 m sz)))) (hk2:σ.stat k2=some (some ⟨e3,cs2,row2⟩)) (hm2:m*sz≤cs2.length) (hl2:cs2.take (m*sz)=l2) (hso:l2.all CV.solid=true)
    (hinf:slcInfo P t=some (e,sz,by_)) (htx:P.underlying tx=some (.slice e2)) (hfit:(len+m)*by_≤140737488355328) (h63:len+m<9223372036854775808) (hd:σ.fresh d=true):
    LOK P n ops ⟨some d,.call ⟨.builtin .append,#[x,y],#[t,tx]⟩,ty,pos,after_,g⟩ σ ⟨[(d,.sv (.one (.slc d 0 (len+m) sz)))],[k2],[(d,some ⟨e,cells++l2,true⟩),(k,none)]⟩:=
  LOK.make fun σ' ha C ι a w hr=>by
    have hk':σ'.stat k=_:=(ha.stat k (.inr (by simp))).trans hk
    have hk2':σ'.stat k2=_:=(ha.stat k2 (.inl (by simp))).trans hk2
    have hd':σ'.stat d=none:=(ha.stat d (.inr (by simp))).trans (St.fresh_none hd)
    have h1:=hr.ev ((ha.ev (x:=x) (by simp [Op.operands,Call.operands])).trans hx)
    have h2:=hr.ev ((ha.ev (x:=y) (by simp [Op.operands,Call.operands])).trans hy)
    simp only [LV.rel,SV.rel,CV.rel,hk'] at h1
    simp only [LV.rel,SV.rel,CV.rel,hk2'] at h2
    obtain ⟨c,h1,hle,hcs⟩:=h1
    obtain ⟨c2,h2,-,-⟩:=h2
    obtain ⟨arr2,fr2,harr2,-,-,hbr2⟩:=hr.boxes k2 _ hk2' rfl
    obtain ⟨hsz2,hpart⟩:=Box.rel_part hbr2 (off:=0) (m:=m*sz) (by show 0+m*sz≤cs2.length;omega)
    rw [List.drop_zero,hl2,List.drop_zero] at hpart
    have hlen2:(arr2.toList.take (m*sz)).length=m*sz:=by simp at hsz2 ⊢;omega
    have hone:∀ u∈arr2.toList.take (m*sz),u.oneCell'=true:=(SV.cells_ok (s:=.agg l2) (v:=.agg (arr2.toList.take (m*sz)).toArray) ⟨_,rfl,by simpa using hpart⟩ hso).2 |> fun h u hu=>h u (by simpa [Value.cells] using hu)
    have hsrc:=Src.ofSlice (P:=P) w (size:=sz) htx ⟨(ι k2).1,0,none⟩ m c2 (arr2.toList.take (m*sz)) hlen2 (fun j u hj=>by
      rw [addr_add]
      simp only [World.cell?,harr2,Option.isSome_none,Bool.false_eq_true,if_false]
      rw [List.getElem?_take] at hj
      split at hj
      · simpa using hj
      · simp at hj) hone
    obtain ⟨v,w',ι',hrun,hrel,hv⟩:=append_core (ty:=ty) hr hinf (xv:=a.eval x) (yv:=a.eval y) h1 hle hcs hk' hcl (by rw [h2];exact hsrc) hpart hd' (St.fresh_lt hd) hfit h63
    exact ⟨v,w',ι',by simp [execOp,resolve,invoke,builtin,hrun],hrel,hv⟩
theorem K.appendSlc {d k k2 len m sz by_:Nat} {t tx e e2:TypeId} {x y:Operand} {ty:TypeId} {pos:String} {after_:Array Edge} {g:Option (Nat×Bool)} {cells l2:List CV} {row:Bool} {e3:TypeId} {cs2:List CV} {row2:Bool}
    (hx:(⟨s,bx,X⟩:St).ev x=some (.sv (.one (.slc k 0 len sz)))) (hk:(⟨s,bx,X⟩:St).stat k=some (some ⟨e,cells,row⟩)) (hcl:cells.length=len*sz) (hy:(⟨s,bx,X⟩:St).ev y=some (.sv (.one (.slc k2 0 m sz)))) (hk2:(⟨s,bx,X⟩:St).stat k2=some (some ⟨e3,cs2,row2⟩)) (hm2:m*sz≤cs2.length) (hl2:cs2.take (m*sz)=l2) (hso:l2.all CV.solid=true)
    (hinf:slcInfo P t=some (e,sz,by_)) (htx:P.underlying tx=some (.slice e2)) (hfit:(len+m)*by_≤140737488355328) (h63:len+m<9223372036854775808) (hd:(⟨s,bx,X⟩:St).fresh d=true) {nl:Nat} {nc:List CV} (hnl:len+m=nl) (hnc:cells++l2=nc) (hw:Want ops s g)
    (kont:RunK P n ops os ⟨(d,.sv (.one (.slc d 0 nl sz)))::s,(d,some ⟨e,nc,true⟩)::(k,none)::bx,X⟩ (⟨[(d,.sv (.one (.slc d 0 nl sz)))],[k2],[(d,some ⟨e,nc,true⟩),(k,none)]⟩::acc) K):
    RunK P n ops (⟨some d,.call ⟨.builtin .append,#[x,y],#[t,tx]⟩,ty,pos,after_,g⟩::os) ⟨s,bx,X⟩ acc K:=by
  subst hnl hnc
  exact RunK.gen hw (LOK.appendSlc hx hk hcl hy hk2 hm2 hl2 hso hinf htx hfit h63 hd) kont
end
end Go.Lg
end
section
namespace Go.Lg
open Go Go.RowKit
def weakC:List CV→List CV→Prop
  | [],[]=>True
  | .junk::r,_::r'=>weakC r r'
  | c::r,c'::r'=>c=c'∧weakC r r'
  | _,_=>False
def Weak (b b':Box):Prop:=b.elem=b'.elem∧b.row=b'.row∧weakC b.cells b'.cells
end Go.Lg
end
section
namespace Go.Lg
open Go Go.RowKit Go.ChangeShapes Go.WideShapes Go.Joins
section
variable {H:Type} {enc:TypeId×Value→H} {P:Program} {w:World}
theorem below_trodAll (hl:laidOutB P=true) {W W':World} (hb:Below W.heap.size W W'):∀ {ts:List TypeId} {vs:List Value} {ds:List (DataW H)} {ps:List MemPlace},
    (ts.all fun t=>P.readableRec t&&Nat.blt t P.types.size)=true→DataW.TrodAll enc P W 0 (fun _=>true) true ts vs ds ps→(∀ x∈ps,x.block<W.heap.size) →
    DataW.TrodAll enc P W' 0 (fun b=>decide (b<W.heap.size)) true ts vs ds ps
  | [],vs,ds,ps,_,h,_=>by
    obtain ⟨rfl,rfl,rfl⟩:=trodAll_nil h
    exact trodAll_mk0
  | t::ts,vs,ds,ps,ht,h,hlt=>by
    simp only [List.all_cons,Bool.and_eq_true,Nat.blt_eq] at ht
    obtain ⟨v,vs',d,ds',p,q,rfl,rfl,rfl,hd,hrest⟩:=trodAll_cons h
    have h1:=Below.trod hl ht.1.1 ht.1.2 hd hb (fun x hx=>hlt x (by simp [hx]))
    have h2:=below_trodAll hl hb (by simpa [Bool.and_eq_true,Nat.blt_eq] using ht.2) hrest (fun x hx=>hlt x (by simp [hx]))
    exact ⟨p,q,h1,h2,rfl⟩
def OneIn (X:Nat→Option Obj) (ad:Option Addr) (vs:List Value):Prop := ∀ i v,vs[i]? = some v→∃ (blk off:Nat) (arr:Array Value) (el:TypeId) (fr:Nat×Nat),ad=some ⟨blk,off,none⟩∧X blk=some (.cells arr el fr)∧arr[off+i]? = some v
theorem cell_at {a:Addr} {k:Nat} {c:Value} (hs:a.spot=none) (h:w.cell? (a.add k)=some c):∃ (arr:Array Value) (el:TypeId) (fr:Nat×Nat),w.heap[a.block]? = some (.cells arr el fr)∧arr[a.off+k]? = some c:=by
  obtain ⟨b,o,s⟩:=a
  simp only at hs
  subst hs
  rw [Addr.add_lit] at h
  unfold World.cell? at h
  split at h
  · rename_i arr el fr he
    exact ⟨arr,el,fr,he,by simpa using h⟩
  · cases h
theorem spot_none {a:Addr} {c:Value} (h:w.cell? (a.add 0)=some c):a.spot=none:=by
  have e1:a.add 0=a:=by unfold Addr.add;rw [if_pos rfl]
  rw [e1] at h
  unfold World.cell? at h
  split at h
  · cases hs:a.spot with
    | none=>rfl
    | some _=>rw [hs] at h;simp at h
  · cases h
theorem map_of {α β:Type} {f:β→α} {q:β→Prop}:∀ {vs:List α},(∀ u,u∈vs→∃ k,u=f k∧q k)→∃ ks:List β,vs=ks.map f∧∀ k,k∈ks→q k
  | [],_=>⟨[],rfl,fun k hk=>by simp at hk⟩
  | v::vs,h=>by
    obtain ⟨k,rfl,hq⟩:=h v (by simp)
    obtain ⟨ks,rfl,hqs⟩:=map_of (vs:=vs) (fun u hu=>h u (by simp [hu]))
    refine ⟨k::ks,rfl,fun j hj => ?_⟩
    rcases List.mem_cons.1 hj with rfl|h2
    · exact hq
    · exact hqs j h2
end
theorem rel_args:∀ (vals:List Value),LVs.rel noS (fun _=>(0,0)) (vals.map toLV) vals
  | []=>trivial
  | v::vs=>⟨toLV_rel _ _ v,rel_args vs⟩
theorem law_calls {P:Program} {f:FuncId} {W:World} (vals:List Value) (hp:PSpec P (fun b=>W.heap[b]?) f (vals.map toLV) (.sv (.one (.val (.bool true))))):
    Calls P f vals.toArray W (fun e W'=>e = .returned (.bool true)∧Below W.heap.size W W'):=by
  refine (hp.out W vals.toArray (fun _ _ h=>h) (by simpa using rel_args vals)).mono ?_
  rintro e W' ⟨v,rfl,hr,hb⟩
  simp only [LV.rel,SV.rel,CV.rel] at hr
  exact ⟨by rw [hr],hb⟩
end Go.Lg
end
section
namespace Go.Lg
open Go Go.RowKit
theorem LWP.cut {P:Program} {n:Nat} {C:Ctx} {x z y:Code} {Q Q1 Q2:Exit→St→Prop} {σ:St} (Mid:St→Prop)
    (h:LWP P n C x (thenQ (LWP P n C z (thenQ (fun σ'=>∃ σ'',Le n C σ' σ''∧Mid σ'') (fun _ _=>False))) (fun _ _=>False)) σ) (hm:∀ σ,Mid σ→LWP P n C y Q σ):
    LWP P n C x (thenQ (LWP P n C z (thenQ (LWP P n C y Q) Q1)) Q2) σ:=by
  refine h.mono ?_
  intro e σ' hq
  cases e with
  | normal=>exact LWP.meet0 Mid hq hm
  | exit id'=>exact hq.elim
  | goto l=>exact hq.elim
  | ret=>exact hq.elim
  | panic c=>exact hq.elim
  | outgrown=>exact hq.elim
end Go.Lg
end
section
namespace Go.Lg
open Go Go.RowKit
theorem ren_vals (f:Nat→Nat):∀ (l:List Value),(l.map CV.val).map (CV.ren f)=l.map CV.val
  | []=>rfl
  | c::l=>by rw [List.map_cons,List.map_cons,ren_vals f l];rfl
theorem Box.ren_vals (f:Nat→Nat) (e:TypeId) (l:List Value) (r:Bool):Box.ren f ⟨e,l.map CV.val,r⟩=⟨e,l.map CV.val,r⟩:=by
  unfold Box.ren
  simp only [Go.Lg.ren_vals]
theorem vals_inUse {bx:List (Nat×Option Box)}:∀ {l:List Value},(l.map CV.val).all (CV.inUse bx)=true
  | []=>rfl
  | c::l=>by rw [List.map_cons,List.all_cons,vals_inUse];rfl
section
variable {S T:Nat→Option (Option Box)} {ι:Nat→Nat×Nat} {bx:List (Nat×Option Box)}
def SameOn (bx:List (Nat×Option Box)) (S T:Nat→Option (Option Box)):Prop := ∀ k x,look k bx=some x→S k=T k
theorem CV.rel_on (h:SameOn bx S T) {c:CV} (hu:c.inUse bx=true) {v:Value} (hr:c.rel S ι v):c.rel T ι v:=by
  cases c with
  | val u=>exact hr
  | junk=>trivial
  | ptr k off =>
    simp only [CV.inUse,Option.isSome_iff_exists] at hu
    obtain ⟨x,hx⟩:=hu
    simp only [CV.rel] at hr ⊢
    rw [← h k x hx];exact hr
  | slc k off n sz =>
    simp only [CV.inUse,Option.isSome_iff_exists] at hu
    obtain ⟨x,hx⟩:=hu
    simp only [CV.rel] at hr ⊢
    rw [← h k x hx];exact hr
  | mp k =>
    simp only [CV.inUse,Option.isSome_iff_exists] at hu
    obtain ⟨x,hx⟩:=hu
    simp only [CV.rel] at hr ⊢
    rw [← h k x hx];exact hr
  | fn fi gi k =>
    simp only [CV.inUse,Option.isSome_iff_exists] at hu
    obtain ⟨x,hx⟩:=hu
    simp only [CV.rel] at hr ⊢
    rw [← h k x hx];exact hr
  | hang g hg k =>
    simp only [CV.inUse,Option.isSome_iff_exists] at hu
    obtain ⟨x,hx⟩:=hu
    simp only [CV.rel] at hr ⊢
    rw [← h k x hx];exact hr
theorem CVs.rel_on (h:SameOn bx S T):∀ {l:List CV} {vs:List Value},l.all (CV.inUse bx)=true→CVs.rel S ι l vs→CVs.rel T ι l vs
  | [],[],_,_=>trivial
  | _::_,_::_,hu,hr=>by
    simp only [List.all_cons,Bool.and_eq_true] at hu
    exact ⟨CV.rel_on h hu.1 hr.1,CVs.rel_on h hu.2 hr.2⟩
  | [],_::_,_,hr=>hr.elim
  | _::_,[],_,hr=>hr.elim
theorem SV.rel_on (h:SameOn bx S T) {s:SV} (hu:s.inUse bx=true) {v:Value} (hr:s.rel S ι v):s.rel T ι v:=by
  cases s with
  | one c=>exact CV.rel_on h hu hr
  | agg l=>obtain ⟨arr,e,hl⟩:=hr;exact ⟨arr,e,CVs.rel_on h hu hl⟩
theorem SVs.rel_on (h:SameOn bx S T):∀ {l:List SV} {vs:List Value},l.all (SV.inUse bx)=true→SVs.rel S ι l vs→SVs.rel T ι l vs
  | [],[],_,_=>trivial
  | _::_,_::_,hu,hr=>by
    simp only [List.all_cons,Bool.and_eq_true] at hu
    exact ⟨SV.rel_on h hu.1 hr.1,SVs.rel_on h hu.2 hr.2⟩
  | [],_::_,_,hr=>hr.elim
  | _::_,[],_,hr=>hr.elim
theorem LV.rel_on (h:SameOn bx S T) {s:LV} (hu:s.inUse bx=true) {v:Value} (hr:s.rel S ι v):s.rel T ι v:=by
  cases s with
  | sv s=>exact SV.rel_on h hu hr
  | tup l=>obtain ⟨arr,e,hl⟩:=hr;exact ⟨arr,e,SVs.rel_on h hu hl⟩
theorem Box.rel_on (h:SameOn bx S T) {b:Box} (hu:b.cells.all (CV.inUse bx)=true) {vs:List Value} (hr:b.rel S ι vs):b.rel T ι vs:=by
  unfold Box.rel at hr ⊢
  cases hb:b.row with
  | res R=>rw [hb] at hr;exact hr.elim
  | bool r =>
    cases r with
    | false=>rw [hb] at hr;exact CVs.rel_on h hu hr
    | true=>rw [hb] at hr;obtain ⟨us,sp,e,hl⟩:=hr;exact ⟨us,sp,e,CVs.rel_on h hu hl⟩
theorem CV.rel_means {κ:Nat→Nat×Nat} (h:∀ k,(look k bx).isSome=true→κ k=ι k) {c:CV} (hu:c.inUse bx=true) {v:Value} (hr:c.rel S ι v):c.rel S κ v:=by
  cases c with
  | val u=>exact hr
  | junk=>trivial
  | ptr k off =>
    simp only [CV.rel] at hr ⊢
    rw [h k hu];exact hr
  | slc k off n sz =>
    simp only [CV.rel] at hr ⊢
    rw [h k hu];exact hr
  | mp k =>
    simp only [CV.rel] at hr ⊢
    rw [h k hu];exact hr
  | fn fi gi k =>
    simp only [CV.rel] at hr ⊢
    rw [h k hu];exact hr
  | hang g hg k =>
    simp only [CV.rel] at hr ⊢
    rw [h k hu];exact hr
theorem CVs.rel_means {κ:Nat→Nat×Nat} (h:∀ k,(look k bx).isSome=true→κ k=ι k):∀ {l:List CV} {vs:List Value},l.all (CV.inUse bx)=true→CVs.rel S ι l vs→CVs.rel S κ l vs
  | [],[],_,_=>trivial
  | _::_,_::_,hu,hr=>by
    simp only [List.all_cons,Bool.and_eq_true] at hu
    exact ⟨CV.rel_means h hu.1 hr.1,CVs.rel_means h hu.2 hr.2⟩
  | [],_::_,_,hr=>hr.elim
  | _::_,[],_,hr=>hr.elim
theorem SV.rel_means {κ:Nat→Nat×Nat} (h:∀ k,(look k bx).isSome=true→κ k=ι k) {s:SV} (hu:s.inUse bx=true) {v:Value} (hr:s.rel S ι v):s.rel S κ v:=by
  cases s with
  | one c=>exact CV.rel_means h hu hr
  | agg l=>obtain ⟨arr,e,hl⟩:=hr;exact ⟨arr,e,CVs.rel_means h hu hl⟩
theorem SVs.rel_means {κ:Nat→Nat×Nat} (h:∀ k,(look k bx).isSome=true→κ k=ι k):∀ {l:List SV} {vs:List Value},l.all (SV.inUse bx)=true→SVs.rel S ι l vs→SVs.rel S κ l vs
  | [],[],_,_=>trivial
  | _::_,_::_,hu,hr=>by
    simp only [List.all_cons,Bool.and_eq_true] at hu
    exact ⟨SV.rel_means h hu.1 hr.1,SVs.rel_means h hu.2 hr.2⟩
  | [],_::_,_,hr=>hr.elim
  | _::_,[],_,hr=>hr.elim
theorem LV.rel_means {κ:Nat→Nat×Nat} (h:∀ k,(look k bx).isSome=true→κ k=ι k) {s:LV} (hu:s.inUse bx=true) {v:Value} (hr:s.rel S ι v):s.rel S κ v:=by
  cases s with
  | sv s=>exact SV.rel_means h hu hr
  | tup l=>obtain ⟨arr,e,hl⟩:=hr;exact ⟨arr,e,SVs.rel_means h hu hl⟩
end
section
variable {P:Program} {n:Nat} {C:Ctx} {c:Code} {Q:Exit→St→Prop} {X:Nat→Option Obj}
def withBlock (X:Nat→Option Obj) (blk:Nat) (o:Obj):Nat→Option Obj:=fun b=>if b=blk then some o else X b
theorem withBlock_at (X:Nat→Option Obj) (blk:Nat) (o:Obj):withBlock X blk o blk=some o:=if_pos rfl
theorem withBlock_old {X:Nat→Option Obj} {blk:Nat} {o:Obj} (hn:X blk=none):∀ b o',X b=some o'→withBlock X blk o b=some o':=fun b o' h=>by
  unfold withBlock
  rw [if_neg (by rintro rfl;rw [hn] at h;cases h)]
  exact h
theorem look_mem {α:Type} {k:Nat} {x:α}:∀ {l:List (Nat×α)},look k l=some x→(k,x)∈l
  | [],h=>by simp [look] at h
  | p::l,h=>by
    simp only [look] at h
    cases e:Nat.beq p.1 k with
    | true =>
      rw [e] at h
      simp at h
      have:=Nat.eq_of_beq_eq_true e
      rw [← this,← h]
      exact List.mem_cons_self
    | false=>rw [e] at h;exact List.mem_cons_of_mem _ (look_mem (by simpa using h))
theorem rel_vals {S:Nat→Option (Option Box)} {ι:Nat→Nat×Nat}:∀ {l:List Value} {vs:List Value},CVs.rel S ι (l.map .val) vs→vs=l
  | [],[],_=>rfl
  | v::l,u::vs,h=>by rw [rel_vals h.2];have:u=v:=h.1;rw [this]
  | [],_::_,h=>h.elim
  | _::_,[],h=>h.elim
structure Frozen (C:Ctx) (blk:Nat) (arr:Array Value) (fr:Nat×Nat):Prop where
  own:C.own blk∨C.w0.heap.size≤blk
  thaw:Thaw fr arr.size
theorem Rel.freeze {ι:Nat→Nat×Nat} {a:Act} {w:World} {s:List (Nat×LV)} {bx:List (Nat×Option Box)} {d k off len sz:Nat} {el:TypeId} {vals:List Value} {row:Bool}
    (hs:s.all (fun p=>p.2.inUse bx)=true) (hb:bx.all (fun p=>match p.2 with|some b=>b.cells.all (CV.inUse bx)|none=>true)=true) (hk:look k bx=none)
    (hr:Rel n C ι ⟨(d,.sv (.one (.slc k off len sz)))::s,(k,some ⟨el,vals.map .val,row⟩)::bx,X⟩ a w):
    ∃ (blk cap:Nat) (arr:Array Value) (fr:Nat×Nat),X blk=none∧Frozen C blk arr fr∧len≤cap∧off+cap*sz≤arr.size∧(∃ sp,arr.toList=vals++sp) ∧
      Rel n C ι ⟨(d,.sv (.one (.val (.slice (some ⟨blk,off,none⟩) len cap))))::s,bx,withBlock X blk (.cells arr el fr)⟩ a w:=by
  have hst:(⟨(d,.sv (.one (.slc k off len sz)))::s,(k,some ⟨el,vals.map .val,row⟩)::bx,X⟩:St).stat k=some (some ⟨el,vals.map .val,row⟩):=by
    simp [St.stat,look]
  have hlk:∀ k' x,look k' bx=some x→k'≠k:=fun k' x h' e=>by rw [e,hk] at h';cases h'
  have hstb:∀ k' x,look k' bx=some x→(⟨(d,.sv (.one (.slc k off len sz)))::s,(k,some ⟨el,vals.map .val,row⟩)::bx,X⟩:St).stat k'=some x:=fun k' x h'=>by
    simp only [St.stat,look]
    cases e:Nat.beq k k' with
    | true=>exact absurd (Nat.eq_of_beq_eq_true e).symm (hlk k' x h')
    | false=>exact h'
  obtain ⟨arr,fr,harr,hth,hsz,hbr⟩:=hr.boxes k _ hst rfl
  obtain ⟨v,hv,hvr⟩:=hr.slots d (.sv (.one (.slc k off len sz))) (by simp [St.slot,look])
  simp only [LV.rel,SV.rel,CV.rel] at hvr
  rw [hst] at hvr
  obtain ⟨cap,rfl,hcap,hfit⟩:=hvr
  have hXn:X (ι k).1=none:=(hr.own k _ hst).2
  have hsp:∃ sp,arr.toList=vals++sp:=by
    unfold Box.rel at hbr
    cases hrow:row with
    | false =>
      rw [hrow] at hbr
      exact ⟨[],by rw [List.append_nil];exact rel_vals hbr⟩
    | true =>
      rw [hrow] at hbr
      obtain ⟨us,sp,e,hl⟩:=hbr
      exact ⟨sp,by rw [e,rel_vals hl]⟩
  refine ⟨(ι k).1,cap,arr,fr,hXn,⟨(hr.own k _ hst).1,hth⟩,hcap,by omega,hsp,?_⟩
  have hon:SameOn bx (⟨(d,.sv (.one (.slc k off len sz)))::s,(k,some ⟨el,vals.map .val,row⟩)::bx,X⟩:St).stat (fun k=>look k bx):=fun k' x h'=>(hstb k' x h').trans h'.symm
  exact {
    defers:=hr.defers,size:=hr.size
    slots:=fun d' lv hd=>by
      simp only [St.slot,look] at hd
      cases e:Nat.beq d d' with
      | true =>
        rw [e] at hd
        simp at hd
        subst hd
        have:=Nat.eq_of_beq_eq_true e
        subst this
        exact ⟨_,hv,rfl⟩
      | false =>
        rw [e] at hd
        have hd:look d' s=some lv:=by simpa using hd
        obtain ⟨v',hv',hr'⟩:=hr.slots d' lv (by simp only [St.slot,look,e];exact hd)
        exact ⟨v',hv',LV.rel_on hon (List.all_eq_true.1 hs _ (look_mem hd)) hr'⟩
    res:=by
      obtain ⟨F,hF⟩:=hr.res
      refine hF.keep (fun j e cs R hj=>⟨hstb j _ hj,rfl⟩) (fun _ _ _ _ _ hj=>hj) (fun _ _ ho=>ho) (fun b _ hx hne _ => ?_) (fun j bj hj=>.inl ⟨bj,hstb j _ hj,rfl⟩)
      show withBlock X (ι k).1 _ b=none
      unfold withBlock
      rw [if_neg (fun e=>hne k _ hst rfl e.symm)]
      exact hx
    boxes:=fun k' b hb' hbk=>by
      have hb':look k' bx=some (some b):=hb'
      obtain ⟨arr',fr',h1,h2,h3,h4⟩:=hr.boxes k' b (hstb k' _ hb') hbk
      exact ⟨arr',fr',h1,h2,h3,Box.rel_on hon (by simpa using List.all_eq_true.1 hb _ (look_mem hb')) h4⟩
    own:=fun k' b hb'=>by
      have hb':look k' bx=some (some b):=hb'
      obtain ⟨h1,h2⟩:=hr.own k' b (hstb k' _ hb')
      refine ⟨h1,?_⟩
      show withBlock X (ι k).1 _ (ι k').1=none
      unfold withBlock
      rw [if_neg (fun e=>hlk k' _ hb' (hr.inj k' k b _ (hstb k' _ hb') hst e))]
      exact h2
    inj:=fun k1 k2 b1 b2 h1 h2 he=>hr.inj k1 k2 b1 b2 (hstb k1 _ h1) (hstb k2 _ h2) he
    keep:=fun k' b hb' hge=>hr.keep k' b (hstb k' _ hb') hge
    ext:=fun b o hbo=>by
      have hbo:withBlock X (ι k).1 (.cells arr el fr) b=some o:=hbo
      unfold withBlock at hbo
      by_cases e:b=(ι k).1
      · rw [if_pos e] at hbo
        rw [e,harr];exact hbo
      · rw [if_neg e] at hbo
        exact hr.ext b o hbo
    frame:=hr.frame,big:=hr.big,os:=hr.os,tape:=hr.tape,output:=hr.output }
end
end Go.Lg
end
section
namespace Go.Lg
open Go Go.RowKit
section
variable {P:Program} {n:Nat} {ops os:List Oper} {acc:List Eff} {K:List Eff→St→Prop} {s:List (Nat×LV)} {bx:List (Nat×Option Box)} {X:Nat→Option Obj} {σ:St}
theorem slcBuild_one {t e:TypeId} {m:Nat} {v:Value} (hu:P.underlying t=some (.slice e)) (hz:(P.info? e).map (fun i=>(i.size,i.zero.map (fun z=>z.cells)))=some (1,some #[v])) (hm:m≤16777216):
    slcBuild P t m=some (List.replicate m v,1,e):=by
  unfold slcBuild
  rw [hu]
  simp only
  cases hi:P.info? e with
  | none=>rw [hi] at hz;cases hz
  | some ie =>
    rw [hi] at hz
    simp only [Option.map_some,Option.some.injEq,Prod.mk.injEq] at hz
    obtain ⟨h1,h2⟩:=hz
    cases hzz:ie.zero with
    | none=>rw [hzz] at h2;cases h2
    | some z =>
      rw [hzz] at h2
      simp only [Option.map_some,Option.some.injEq] at h2
      simp only [hzz,h1,h2]
      rw [if_neg (show ¬ m*1>2^24 by omega)]
      have:((List.range (m*1)).map fun i=>(#[v]:Array Value)[i%(#[v]:Array Value).size]!)=List.replicate m v:=by
        rw [Nat.mul_one]
        apply List.ext_getElem
        · simp
        · intro i h1 h2
          have:i%1=0:=Nat.mod_one i
          simp [this]
      rw [this]
structure ReadsX (X:Nat→Option Obj) (ad:Option Addr) (news:List Value):Prop where
  cells:∀ i u,news[i]? = some u→∃ (blk off:Nat) (arr:Array Value) (el:TypeId) (fr:Nat×Nat),ad=some ⟨blk,off,none⟩∧X blk=some (.cells arr el fr)∧arr[off+i]? = some u
theorem LOK.appendX {d k len m cap sz by_:Nat} {ad:Addr} {t tx e e2:TypeId} {x y:Operand} {ty:TypeId} {pos:String} {after_:Array Edge} {g:Option (Nat×Bool)} {cells:List CV} {row:Bool} {news:List Value}
    (hx:σ.ev x=some (.sv (.one (.slc k 0 len sz)))) (hk:σ.stat k=some (some ⟨e,cells,row⟩)) (hcl:cells.length=len*sz) (hy:σ.ev y=some (.sv (.one (.val (.slice (some ad) m cap))))) (hX:ReadsX σ.X (some ad) news) (hnl:news.length=m*sz) (hone:∀ u∈news,u.oneCell'=true)
    (hinf:slcInfo P t=some (e,sz,by_)) (htx:P.underlying tx=some (.slice e2)) (hfit:(len+m)*by_≤140737488355328) (h63:len+m<9223372036854775808) (hd:σ.fresh d=true):
    LOK P n ops ⟨some d,.call ⟨.builtin .append,#[x,y],#[t,tx]⟩,ty,pos,after_,g⟩ σ ⟨[(d,.sv (.one (.slc d 0 (len+m) sz)))],[],[(d,some ⟨e,cells++news.map .val,true⟩),(k,none)]⟩:=
  LOK.make fun σ' ha C ι a w hr=>by
    have hk':σ'.stat k=_:=(ha.stat k (.inr (by simp))).trans hk
    have hd':σ'.stat d=none:=(ha.stat d (.inr (by simp))).trans (St.fresh_none hd)
    have h1:=hr.ev ((ha.ev (x:=x) (by simp [Op.operands,Call.operands])).trans hx)
    have h2:a.eval y = .slice (some ad) m cap:=hr.ev ((ha.ev (x:=y) (by simp [Op.operands,Call.operands])).trans hy)
    simp only [LV.rel,SV.rel,CV.rel,hk'] at h1
    obtain ⟨c,h1,hle,hcs⟩:=h1
    have hsrc:=Src.ofSlice (P:=P) w (size:=sz) htx ad m cap news hnl (fun j u hj=>by
      obtain ⟨blk,off,arr,el,fr,e1,e2,e3⟩:=hX.cells j u hj
      have e1:ad=⟨blk,off,none⟩:=by simpa using e1
      subst e1
      have hw:=hr.ext blk _ (by rw [ha.X];exact e2)
      rw [addr_add]
      simp only [World.cell?,hw,Option.isSome_none,Bool.false_eq_true,if_false]
      exact e3) hone
    obtain ⟨v,w',ι',hrun,hrel,hv⟩:=append_core (ty:=ty) hr hinf (xv:=a.eval x) (yv:=a.eval y) h1 hle hcs hk' hcl (by rw [h2];exact hsrc) (CVs.rel_map_val news) hd' (St.fresh_lt hd) hfit h63
    exact ⟨v,w',ι',by simp [execOp,resolve,invoke,builtin,hrun],hrel,hv⟩
theorem K.appendX {d k len m cap sz by_:Nat} {ad:Addr} {t tx e e2:TypeId} {x y:Operand} {ty:TypeId} {pos:String} {after_:Array Edge} {g:Option (Nat×Bool)} {cells:List CV} {row:Bool} {news:List Value}
    (hx:(⟨s,bx,X⟩:St).ev x=some (.sv (.one (.slc k 0 len sz)))) (hk:(⟨s,bx,X⟩:St).stat k=some (some ⟨e,cells,row⟩)) (hcl:cells.length=len*sz) (hy:(⟨s,bx,X⟩:St).ev y=some (.sv (.one (.val (.slice (some ad) m cap))))) (hX:ReadsX X (some ad) news) (hnl:news.length=m*sz) (hone:∀ u∈news,u.oneCell'=true)
    (hinf:slcInfo P t=some (e,sz,by_)) (htx:P.underlying tx=some (.slice e2)) (hfit:(len+m)*by_≤140737488355328) (h63:len+m<9223372036854775808) (hd:(⟨s,bx,X⟩:St).fresh d=true) {nl:Nat} {nc:List CV} (hnl2:len+m=nl) (hnc:cells++news.map .val=nc) (hw:Want ops s g)
    (kont:RunK P n ops os ⟨(d,.sv (.one (.slc d 0 nl sz)))::s,(d,some ⟨e,nc,true⟩)::(k,none)::bx,X⟩ (⟨[(d,.sv (.one (.slc d 0 nl sz)))],[],[(d,some ⟨e,nc,true⟩),(k,none)]⟩::acc) K):
    RunK P n ops (⟨some d,.call ⟨.builtin .append,#[x,y],#[t,tx]⟩,ty,pos,after_,g⟩::os) ⟨s,bx,X⟩ acc K:=by
  subst hnl2 hnc
  exact RunK.gen hw (LOK.appendX hx hk hcl hy hX hnl hone hinf htx hfit h63 hd) kont
theorem append_nil_core {C:Ctx} {ι:Nat→Nat×Nat} {a:Act} {w:World} {σ':St} (hr:Rel n C ι σ' a w) {t tx ty e:TypeId} {sz by_:Nat} (hinf:slcInfo P t=some (e,sz,by_)) {xv yv:Value} {d m:Nat} {l2:List CV} {news:List Value}
    (hv:xv = .slice none 0 0) (hsrc:Src P sz tx yv m news w) (hl2:CVs.rel σ'.stat ι l2 news) (hd:σ'.stat d=none) (hlt:d<1000000) (hm:1≤m) (hfit:m*by_≤140737488355328) (h63:m<9223372036854775808):
    ∃ v w' ι',(Builtin.append_ #[t,tx] ty #[xv,yv]).run P w = .ok v w'∧Rel n C ι' ⟨σ'.slots,(d,some ⟨e,l2,true⟩)::σ'.boxes,σ'.X⟩ a w' ∧
      (CV.slc d 0 m sz).rel (⟨σ'.slots,(d,some ⟨e,l2,true⟩)::σ'.boxes,σ'.X⟩:St).stat ι' v:=by
  obtain ⟨ie,z,hu,hi,hz,hsz,hby,hzs⟩:=slcInfo_spec hinf
  subst hv
  have hnl:news.length=m*sz:=hsrc.newsLen
  have hstd:(⟨σ'.slots,(d,some ⟨e,l2,true⟩)::σ'.boxes,σ'.X⟩:St).stat d=some (some ⟨e,l2,true⟩):=by rw [stat_cons,if_pos rfl]
  subst hsz hby
  have hne:=growslice_fits (need:=0+m) (old:=0) (bytes:=ie.bytes) (by omega) (by rw [Nat.zero_add];exact hfit)
  have hold:=run_firstCells_none (P:=P) w.drew ie.size 0 0 0
  have hrun:=run_append_grow_src (P:=P) w t tx ty e ie z hu hi hz none 0 0 [] hold yv m news hsrc (by omega) (by omega) hne
  rw [Nat.zero_add,List.nil_append] at hrun
  refine ⟨_,_,_,hrun,hr.drew.new hlt hd (b:=⟨e,l2,true⟩) (arr:=news.toArray++Builtin.zeroCells z.cells (grownCap w m 0 e-m)) ?_,?_⟩
  · simp only [Box.rel]
    exact ⟨news,(Builtin.zeroCells z.cells (grownCap w m 0 e-m)).toList,by simp,hl2⟩
  · simp only [CV.rel,hstd,put1,if_true]
    have hge:=grownCap_ge w m 0 e
    refine ⟨_,rfl,hge,?_⟩
    have hzc:(Builtin.zeroCells z.cells (grownCap w m 0 e-m)).size=(grownCap w m 0 e-m)*ie.size:=by
      simp [Builtin.zeroCells,hzs]
    rw [Array.size_append,hzc]
    have h5:grownCap w m 0 e=(grownCap w m 0 e-m)+m:=by omega
    generalize grownCap w m 0 e-m=q at *
    rw [h5,Nat.add_mul]
    simp
    omega
theorem LOK.appendNil {d k2 m sz by_:Nat} {t tx e e2:TypeId} {x y:Operand} {ty:TypeId} {pos:String} {after_:Array Edge} {g:Option (Nat×Bool)} {l2:List CV} {e3:TypeId} {cs2:List CV} {row2:Bool}
    (hx:σ.ev x=some (.sv (.one (.val (.slice none 0 0))))) (hy:σ.ev y=some (.sv (.one (.slc k2 0 m sz)))) (hk2:σ.stat k2=some (some ⟨e3,cs2,row2⟩)) (hm2:m*sz≤cs2.length) (hl2:cs2.take (m*sz)=l2) (hso:l2.all CV.solid=true) (hm:1≤m)
    (hinf:slcInfo P t=some (e,sz,by_)) (htx:P.underlying tx=some (.slice e2)) (hfit:m*by_≤140737488355328) (h63:m<9223372036854775808) (hd:σ.fresh d=true):
    LOK P n ops ⟨some d,.call ⟨.builtin .append,#[x,y],#[t,tx]⟩,ty,pos,after_,g⟩ σ ⟨[(d,.sv (.one (.slc d 0 m sz)))],[k2],[(d,some ⟨e,l2,true⟩)]⟩:=
  LOK.make fun σ' ha C ι a w hr=>by
    have hk2':σ'.stat k2=_:=(ha.stat k2 (.inl (by simp))).trans hk2
    have hd':σ'.stat d=none:=(ha.stat d (.inr (by simp))).trans (St.fresh_none hd)
    have h1:a.eval x = .slice none 0 0:=hr.ev ((ha.ev (x:=x) (by simp [Op.operands,Call.operands])).trans hx)
    have h2:=hr.ev ((ha.ev (x:=y) (by simp [Op.operands,Call.operands])).trans hy)
    simp only [LV.rel,SV.rel,CV.rel,hk2'] at h2
    obtain ⟨c2,h2,-,-⟩:=h2
    obtain ⟨arr2,fr2,harr2,-,-,hbr2⟩:=hr.boxes k2 _ hk2' rfl
    obtain ⟨hsz2,hpart⟩:=Box.rel_part hbr2 (off:=0) (m:=m*sz) (by show 0+m*sz≤cs2.length;omega)
    rw [List.drop_zero,hl2,List.drop_zero] at hpart
    have hlen2:(arr2.toList.take (m*sz)).length=m*sz:=by simp at hsz2 ⊢;omega
    have hone:∀ u∈arr2.toList.take (m*sz),u.oneCell'=true:=(SV.cells_ok (s:=.agg l2) (v:=.agg (arr2.toList.take (m*sz)).toArray) ⟨_,rfl,by simpa using hpart⟩ hso).2 |> fun h u hu=>h u (by simpa [Value.cells] using hu)
    have hsrc:=Src.ofSlice (P:=P) w (size:=sz) htx ⟨(ι k2).1,0,none⟩ m c2 (arr2.toList.take (m*sz)) hlen2 (fun j u hj=>by
      rw [addr_add]
      simp only [World.cell?,harr2,Option.isSome_none,Bool.false_eq_true,if_false]
      rw [List.getElem?_take] at hj
      split at hj
      · simpa using hj
      · simp at hj) hone
    obtain ⟨v,w',ι',hrun,hrel,hv⟩:=append_nil_core (ty:=ty) hr hinf (xv:=a.eval x) (yv:=a.eval y) h1 (by rw [h2];exact hsrc) hpart hd' (St.fresh_lt hd) hm hfit h63
    exact ⟨v,w',ι',by simp [execOp,resolve,invoke,builtin,hrun],hrel,hv⟩
theorem K.appendNil {d k2 m sz by_:Nat} {t tx e e2:TypeId} {x y:Operand} {ty:TypeId} {pos:String} {after_:Array Edge} {g:Option (Nat×Bool)} {l2:List CV} {e3:TypeId} {cs2:List CV} {row2:Bool}
    (hx:(⟨s,bx,X⟩:St).ev x=some (.sv (.one (.val (.slice none 0 0))))) (hy:(⟨s,bx,X⟩:St).ev y=some (.sv (.one (.slc k2 0 m sz)))) (hk2:(⟨s,bx,X⟩:St).stat k2=some (some ⟨e3,cs2,row2⟩)) (hm2:m*sz≤cs2.length) (hl2:cs2.take (m*sz)=l2) (hso:l2.all CV.solid=true) (hm:1≤m)
    (hinf:slcInfo P t=some (e,sz,by_)) (htx:P.underlying tx=some (.slice e2)) (hfit:m*by_≤140737488355328) (h63:m<9223372036854775808) (hd:(⟨s,bx,X⟩:St).fresh d=true) (hw:Want ops s g)
    (kont:RunK P n ops os ⟨(d,.sv (.one (.slc d 0 m sz)))::s,(d,some ⟨e,l2,true⟩)::bx,X⟩ (⟨[(d,.sv (.one (.slc d 0 m sz)))],[k2],[(d,some ⟨e,l2,true⟩)]⟩::acc) K):
    RunK P n ops (⟨some d,.call ⟨.builtin .append,#[x,y],#[t,tx]⟩,ty,pos,after_,g⟩::os) ⟨s,bx,X⟩ acc K:=RunK.gen hw (LOK.appendNil hx hy hk2 hm2 hl2 hso hm hinf htx hfit h63 hd) kont
end
end Go.Lg
end
section
namespace Go.Lg
open Go Go.RowKit
section
variable {P:Program} {n:Nat} {C:Ctx} {c y x z:Code} {Q Q1 Q2:Exit→St→Prop} {X:Nat→Option Obj} {σ:St}
structure Leads (n:Nat) (C:Ctx) (Mid:St→Prop) (σ:St):Prop where
  out:∀ ι a w,Rel n C ι σ a w→∃ ι' σ',Mid σ'∧Rel n C ι' σ' a w
theorem Leads.here {Mid:St→Prop} {σ':St} (hle:Le n C σ σ') (h:Mid σ'):Leads n C Mid σ:=⟨fun ι a w hr=>by
  obtain ⟨ι',hr'⟩:=hle.out ι a w hr
  exact ⟨ι',σ',h,hr'⟩⟩
theorem Leads.le {Mid:St→Prop} {σ':St} (hle:Le n C σ σ') (h:Leads n C Mid σ'):Leads n C Mid σ:=⟨fun ι a w hr=>by
  obtain ⟨ι',hr'⟩:=hle.out ι a w hr
  exact h.out ι' a w hr'⟩
theorem LWP.ofLeads {Mid:St→Prop} (h:Leads n C Mid σ) (hm:∀ σ,Mid σ→LWP P n C y Q σ):LWP P n C y Q σ:=by
  refine ⟨fun ι a w hr => ?_⟩
  obtain ⟨ι',σ',hM,hr'⟩:=h.out ι a w hr
  exact (hm σ' hM).out ι' a w hr'
theorem Leads.freeze {Mid:St→Prop} {s:List (Nat×LV)} {bx:List (Nat×Option Box)} {d k off len sz:Nat} {el:TypeId} {vals:List Value} {row:Bool}
    (hs:s.all (fun p=>p.2.inUse bx)=true) (hb:bx.all (fun p=>match p.2 with|some b=>b.cells.all (CV.inUse bx)|none=>true)=true) (hk:look k bx=none)
    (h:∀ (blk cap:Nat) (arr:Array Value) (fr:Nat×Nat),X blk=none→Frozen C blk arr fr→len≤cap→off+cap*sz≤arr.size→(∃ sp,arr.toList=vals++sp) →
      Leads n C Mid ⟨(d,.sv (.one (.val (.slice (some ⟨blk,off,none⟩) len cap))))::s,bx,withBlock X blk (.cells arr el fr)⟩):
    Leads n C Mid ⟨(d,.sv (.one (.slc k off len sz)))::s,(k,some ⟨el,vals.map .val,row⟩)::bx,X⟩:=⟨fun ι a w hr=>by
  obtain ⟨blk,cap,arr,fr,h1,h2,h3,h4,h5,h6⟩:=hr.freeze hs hb hk
  exact (h blk cap arr fr h1 h2 h3 h4 h5).out ι a w h6⟩
theorem LWP.meetL (Mid:St→Prop) (h:LWP P n C c (thenQ (Leads n C Mid) (fun _ _=>False)) σ) (hm:∀ σ,Mid σ→LWP P n C y Q σ):LWP P n C c (thenQ (LWP P n C y Q) Q2) σ:=by
  refine h.mono ?_
  intro e σ' hq
  cases e with
  | normal=>exact LWP.ofLeads hq hm
  | exit id'=>exact hq.elim
  | goto l=>exact hq.elim
  | ret=>exact hq.elim
  | panic c=>exact hq.elim
  | outgrown=>exact hq.elim
theorem rel_mid {S:Nat→Option (Option Box)} {ι:Nat→Nat×Nat}:∀ {A:List CV} {c:CV} {B:List CV} {vs:List Value},CVs.rel S ι (A++c::B) vs→∃ va v vb,vs=va++v::vb∧CVs.rel S ι A va∧c.rel S ι v∧CVs.rel S ι B vb
  | [],c,B,[],h=>h.elim
  | [],c,B,v::vs,h=>⟨[],v,vs,rfl,trivial,h.1,h.2⟩
  | a::A,c,B,[],h=>h.elim
  | a::A,c,B,v::vs,h=>by
    obtain ⟨va,u,vb,e,h1,h2,h3⟩:=rel_mid (A:=A) (c:=c) (B:=B) h.2
    exact ⟨v::va,u,vb,by rw [e];rfl,⟨h.1,h1⟩,h2,h3⟩
theorem Rel.freezeCell {ι:Nat→Nat×Nat} {a:Act} {w:World} {s:List (Nat×LV)} {bx:List (Nat×Option Box)} {j k off len sz:Nat} {el el2:TypeId} {A B:List CV} {row2:Bool} {vals:List Value} {row:Bool}
    (hs:s.all (fun p=>p.2.inUse ((j,none)::bx))=true) (hA:A.all (CV.inUse ((j,none)::bx))=true) (hB:B.all (CV.inUse ((j,none)::bx))=true) (hb:bx.all (fun p=>match p.2 with|some b=>b.cells.all (CV.inUse ((j,none)::bx))|none=>true)=true) (hk:look k bx=none) (hjk:Nat.beq j k=false)
    (hr:Rel n C ι ⟨s,(j,some ⟨el2,A ++ .slc k off len sz::B,row2⟩)::(k,some ⟨el,vals.map .val,row⟩)::bx,X⟩ a w):
    ∃ (blk cap:Nat) (arr:Array Value) (fr:Nat×Nat),X blk=none∧Frozen C blk arr fr∧len≤cap∧off+cap*sz≤arr.size∧(∃ sp,arr.toList=vals++sp) ∧
      Rel n C ι ⟨s,(j,some ⟨el2,A ++ .val (.slice (some ⟨blk,off,none⟩) len cap)::B,row2⟩)::bx,withBlock X blk (.cells arr el fr)⟩ a w:=by
  have hjk':j≠k:=fun e=>by rw [e,Nat.beq_refl] at hjk;cases hjk
  have hst:(⟨s,(j,some ⟨el2,A ++ .slc k off len sz::B,row2⟩)::(k,some ⟨el,vals.map .val,row⟩)::bx,X⟩:St).stat k=some (some ⟨el,vals.map .val,row⟩):=by
    simp [St.stat,look,hjk]
  have hstj:(⟨s,(j,some ⟨el2,A ++ .slc k off len sz::B,row2⟩)::(k,some ⟨el,vals.map .val,row⟩)::bx,X⟩:St).stat j=some (some ⟨el2,A ++ .slc k off len sz::B,row2⟩):=by
    simp [St.stat,look]
  have hlk:∀ k' x,look k' bx=some x→k'≠k:=fun k' x h' e=>by rw [e,hk] at h';cases h'
  have hstb:∀ k',k'≠j→∀ x,look k' bx=some x→(⟨s,(j,some ⟨el2,A ++ .slc k off len sz::B,row2⟩)::(k,some ⟨el,vals.map .val,row⟩)::bx,X⟩:St).stat k'=some x:=fun k' hne x h'=>by
    simp only [St.stat,look]
    cases e:Nat.beq j k' with
    | true=>exact absurd (Nat.eq_of_beq_eq_true e).symm hne
    | false =>
      cases e2:Nat.beq k k' with
      | true=>exact absurd (Nat.eq_of_beq_eq_true e2).symm (hlk k' x h')
      | false=>exact h'
  obtain ⟨arr,fr,harr,hth,hsz,hbr⟩:=hr.boxes k _ hst rfl
  obtain ⟨arrj,frj,harrj,hthj,hszj,hbrj⟩:=hr.boxes j _ hstj rfl
  have hXn:X (ι k).1=none:=(hr.own k _ hst).2
  have hsp:∃ sp,arr.toList=vals++sp:=by
    unfold Box.rel at hbr
    cases hrow:row with
    | false =>
      rw [hrow] at hbr
      exact ⟨[],by rw [List.append_nil];exact rel_vals hbr⟩
    | true =>
      rw [hrow] at hbr
      obtain ⟨us,sp,e,hl⟩:=hbr
      exact ⟨sp,by rw [e,rel_vals hl]⟩
  have hcell:∃ us sp va v vb,arrj.toList=us++sp∧(row2=false→sp=[])∧us=va++v::vb∧CVs.rel (⟨s,(j,some ⟨el2,A ++ .slc k off len sz::B,row2⟩)::(k,some ⟨el,vals.map .val,row⟩)::bx,X⟩:St).stat ι A va∧(CV.slc k off len sz).rel (⟨s,(j,some ⟨el2,A ++ .slc k off len sz::B,row2⟩)::(k,some ⟨el,vals.map .val,row⟩)::bx,X⟩:St).stat ι v∧CVs.rel (⟨s,(j,some ⟨el2,A ++ .slc k off len sz::B,row2⟩)::(k,some ⟨el,vals.map .val,row⟩)::bx,X⟩:St).stat ι B vb:=by
    generalize (⟨s,(j,some ⟨el2,A ++ .slc k off len sz::B,row2⟩)::(k,some ⟨el,vals.map .val,row⟩)::bx,X⟩:St).stat=S at hbrj ⊢
    unfold Box.rel at hbrj
    cases row2 with
    | false =>
      obtain ⟨va,v,vb,e,h1,h2,h3⟩:=rel_mid hbrj
      exact ⟨arrj.toList,[],va,v,vb,by simp,fun _=>rfl,e,h1,h2,h3⟩
    | true =>
      obtain ⟨us,sp,e0,hl⟩:=hbrj
      obtain ⟨va,v,vb,e,h1,h2,h3⟩:=rel_mid hl
      exact ⟨us,sp,va,v,vb,e0,fun h=>(by cases h),e,h1,h2,h3⟩
  obtain ⟨us,sp2,va,v,vb,eus,hsp2,evs,h1,h2,h3⟩:=hcell
  simp only [CV.rel] at h2
  rw [hst] at h2
  obtain ⟨cap,rfl,hcap,hfit⟩:=h2
  refine ⟨(ι k).1,cap,arr,fr,hXn,⟨(hr.own k _ hst).1,hth⟩,hcap,by omega,hsp,?_⟩
  have hon:∀ k',(look k' ((j,(none:Option Box))::bx)).isSome=true→k'≠k:=fun k' hk' e=>by
    subst e
    simp only [look,hjk,cond_false,hk] at hk'
    cases hk'
  have hnew:∀ k',(⟨s,(j,some ⟨el2,A ++ .val (.slice (some ⟨(ι k).1,off,none⟩) len cap)::B,row2⟩)::bx,withBlock X (ι k).1 (.cells arr el fr)⟩:St).stat k'=if k'=j then some (some ⟨el2,A ++ .val (.slice (some ⟨(ι k).1,off,none⟩) len cap)::B,row2⟩) else look k' bx:=fun k'=>by
    simp only [St.stat,look]
    cases e:Nat.beq j k' with
    | true=>rw [if_pos (Nat.eq_of_beq_eq_true e).symm];rfl
    | false=>rw [if_neg (fun h=>by rw [h,Nat.beq_refl] at e;cases e)];rfl
  have hstat:∀ k',k'≠k→∀ x,(⟨s,(j,some ⟨el2,A ++ .val (.slice (some ⟨(ι k).1,off,none⟩) len cap)::B,row2⟩)::bx,withBlock X (ι k).1 (.cells arr el fr)⟩:St).stat k'=some (some x)→∃ y,(⟨s,(j,some ⟨el2,A ++ .slc k off len sz::B,row2⟩)::(k,some ⟨el,vals.map .val,row⟩)::bx,X⟩:St).stat k'=some (some y):=fun k' hne x hx=>by
    rw [hnew] at hx
    by_cases e:k'=j
    · rw [e];exact ⟨_,hstj⟩
    · rw [if_neg e] at hx
      exact ⟨x,hstb k' e _ hx⟩
  have hmean:∀ {c:CV} {v:Value},c.inUse ((j,none)::bx)=true→c.rel (⟨s,(j,some ⟨el2,A ++ .slc k off len sz::B,row2⟩)::(k,some ⟨el,vals.map .val,row⟩)::bx,X⟩:St).stat ι v →
      c.rel (⟨s,(j,some ⟨el2,A ++ .val (.slice (some ⟨(ι k).1,off,none⟩) len cap)::B,row2⟩)::bx,withBlock X (ι k).1 (.cells arr el fr)⟩:St).stat ι v:=fun {c v} hu hc=>by
    have key:∀ k',(look k' ((j,(none:Option Box))::bx)).isSome=true→(k'=j)∨(k'≠j∧∃ x,look k' bx=some x∧(⟨s,(j,some ⟨el2,A ++ .slc k off len sz::B,row2⟩)::(k,some ⟨el,vals.map .val,row⟩)::bx,X⟩:St).stat k'=some x):=fun k' hk'=>by
      by_cases e:k'=j
      · exact .inl e
      · right
        have e2:Nat.beq j k'=false:=by
          cases h:Nat.beq j k' with
          | false=>rfl
          | true=>exact absurd (Nat.eq_of_beq_eq_true h).symm e
        simp only [look,e2,cond_false] at hk'
        obtain ⟨x,hx⟩:=Option.isSome_iff_exists.1 hk'
        exact ⟨e,x,hx,hstb k' e x hx⟩
    cases c with
    | val u=>exact hc
    | junk=>trivial
    | ptr k' o =>
      simp only [CV.rel] at hc ⊢
      rw [hnew]
      rcases key k' hu with e|⟨e,x,hx,hx2⟩
      · subst e
        rw [hstj] at hc
        rw [if_pos rfl];exact hc
      · rw [hx2] at hc
        rw [if_neg e,hx];exact hc
    | slc k' o n' z' =>
      simp only [CV.rel] at hc ⊢
      rw [hnew]
      rcases key k' hu with e|⟨e,x,hx,hx2⟩
      · subst e
        rw [hstj] at hc
        rw [if_pos rfl];exact hc
      · rw [hx2] at hc
        rw [if_neg e,hx];exact hc
    | mp k' =>
      simp only [CV.rel] at hc ⊢
      rw [hnew]
      rcases key k' hu with e|⟨e,x,hx,hx2⟩
      · subst e
        rw [hstj] at hc
        rw [if_pos rfl];exact hc
      · rw [hx2] at hc
        rw [if_neg e,hx];exact hc
    | fn fi gi k' =>
      simp only [CV.rel] at hc ⊢
      rw [hnew]
      rcases key k' hu with e|⟨e,x,hx,hx2⟩
      · subst e
        rw [hstj] at hc
        rw [if_pos rfl];exact hc
      · rw [hx2] at hc
        rw [if_neg e,hx];exact hc
    | hang g hg k' =>
      simp only [CV.rel] at hc ⊢
      rw [hnew]
      rcases key k' hu with e|⟨e,x,hx,hx2⟩
      · subst e
        rw [hstj] at hc
        rw [if_pos rfl];exact hc
      · rw [hx2] at hc
        rw [if_neg e,hx];exact hc
  have hmeans:∀ {l:List CV} {vs:List Value},l.all (CV.inUse ((j,none)::bx))=true→CVs.rel (⟨s,(j,some ⟨el2,A ++ .slc k off len sz::B,row2⟩)::(k,some ⟨el,vals.map .val,row⟩)::bx,X⟩:St).stat ι l vs →
      CVs.rel (⟨s,(j,some ⟨el2,A ++ .val (.slice (some ⟨(ι k).1,off,none⟩) len cap)::B,row2⟩)::bx,withBlock X (ι k).1 (.cells arr el fr)⟩:St).stat ι l vs:=by
    intro l
    induction l with
    | nil=>intro vs _ h;cases vs with
      | nil=>trivial
      | cons=>exact h.elim
    | cons c l ih=>intro vs hu h;cases vs with
      | nil=>exact h.elim
      | cons v vs =>
        simp only [List.all_cons,Bool.and_eq_true] at hu
        exact ⟨hmean hu.1 h.1,ih hu.2 h.2⟩
  have hsv:∀ {l:SV} {v:Value},l.inUse ((j,none)::bx)=true→l.rel (⟨s,(j,some ⟨el2,A ++ .slc k off len sz::B,row2⟩)::(k,some ⟨el,vals.map .val,row⟩)::bx,X⟩:St).stat ι v →
      l.rel (⟨s,(j,some ⟨el2,A ++ .val (.slice (some ⟨(ι k).1,off,none⟩) len cap)::B,row2⟩)::bx,withBlock X (ι k).1 (.cells arr el fr)⟩:St).stat ι v:=fun {l v} hu h=>by
    cases l with
    | one c=>exact hmean hu h
    | agg l=>obtain ⟨arr',e,hl⟩:=h;exact ⟨arr',e,hmeans hu hl⟩
  exact {
    defers:=hr.defers,size:=hr.size
    slots:=fun d' lv hd=>by
      obtain ⟨v',hv',hr'⟩:=hr.slots d' lv hd
      refine ⟨v',hv',?_⟩
      have hu:lv.inUse ((j,none)::bx)=true:=List.all_eq_true.1 hs _ (look_mem hd)
      cases lv with
      | sv l=>exact hsv hu hr'
      | tup l =>
        obtain ⟨arr',e,hl⟩:=hr'
        refine ⟨arr',e,?_⟩
        generalize arr'.toList=vs at hl
        have hu2:l.all (SV.inUse ((j,none)::bx))=true:=hu
        clear hu hd hv'
        induction l generalizing vs with
        | nil=>cases vs with
          | nil=>trivial
          | cons=>exact hl.elim
        | cons c l ih=>cases vs with
          | nil=>exact hl.elim
          | cons v vs =>
            simp only [List.all_cons,Bool.and_eq_true] at hu2
            exact ⟨hsv hu2.1 hl.1,ih vs hl.2 hu2.2⟩
    res:=by
      obtain ⟨F,hF⟩:=hr.res
      refine hF.keep (fun i e cs R hi => ?_) (fun _ _ _ _ _ hj=>hj) (fun _ _ ho=>ho) (fun b _ hx hne _ => ?_) (fun i bi hi => ?_)
      · rw [hnew] at hi
        by_cases e:i=j
        · rw [if_pos e] at hi;cases hi
        · rw [if_neg e] at hi;exact ⟨hstb i e _ hi,rfl⟩
      · show withBlock X (ι k).1 _ b=none
        unfold withBlock
        rw [if_neg (fun e=>hne k _ hst rfl e.symm)]
        exact hx
      · have hne:i≠k:=fun e=>by
          rw [hnew,e] at hi
          by_cases e2:k=j
          · exact hjk' e2.symm
          · rw [if_neg e2,hk] at hi;cases hi
        obtain ⟨y,hy⟩:=hstat i hne bi hi
        exact .inl ⟨y,hy,rfl⟩
    boxes:=fun k' b hb' hbk=>by
      rw [hnew] at hb'
      by_cases e:k'=j
      · subst e
        rw [if_pos rfl] at hb'
        cases hb'
        refine ⟨arrj,frj,harrj,hthj,hszj,?_⟩
        have hnewcells:CVs.rel (⟨s,(k',some ⟨el2,A ++ .val (.slice (some ⟨(ι k).1,off,none⟩) len cap)::B,row2⟩)::bx,withBlock X (ι k).1 (.cells arr el fr)⟩:St).stat ι (A ++ .val (.slice (some ⟨(ι k).1,off,none⟩) len cap)::B) us:=by
          rw [evs]
          exact CVs.rel_append (hmeans hA h1) ⟨rfl,hmeans hB h3⟩
        unfold Box.rel
        cases row2 with
        | false=>rw [hsp2 rfl,List.append_nil] at eus;rw [eus];exact hnewcells
        | true=>exact ⟨us,sp2,eus,hnewcells⟩
      · rw [if_neg e] at hb'
        obtain ⟨arr',fr',g1,g2,g3,g4⟩:=hr.boxes k' b (hstb k' e _ hb') hbk
        refine ⟨arr',fr',g1,g2,g3,?_⟩
        have hu:b.cells.all (CV.inUse ((j,none)::bx))=true:=by simpa using List.all_eq_true.1 hb _ (look_mem hb')
        unfold Box.rel at g4 ⊢
        cases hrow:b.row with
        | res R=>rw [hrow] at g4;exact g4.elim
        | bool r =>
          cases r with
          | false=>rw [hrow] at g4;exact hmeans hu g4
          | true=>rw [hrow] at g4;obtain ⟨us',sp',e',hl'⟩:=g4;exact ⟨us',sp',e',hmeans hu hl'⟩
    own:=fun k' b hb'=>by
      have hne:k'≠k:=fun e=>by
        rw [hnew,e] at hb'
        by_cases e2:k=j
        · exact hjk' e2.symm
        · rw [if_neg e2,hk] at hb';cases hb'
      obtain ⟨b0,hb0⟩:=hstat k' hne b hb'
      obtain ⟨g1,g2⟩:=hr.own k' b0 hb0
      refine ⟨g1,?_⟩
      show withBlock X (ι k).1 _ (ι k').1=none
      unfold withBlock
      rw [if_neg (fun e=>hne (hr.inj k' k b0 _ hb0 hst e))]
      exact g2
    inj:=fun k1 k2 b1 b2 g1 g2 he=>by
      have hne:∀ k' b,(⟨s,(j,some ⟨el2,A ++ .val (.slice (some ⟨(ι k).1,off,none⟩) len cap)::B,row2⟩)::bx,withBlock X (ι k).1 (.cells arr el fr)⟩:St).stat k'=some (some b)→k'≠k:=fun k' b hb' e=>by
        rw [hnew,e] at hb'
        by_cases e2:k=j
        · exact hjk' e2.symm
        · rw [if_neg e2,hk] at hb';cases hb'
      obtain ⟨c1,hc1⟩:=hstat k1 (hne k1 b1 g1) b1 g1
      obtain ⟨c2,hc2⟩:=hstat k2 (hne k2 b2 g2) b2 g2
      exact hr.inj k1 k2 c1 c2 hc1 hc2 he
    keep:=fun k' b hb' hge=>by
      have hne:k'≠k:=fun e=>by
        rw [hnew,e] at hb'
        by_cases e2:k=j
        · exact hjk' e2.symm
        · rw [if_neg e2,hk] at hb';cases hb'
      obtain ⟨b0,hb0⟩:=hstat k' hne b hb'
      exact hr.keep k' b0 hb0 hge
    ext:=fun b o hbo=>by
      have hbo:withBlock X (ι k).1 (.cells arr el fr) b=some o:=hbo
      unfold withBlock at hbo
      by_cases e:b=(ι k).1
      · rw [if_pos e] at hbo
        rw [e,harr];exact hbo
      · rw [if_neg e] at hbo
        exact hr.ext b o hbo
    frame:=hr.frame,big:=hr.big,os:=hr.os,tape:=hr.tape,output:=hr.output }
theorem Leads.freezeCell {Mid:St→Prop} {s:List (Nat×LV)} {bx:List (Nat×Option Box)} {j k off len sz:Nat} {el el2:TypeId} {A B:List CV} {row2:Bool} {vals:List Value} {row:Bool}
    (hs:s.all (fun p=>p.2.inUse ((j,none)::bx))=true) (hA:A.all (CV.inUse ((j,none)::bx))=true) (hB:B.all (CV.inUse ((j,none)::bx))=true) (hb:bx.all (fun p=>match p.2 with|some b=>b.cells.all (CV.inUse ((j,none)::bx))|none=>true)=true) (hk:look k bx=none) (hjk:Nat.beq j k=false)
    (h:∀ (blk cap:Nat) (arr:Array Value) (fr:Nat×Nat),X blk=none→Frozen C blk arr fr→len≤cap→off+cap*sz≤arr.size→(∃ sp,arr.toList=vals++sp) →
      Leads n C Mid ⟨s,(j,some ⟨el2,A ++ .val (.slice (some ⟨blk,off,none⟩) len cap)::B,row2⟩)::bx,withBlock X blk (.cells arr el fr)⟩):
    Leads n C Mid ⟨s,(j,some ⟨el2,A ++ .slc k off len sz::B,row2⟩)::(k,some ⟨el,vals.map .val,row⟩)::bx,X⟩:=⟨fun ι a w hr=>by
  obtain ⟨blk,cap,arr,fr,h1,h2,h3,h4,h5,h6⟩:=hr.freezeCell hs hA hB hb hk hjk
  exact (h blk cap arr fr h1 h2 h3 h4 h5).out ι a w h6⟩
end
end Go.Lg
end
section
namespace Go.Lg
open Go Go.RowKit
section
variable {P:Program} {n:Nat} {ops os:List Oper} {acc:List Eff} {K:List Eff→St→Prop} {s:List (Nat×LV)} {bx:List (Nat×Option Box)} {X:Nat→Option Obj} {σ:St}
theorem LOK.ptrNilX {d:Nat} {op:BinOp} {t t':TypeId} {x:Operand} {ty:TypeId} {pos:String} {after_:Array Edge} {g:Option (Nat×Bool)} {r:Bool} {ad:Addr} (hx:σ.ev x=some (.sv (.one (.val (.pointer (some ad)))))) (ht:isPtr P t=true)
    (hop:(op = .eql∧r=false)∨(op = .neq∧r=true)):
    LOK P n ops ⟨some d,.binOp op t x (.const (.pointer none)) t',ty,pos,after_,g⟩ σ ⟨[(d,.sv (.one (.val (.bool r))))],[],[]⟩:=
  LOK.value fun σ' ha C ι a w hr=>by
    have hv:a.eval x = .pointer (some ad):=hr.ev ((ha.ev (x:=x) (by simp [Op.operands])).trans hx)
    have hc:a.eval (.const (.pointer none)) = .pointer none:=rfl
    rcases hop with ⟨rfl,rfl⟩|⟨rfl,rfl⟩
    · exact ⟨_,by simp only [execOp,hv,hc,eqGuard,Sem.run_bind];simp [run_eql_pointer_nil w t _ (isPtr_spec ht)],rfl⟩
    · exact ⟨_,by simp only [execOp,hv,hc,eqGuard,Sem.run_bind];simp [run_neq_pointer_nil w t _ (isPtr_spec ht)],rfl⟩
theorem LOK.nilCheckX {d:Nat} {x:Operand} {ty:TypeId} {pos:String} {after_:Array Edge} {g:Option (Nat×Bool)} {ad:Addr} (hx:σ.ev x=some (.sv (.one (.val (.pointer (some ad)))))):
    LOK P n ops ⟨some d,.nilCheck x,ty,pos,after_,g⟩ σ ⟨[(d,.sv (.one (.val (.pointer (some ad)))))],[],[]⟩:=
  LOK.value fun σ' ha C ι a w hr=>by
    have hv:a.eval x = .pointer (some ad):=hr.ev ((ha.ev (x:=x) (by simp [Op.operands])).trans hx)
    exact ⟨.pointer (some ad),by simp only [execOp,hv];simp,rfl⟩
theorem K.ptrNilX {d:Nat} {op:BinOp} {t t':TypeId} {x:Operand} {ty:TypeId} {pos:String} {after_:Array Edge} {g:Option (Nat×Bool)} {r:Bool} {ad:Addr} (hx:(⟨s,bx,X⟩:St).ev x=some (.sv (.one (.val (.pointer (some ad)))))) (ht:isPtr P t=true)
    (hop:(op = .eql∧r=false)∨(op = .neq∧r=true)) (hw:Want ops s g) (kont:RunK P n ops os ⟨(d,.sv (.one (.val (.bool r))))::s,bx,X⟩ (⟨[(d,.sv (.one (.val (.bool r))))],[],[]⟩::acc) K):
    RunK P n ops (⟨some d,.binOp op t x (.const (.pointer none)) t',ty,pos,after_,g⟩::os) ⟨s,bx,X⟩ acc K:=RunK.g1 (LOK.ptrNilX hx ht hop) hw kont
theorem K.nilCheckX {d:Nat} {x:Operand} {ty:TypeId} {pos:String} {after_:Array Edge} {g:Option (Nat×Bool)} {ad:Addr} (hx:(⟨s,bx,X⟩:St).ev x=some (.sv (.one (.val (.pointer (some ad)))))) (hw:Want ops s g)
    (kont:RunK P n ops os ⟨(d,.sv (.one (.val (.pointer (some ad)))))::s,bx,X⟩ (⟨[(d,.sv (.one (.val (.pointer (some ad)))))],[],[]⟩::acc) K):
    RunK P n ops (⟨some d,.nilCheck x,ty,pos,after_,g⟩::os) ⟨s,bx,X⟩ acc K:=RunK.g1 (LOK.nilCheckX hx) hw kont
end
end Go.Lg
end
section
namespace Go.Lg
open Go Go.RowKit
theorem args_rel:∀ (vals:List Value),LVs.rel noS (fun _=>(0,0)) (vals.map toLV) vals
  | []=>trivial
  | v::vs=>⟨toLV_rel _ _ v,args_rel vs⟩
section
variable {P:Program} {n:Nat} {ops os:List Oper} {acc:List Eff} {K:List Eff→St→Prop} {s:List (Nat×LV)} {bx:List (Nat×Option Box)} {X:Nat→Option Obj} {σ:St}
theorem LOK.fieldAddrX {d:Nat} {s i:Nat} {x:Operand} {ty:TypeId} {pos:String} {after:Array Edge} {g:Option (Nat×Bool)} {b off o m:Nat} {off':Nat} (hx:σ.ev x=some (.sv (.one (.val (.pointer (some ⟨b,off,none⟩))))))
    (hf:fieldOf P s i=some (o,m+1)) (ho:off+o=off'):
    LOK P n ops ⟨some d,.fieldAddr s x i,ty,pos,after,g⟩ σ ⟨[(d,.sv (.one (.val (.pointer (some ⟨b,off',none⟩)))))],[],[]⟩:=
  LOK.value fun σ' ha C ι a w hr=>by
    have h1:a.eval x=_:=hr.ev ((ha.ev (x:=x) (by simp [Op.operands])).trans hx)
    subst ho
    unfold fieldOf at hf
    cases hu:P.underlying s with
    | none=>simp [hu] at hf
    | some dd =>
      cases dd<;>simp only [hu] at hf<;>try (simp at hf;done)
      rename_i fs
      cases hfi:fs[i]? with
      | none=>simp [hfi] at hf
      | some f =>
        cases hin:P.info? f.type with
        | none=>simp [hfi,hin] at hf
        | some inf =>
          simp only [hfi,hin,Option.map_some,Option.some.injEq,Prod.mk.injEq] at hf
          obtain ⟨e1,e2⟩:=hf
          refine ⟨_,?_,rfl⟩
          simp [execOp,Instr.fieldAt,run_underlying hu,hfi,Instr.sureAddr,h1,fieldPlace,sizeOf,typeInfo,hin,e2,addr_add,e1]
theorem K.fieldAddrX {d:Nat} {t:TypeId} {x:Operand} {ty:TypeId} {pos:String} {after:Array Edge} {g:Option (Nat×Bool)} {i b off o m:Nat} [f:FieldT P t i o m] (hx:(⟨s,bx,X⟩:St).ev x=some (.sv (.one (.val (.pointer (some ⟨b,off,none⟩)))))) {off':Nat} (ho:Nat.add off o=off') (hw:Want ops s g)
    (kont:RunK P n ops os ⟨(d,.sv (.one (.val (.pointer (some ⟨b,off',none⟩)))))::s,bx,X⟩ (⟨[(d,.sv (.one (.val (.pointer (some ⟨b,off',none⟩)))))],[],[]⟩::acc) K):
    RunK P n ops (⟨some d,.fieldAddr t x i,ty,pos,after,g⟩::os) ⟨s,bx,X⟩ acc K:=RunK.g1 (LOK.fieldAddrX hx f.h ho) hw kont
end
end Go.Lg
end
section
namespace Go.Lg
open Go Go.RowKit
section
variable {P:Program} {n:Nat} {ops os:List Oper} {acc:List Eff} {K:List Eff→St→Prop} {s:List (Nat×LV)} {bx:List (Nat×Option Box)} {X:Nat→Option Obj} {σ:St}
theorem LOK.appendX0 {d k len cap sz by_:Nat} {t tx e e2:TypeId} {x y:Operand} {ty:TypeId} {pos:String} {after_:Array Edge} {g:Option (Nat×Bool)} {cells:List CV} {row:Bool}
    (hx:σ.ev x=some (.sv (.one (.slc k 0 len sz)))) (hk:σ.stat k=some (some ⟨e,cells,row⟩)) (hcl:cells.length=len*sz) (hy:σ.ev y=some (.sv (.one (.val (.slice none 0 cap)))))
    (hinf:slcInfo P t=some (e,sz,by_)) (htx:P.underlying tx=some (.slice e2)) (hfit:(len+0)*by_≤140737488355328) (h63:len+0<9223372036854775808) (hd:σ.fresh d=true):
    LOK P n ops ⟨some d,.call ⟨.builtin .append,#[x,y],#[t,tx]⟩,ty,pos,after_,g⟩ σ ⟨[(d,.sv (.one (.slc d 0 (len+0) sz)))],[],[(d,some ⟨e,cells++[],true⟩),(k,none)]⟩:=
  LOK.make fun σ' ha C ι a w hr=>by
    have hk':σ'.stat k=_:=(ha.stat k (.inr (by simp))).trans hk
    have hd':σ'.stat d=none:=(ha.stat d (.inr (by simp))).trans (St.fresh_none hd)
    have h1:=hr.ev ((ha.ev (x:=x) (by simp [Op.operands,Call.operands])).trans hx)
    have h2:a.eval y = .slice none 0 cap:=hr.ev ((ha.ev (x:=y) (by simp [Op.operands,Call.operands])).trans hy)
    simp only [LV.rel,SV.rel,CV.rel,hk'] at h1
    obtain ⟨c,h1,hle,hcs⟩:=h1
    have hsrc:=Src.ofNil (P:=P) w (size:=sz) htx cap
    obtain ⟨v,w',ι',hrun,hrel,hv⟩:=append_core (ty:=ty) hr hinf (xv:=a.eval x) (yv:=a.eval y) h1 hle hcs hk' hcl (by rw [h2];exact hsrc) (show CVs.rel σ'.stat ι [] [] from trivial) hd' (St.fresh_lt hd) hfit h63
    exact ⟨v,w',ι',by simp [execOp,resolve,invoke,builtin,hrun],hrel,hv⟩
theorem K.appendX0 {d k len cap sz by_:Nat} {t tx e e2:TypeId} {x y:Operand} {ty:TypeId} {pos:String} {after_:Array Edge} {g:Option (Nat×Bool)} {cells:List CV} {row:Bool}
    (hx:(⟨s,bx,X⟩:St).ev x=some (.sv (.one (.slc k 0 len sz)))) (hk:(⟨s,bx,X⟩:St).stat k=some (some ⟨e,cells,row⟩)) (hcl:cells.length=len*sz) (hy:(⟨s,bx,X⟩:St).ev y=some (.sv (.one (.val (.slice none 0 cap)))))
    (hinf:slcInfo P t=some (e,sz,by_)) (htx:P.underlying tx=some (.slice e2)) (hfit:(len+0)*by_≤140737488355328) (h63:len+0<9223372036854775808) (hd:(⟨s,bx,X⟩:St).fresh d=true) {nl:Nat} {nc:List CV} (hnl2:len+0=nl) (hnc:cells++[]=nc) (hw:Want ops s g)
    (kont:RunK P n ops os ⟨(d,.sv (.one (.slc d 0 nl sz)))::s,(d,some ⟨e,nc,true⟩)::(k,none)::bx,X⟩ (⟨[(d,.sv (.one (.slc d 0 nl sz)))],[],[(d,some ⟨e,nc,true⟩),(k,none)]⟩::acc) K):
    RunK P n ops (⟨some d,.call ⟨.builtin .append,#[x,y],#[t,tx]⟩,ty,pos,after_,g⟩::os) ⟨s,bx,X⟩ acc K:=by
  subst hnl2 hnc
  exact RunK.gen hw (LOK.appendX0 hx hk hcl hy hinf htx hfit h63 hd) kont
end
end Go.Lg
end
section
namespace Go.Lg
open Go Go.RowKit
section
variable {P:Program} {n:Nat} {ops os:List Oper} {acc:List Eff} {K:List Eff→St→Prop} {s:List (Nat×LV)} {bx:List (Nat×Option Box)} {X:Nat→Option Obj} {σ:St}
theorem LOK.max2 {d:Nat} {tys:Array TypeId} {x y:Operand} {ty:TypeId} {pos:String} {after_:Array Edge} {g:Option (Nat×Bool)} {k:IntKind} {a b c:Int} (hx:σ.ev x=some (.sv (.one (.val (.int k a))))) (hy:σ.ev y=some (.sv (.one (.val (.int k b))))) (hc:(if b>a then b else a)=c):
    LOK P n ops ⟨some d,.call ⟨.builtin .max,#[x,y],tys⟩,ty,pos,after_,g⟩ σ ⟨[(d,.sv (.one (.val (.int k c))))],[],[]⟩:=
  LOK.value fun σ' ha C ι av w hr=>by
    have h1:av.eval x = .int k a:=hr.ev ((ha.ev (x:=x) (by simp [Op.operands,Call.operands])).trans hx)
    have h2:av.eval y = .int k b:=hr.ev ((ha.ev (x:=y) (by simp [Op.operands,Call.operands])).trans hy)
    have hrun:(Builtin.max_ tys ty #[.int k a,.int k b]).run P w = .ok (.int k c) w:=by
      subst hc
      simp [Builtin.max_,Builtin.max2]
    exact ⟨_,by simp [execOp,resolve,invoke,builtin,h1,h2,hrun],rfl⟩
theorem K.max2 {d:Nat} {tys:Array TypeId} {x y:Operand} {ty:TypeId} {pos:String} {after_:Array Edge} {g:Option (Nat×Bool)} {k:IntKind} {a b c:Int} (hx:(⟨s,bx,X⟩:St).ev x=some (.sv (.one (.val (.int k a))))) (hy:(⟨s,bx,X⟩:St).ev y=some (.sv (.one (.val (.int k b))))) (hc:(if b>a then b else a)=c) (hw:Want ops s g)
    (kont:RunK P n ops os ⟨(d,.sv (.one (.val (.int k c))))::s,bx,X⟩ (⟨[(d,.sv (.one (.val (.int k c))))],[],[]⟩::acc) K):
    RunK P n ops (⟨some d,.call ⟨.builtin .max,#[x,y],tys⟩,ty,pos,after_,g⟩::os) ⟨s,bx,X⟩ acc K:=RunK.g1 (LOK.max2 hx hy hc) hw kont
theorem LOK.fromSlc {d k off len sz l:Nat} {t:TypeId} {x y:Operand} {ty:TypeId} {pos:String} {after_:Array Edge} {g:Option (Nat×Bool)} {kh:IntKind} (hx:σ.ev x=some (.sv (.one (.slc k off len sz)))) (hy:σ.ev y=some (.sv (.one (.val (.int kh (l:Nat))))))
    (ht:sliceOf P t=some sz) (hh:l<len):LOK P n ops ⟨some d,.slice t x (some y) none none,ty,pos,after_,g⟩ σ ⟨[(d,.sv (.one (.slc k (off+l*sz) (len-l) sz)))],[],[]⟩:=
  LOK.value fun σ' ha C ι a w hr=>by
    have h1:=hr.ev ((ha.ev (x:=x) (by simp [Op.operands])).trans hx)
    have h2:a.eval y = .int kh (l:Nat):=hr.ev ((ha.ev (x:=y) (by simp [Op.operands])).trans hy)
    obtain ⟨e,hu,hsz⟩:=sliceOf_spec ht
    have hrun:∀ b c:Nat,len≤c→(Instr.sliceAt t (.slice (some ⟨b,off,none⟩) len c) (some (.int kh (l:Nat))) none none).run P w = .ok (.slice (some ⟨b,off+l*sz,none⟩) (len-l) (c-l)) w:=by
      intro b c hc
      have ha0:(⟨b,off,none⟩:Addr).add (l*sz)=⟨b,off+l*sz,none⟩:=addr_add _ _ _
      have hcl:c≠l:=by omega
      simp [Instr.sliceAt,Instr.slice,run_underlying hu,Instr.sliceBounds,Instr.sliceBound,asIntOf,hsz,ha0,hcl]
      omega
    simp only [LV.rel,SV.rel,CV.rel] at h1 ⊢
    cases hk:σ'.stat k with
    | none=>simp [hk] at h1
    | some bb =>
      cases bb with
      | none =>
        simp only [hk] at h1 ⊢
        obtain ⟨b,c,h1,h3⟩:=h1
        exact ⟨_,by simp only [execOp,h1,h2,Option.map_none,Option.map_some,Sem.run_bind,hrun b c h3,Result.andThen_ok,Sem.run_pure],b,c-l,rfl,by omega⟩
      | some b =>
        simp only [hk] at h1 ⊢
        obtain ⟨c,h1,h3,h4⟩:=h1
        refine ⟨_,by simp only [execOp,h1,h2,Option.map_none,Option.map_some,Sem.run_bind,hrun _ c h3,Result.andThen_ok,Sem.run_pure],c-l,rfl,by omega,?_⟩
        rw [Nat.add_assoc,← Nat.add_mul,Nat.add_sub_cancel' (by omega)];exact h4
theorem K.fromSlc {d k off len sz l off' len':Nat} {t:TypeId} {x y:Operand} {ty:TypeId} {pos:String} {after_:Array Edge} {g:Option (Nat×Bool)} {kh:IntKind} (hx:(⟨s,bx,X⟩:St).ev x=some (.sv (.one (.slc k off len sz)))) (hy:(⟨s,bx,X⟩:St).ev y=some (.sv (.one (.val (.int kh (l:Nat))))))
    (ht:sliceOf P t=some sz) (hh:l<len) (ho:off+l*sz=off') (hn:len-l=len') (hw:Want ops s g) (kont:RunK P n ops os ⟨(d,.sv (.one (.slc k off' len' sz)))::s,bx,X⟩ (⟨[(d,.sv (.one (.slc k off' len' sz)))],[],[]⟩::acc) K):
    RunK P n ops (⟨some d,.slice t x (some y) none none,ty,pos,after_,g⟩::os) ⟨s,bx,X⟩ acc K:=by
  subst ho hn
  exact RunK.g1 (LOK.fromSlc hx hy ht hh) hw kont
theorem bc_cells_one (l:List UInt8):∀ u∈(l.map fun c=>Value.int .u8 (c.toNat:Nat)),u.oneCell'=true:=fun u hu=>by
  obtain ⟨c,_,rfl⟩:=List.mem_map.1 hu
  rfl
theorem LOK.copyStr {d k off len:Nat} {t tx e el:TypeId} {x y:Operand} {ty:TypeId} {pos:String} {after_:Array Edge} {g:Option (Nat×Bool)} {cells:List CV} {row:Bool} {l:List UInt8}
    (hx:σ.ev x=some (.sv (.one (.slc k off len)))) (hk:σ.stat k=some (some ⟨el,cells,row⟩)) (hy:σ.ev y=some (.sv (.one (.val (.string ⟨l.toArray⟩))))) (hu:P.underlying t=some (.slice e)) (hz:sizeIs P e=some 1)
    (hle:l.length≤len) (hm:off+l.length≤cells.length):
    LOK P n ops ⟨some d,.call ⟨.builtin .copy,#[x,y],#[t,tx]⟩,ty,pos,after_,g⟩ σ ⟨[(d,.sv (.one (.val (.int .i64 (l.length:Nat)))))],[],[(k,some ⟨el,splice cells off (l.map bc),row⟩)]⟩:=
  LOK.make fun σ' ha C ι a w hr=>by
    have hk':σ'.stat k=_:=(ha.stat k (.inr (by simp))).trans hk
    have h1:=hr.ev ((ha.ev (x:=x) (by simp [Op.operands,Call.operands])).trans hx)
    have h2:a.eval y = .string ⟨l.toArray⟩:=hr.ev ((ha.ev (x:=y) (by simp [Op.operands,Call.operands])).trans hy)
    simp only [LV.rel,SV.rel,CV.rel,hk'] at h1
    obtain ⟨c,h1,hlc,hcs⟩:=h1
    obtain ⟨arr,fr,harr,hthaw,hasz,hrel⟩:=hr.boxes k _ hk' rfl
    have hlen:(l.map fun c=>Value.int .u8 (c.toNat:Nat)).length=l.length:=List.length_map _
    have hbl:off+l.length≤arr.size:=by
      have:=(Box.rel_part hrel (off:=0) (m:=cells.length) (by simp)).1
      simp at this
      omega
    have hst:=run_storeCells_at (P:=P) hthaw (l.map fun c=>Value.int .u8 (c.toNat:Nat)) off 0 arr w rfl harr (by rw [hlen];simpa using hbl) (bc_cells_one l)
    simp only [Nat.add_zero] at hst
    have hmin:Nat.min l.length len=l.length:=Nat.min_eq_left hle
    have hrun:(Builtin.copy_ #[t,tx] ty #[.slice (some ⟨(ι k).1,off,none⟩) len c,.string ⟨l.toArray⟩]).run P w = .ok (goInt l.length) (w.setRow (ι k).1 (splice arr.toList off (l.map fun c=>Value.int .u8 (c.toNat:Nat))).toArray):=by
      have hq:=run_sizeIs hz w
      simp [Builtin.copy_,run_underlying hu,Builtin.lenOf,Builtin.firstCells,hq,ByteArray.size,hmin]
      rw [List.take_of_length_le (by simp),hst]
      simp [splice]
    have hrc:CVs.rel σ'.stat ι (l.map bc) (l.map fun c=>Value.int .u8 (c.toNat:Nat)):=rel_bc l
    refine ⟨goInt l.length,w.setRow (ι k).1 (splice arr.toList off (l.map fun c=>Value.int .u8 (c.toNat:Nat))).toArray,ι,by simp [execOp,resolve,invoke,builtin,h1,h2,hrun],?_,rfl⟩
    exact hr.write hk' rfl rfl (b':=⟨el,splice cells off (l.map bc),row⟩) (by rw [← hasz];unfold splice;simp at hbl ⊢;omega) (by simpa using Box.rel_splice hrel hrc (by rw [List.length_map];exact hm))
theorem K.copyStr {d k off len:Nat} {t tx e el:TypeId} {x y:Operand} {ty:TypeId} {pos:String} {after_:Array Edge} {g:Option (Nat×Bool)} {cells:List CV} {row:Bool} {l:List UInt8}
    (hx:(⟨s,bx,X⟩:St).ev x=some (.sv (.one (.slc k off len)))) (hk:(⟨s,bx,X⟩:St).stat k=some (some ⟨el,cells,row⟩)) (hy:(⟨s,bx,X⟩:St).ev y=some (.sv (.one (.val (.string ⟨l.toArray⟩))))) (hu:P.underlying t=some (.slice e)) (hz:sizeIs P e=some 1)
    (hle:l.length≤len) (hm:off+l.length≤cells.length) {r:Int} {nc:List CV} (hr:((l.length:Nat):Int)=r) (hc:splice cells off (l.map bc)=nc) (hw:Want ops s g)
    (kont:RunK P n ops os ⟨(d,.sv (.one (.val (.int .i64 r))))::s,(k,some ⟨el,nc,row⟩)::bx,X⟩ (⟨[(d,.sv (.one (.val (.int .i64 r))))],[],[(k,some ⟨el,nc,row⟩)]⟩::acc) K):
    RunK P n ops (⟨some d,.call ⟨.builtin .copy,#[x,y],#[t,tx]⟩,ty,pos,after_,g⟩::os) ⟨s,bx,X⟩ acc K:=by
  subst hr hc
  exact RunK.gen hw (LOK.copyStr hx hk hy hu hz hle hm) kont
theorem slcBuild_many {t e:TypeId} {m sz:Nat} {z:Array Value} (hu:P.underlying t=some (.slice e)) (hz:(P.info? e).map (fun i=>(i.size,i.zero.map (fun z=>z.cells)))=some (sz,some z)) (hs:z.size=sz) (hm:m*sz≤16777216):
    slcBuild P t m=some ((List.replicate m z.toList).flatten,sz,e):=by
  unfold slcBuild
  rw [hu]
  simp only
  cases hi:P.info? e with
  | none=>rw [hi] at hz;cases hz
  | some ie =>
    rw [hi] at hz
    simp only [Option.map_some,Option.some.injEq,Prod.mk.injEq] at hz
    obtain ⟨h1,h2⟩:=hz
    cases hzz:ie.zero with
    | none=>rw [hzz] at h2;cases h2
    | some zv =>
      rw [hzz] at h2
      simp only [Option.map_some,Option.some.injEq] at h2
      simp only [hzz,h1,h2]
      rw [if_neg (show ¬ m*sz>2^24 by omega)]
      have key:∀ m:Nat,((List.range (m*sz)).map fun i=>z[i%z.size]!)=(List.replicate m z.toList).flatten:=by
        intro m
        induction m with
        | zero=>simp
        | succ m ih =>
          rw [Nat.succ_mul,List.range_add,List.map_append,ih,List.replicate_succ',List.flatten_append]
          congr 1
          rw [List.map_map]
          simp only [List.flatten_cons,List.flatten_nil,List.append_nil]
          apply List.ext_getElem
          · simp [hs]
          · intro i h3 h4
            have hi:i<sz:=by simpa [hs] using h4
            have h5:i%sz=i:=Nat.mod_eq_of_lt hi
            have h6:i<z.size:=by omega
            rw [List.getElem_map,Function.comp_apply,List.getElem_range,hs,Nat.mul_add_mod_self_right,h5,Array.getElem_toList]
            exact getElem!_pos z i h6
      rw [key]
theorem MSpec.plain {f:FuncId} {args:List LV} {r:LV} (h:MSpec P X f args [] r []):PSpec P X f args r:=
  ⟨h.enters,fun w vals hX hargs=>(h.out w vals (fun _=>(0,0)) (fun _ _=>none) ⟨fun k b hk=>(by simp [stOf,look] at hk),fun k b hk=>(by simp [stOf,look] at hk),fun k k' b b' hk=>(by simp [stOf,look] at hk),hX,⟨fun k e cs R hk=>(by simp [stOf,look] at hk),fun k b o ho=>(by cases ho),fun k k' b h=>absurd rfl h⟩⟩ hargs).mono fun e w' ⟨v,ι',_,he,hr,_,hp⟩ =>
    ⟨v,he,LV.rel_later (later_noS _ _ _) hr,⟨hp.os,hp.tape,hp.output,hp.big,fun b hb=>hp.frame b hb (fun hl=>by
      rcases hl with ⟨k,b0,hk,_⟩|⟨k,hk⟩
      · simp [stOf,look] at hk
      · exact hk rfl)⟩⟩⟩
end
end Go.Lg
end
section
namespace Go.Lg
open Go Go.RowKit
def joinM (X H:Nat→Option Obj):Nat→Option Obj:=fun b=>(H b).or (X b)
def cutM (H:Nat→Option Obj) (blk:Nat):Nat→Option Obj:=fun b=>if b=blk then none else H b
theorem joinM_in {X H:Nat→Option Obj} {b:Nat} {o:Obj} (h:H b=some o):joinM X H b=some o:=by unfold joinM;rw [h];rfl
theorem joinM_out {X H:Nat→Option Obj} {b:Nat} (h:H b=none):joinM X H b=X b:=by unfold joinM;rw [h];rfl
theorem joinM_none {X H:Nat→Option Obj} {b:Nat} (h:joinM X H b=none):H b=none∧X b=none:=by
  unfold joinM at h
  cases hh:H b with
  | none=>rw [hh] at h;exact ⟨rfl,h⟩
  | some o=>rw [hh] at h;cases h
theorem cutM_at (H:Nat→Option Obj) (blk:Nat):cutM H blk blk=none:=if_pos rfl
theorem cutM_other {H:Nat→Option Obj} {blk b:Nat} (h:b≠blk):cutM H blk b=H b:=if_neg h
theorem cutM_some {H:Nat→Option Obj} {blk b:Nat} {o:Obj} (h:cutM H blk b=some o):b≠blk∧H b=some o:=by
  unfold cutM at h
  split at h
  · cases h
  · rename_i hne;exact ⟨hne,h⟩
structure OwnedM (C:Ctx) (X H:Nat→Option Obj):Prop where
  own:∀ b o,H b=some o→(C.own b∨C.w0.heap.size≤b)∧Loose o∧X b=none
theorem OwnedM.cut {C:Ctx} {X H:Nat→Option Obj} (h:OwnedM C X H) (blk:Nat):OwnedM C X (cutM H blk):=⟨fun b o hb=>h.own b o (cutM_some hb).2⟩
theorem joinM_cut {X H:Nat→Option Obj} {blk:Nat} {o:Obj} (h:H blk=some o):joinM X H=withBlock (joinM X (cutM H blk)) blk o:=by
  funext b
  unfold withBlock
  by_cases e:b=blk
  · rw [if_pos e,e];exact joinM_in h
  · rw [if_neg e];unfold joinM;rw [cutM_other e]
theorem joinM_with {X H:Nat→Option Obj} {blk:Nat} {o:Obj}:withBlock (joinM X H) blk o=joinM X (withBlock H blk o):=by
  funext b
  unfold withBlock joinM
  by_cases e:b=blk
  · simp [e]
  · simp [e]
theorem joinM_nil (X:Nat→Option Obj):joinM X (fun _=>none)=X:=by funext b;rfl
theorem OwnedM.more {C:Ctx} {X H:Nat→Option Obj} (h:OwnedM C X H) {blk:Nat} {arr:Array Value} {el:TypeId} {fr:Nat×Nat} (hF:Frozen C blk arr fr) (hX:joinM X H blk=none):OwnedM C X (withBlock H blk (.cells arr el fr)):=⟨fun b o hb=>by
  unfold withBlock at hb
  split at hb
  · rename_i e;subst e;cases hb;exact ⟨hF.own,hF.thaw,(joinM_none hX).2⟩
  · exact h.own b o hb⟩
theorem OwnedM.nil (C:Ctx) (X:Nat→Option Obj):OwnedM C X (fun _=>none):=⟨fun _ _ h=>by cases h⟩
theorem OwnedM.frozen {C:Ctx} {X H:Nat→Option Obj} (h:OwnedM C X H) {blk:Nat} {arr:Array Value} {el:TypeId} {fr:Nat×Nat} (hb:H blk=some (.cells arr el fr)):Frozen C blk arr fr:=⟨(h.own _ _ hb).1,(h.own _ _ hb).2.1⟩
section
variable {P:Program} {n:Nat} {C:Ctx} {c:Code} {Q:Exit→St→Prop} {X:Nat→Option Obj} {s:List (Nat×LV)} {bx:List (Nat×Option Box)} {k:Nat}
theorem stat_hd (b:Option Box) (j:Nat):(⟨s,(k,b)::bx,X⟩:St).stat j=if j=k then some b else look j bx:=stat_cons s bx X k j b
theorem later_same {S S':Nat→Option (Option Box)} (ι:Nat→Nat×Nat) (h:∀ j,S j≠none→S' j≠none∧∀ b',S' j=some (some b')→∃ b,S j=some (some b)):Later S S' ι ι:=
  fun j hj=>⟨(h j hj).1,fun b' hb'=>⟨rfl,(h j hj).2 b' hb'⟩⟩
theorem later_hd (ι:Nat→Nat×Nat) (b b':Box) (X X':Nat→Option Obj):Later (⟨s,(k,some b)::bx,X⟩:St).stat (⟨s,(k,some b')::bx,X'⟩:St).stat ι ι:=later_same ι fun j hj=>by
  rw [stat_hd] at hj ⊢
  rw [stat_hd]
  by_cases e:j=k
  · rw [if_pos e,if_pos e];exact ⟨by simp,fun _ _=>⟨b,rfl⟩⟩
  · rw [if_neg e] at hj ⊢
    rw [if_neg e];exact ⟨hj,fun b1 hb1=>⟨b1,hb1⟩⟩
theorem Rel.openRes {ι:Nat→Nat×Nat} {a:Act} {w:World} {e:TypeId} {cs:List CV} {R:Rsc} (hroot:∀ ρ H,R.holds ρ H→∃ vals el fr,H ρ.1=some (.cells vals el fr)∧vals.size=ρ.2)
    (hr:Rel n C ι ⟨s,(k,some ⟨e,cs,.res R⟩)::bx,X⟩ a w):
    ∃ (ρ:Nat×Nat) (H:Nat→Option Obj) (vals:Array Value) (el:TypeId) (fr:Nat×Nat),R.holds ρ H∧H ρ.1=some (.cells vals el fr)∧OwnedM C X H ∧
      Rel n C ι ⟨s,(k,some ⟨el,vals.toList.map .val,false⟩)::bx,joinM X (cutM H ρ.1)⟩ a w:=by
  obtain ⟨F,hF⟩:=hr.res
  have hk:(⟨s,(k,some ⟨e,cs,.res R⟩)::bx,X⟩:St).stat k=some (some ⟨e,cs,.res R⟩):=by rw [stat_hd,if_pos rfl]
  obtain ⟨hR,_⟩:=hF.holds k _ _ _ hk
  obtain ⟨vals,el,fr,hv,hsz⟩:=hroot _ _ hR
  refine ⟨ι k,F k,vals,el,fr,hR,hv,⟨fun b o hb=>let h:=hF.mem k b o hb;⟨h.2.2.2.1,h.2.2.1,h.2.2.2.2.1⟩⟩,?_⟩
  have hlater:=later_hd (s:=s) (bx:=bx) (k:=k) ι ⟨e,cs,.res R⟩ ⟨el,vals.toList.map .val,false⟩ X (joinM X (cutM (F k) (ι k).1))
  have live:∀ j b,(⟨s,(k,some ⟨el,vals.toList.map .val,false⟩)::bx,joinM X (cutM (F k) (ι k).1)⟩:St).stat j=some (some b)→∃ b0,(⟨s,(k,some ⟨e,cs,.res R⟩)::bx,X⟩:St).stat j=some (some b0)∧(j≠k→b=b0):=fun j b hj=>by
    rw [stat_hd] at hj ⊢
    by_cases e:j=k
    · rw [if_pos e];exact ⟨_,rfl,fun h=>absurd e h⟩
    · rw [if_neg e] at hj ⊢;exact ⟨b,hj,fun _=>rfl⟩
  have hnot:∀ j b,(⟨s,(k,some ⟨e,cs,.res R⟩)::bx,X⟩:St).stat j=some (some b)→cutM (F k) (ι k).1 (ι j).1=none:=fun j b hj=>by
    cases hc:cutM (F k) (ι k).1 (ι j).1 with
    | none=>rfl
    | some o =>
      obtain ⟨h1,h2⟩:=cutM_some hc
      have:=(hF.mem k _ o h2).2.2.2.2.2 j b hj rfl
      rw [this] at h1
      exact absurd rfl h1
  have hmv:=hF.mem k _ _ hv
  exact {
    defers:=hr.defers,size:=hr.size
    slots:=fun d lv hd=>by
      obtain ⟨v,hv,hvr⟩:=hr.slots d lv hd
      exact ⟨v,hv,LV.rel_later hlater hvr⟩
    boxes:=fun j b hj hbk=>by
      by_cases ej:j=k
      · subst ej
        rw [stat_hd,if_pos rfl] at hj
        simp only [Option.some.injEq] at hj
        subst hj
        exact ⟨vals,fr,hmv.2.1,hmv.2.2.1,hsz,CVs.rel_map_val _⟩
      · obtain ⟨b0,h0,h1⟩:=live j b hj
        have:=h1 ej
        subst this
        obtain ⟨arr,fr',g1,g2,g3,g4⟩:=hr.boxes j b h0 hbk
        exact ⟨arr,fr',g1,g2,g3,Box.rel_later hlater g4⟩
    own:=fun j b hj=>by
      obtain ⟨b0,h0,_⟩:=live j b hj
      obtain ⟨h1,h2⟩:=hr.own j b0 h0
      exact ⟨h1,(joinM_out (hnot j b0 h0)).trans h2⟩
    inj:=fun i j bi bj hi hj he=>by
      obtain ⟨b1,h1,_⟩:=live i bi hi
      obtain ⟨b2,h2,_⟩:=live j bj hj
      exact hr.inj i j b1 b2 h1 h2 he
    keep:=fun j b hj hge=>by obtain ⟨b0,h0,_⟩:=live j b hj;exact hr.keep j b0 h0 hge
    ext:=fun b o hb=>by
      have hb:joinM X (cutM (F k) (ι k).1) b=some o:=hb
      cases hc:cutM (F k) (ι k).1 b with
      | none=>rw [joinM_out hc] at hb;exact hr.ext b o hb
      | some o' =>
        rw [joinM_in hc] at hb
        cases hb
        exact (hF.mem k b o (cutM_some hc).2).2.1
    res:=by
      have hold:∀ j,isRes (⟨s,(k,some ⟨el,vals.toList.map .val,false⟩)::bx,joinM X (cutM (F k) (ι k).1)⟩:St).stat j↔(j≠k∧isRes (⟨s,(k,some ⟨e,cs,.res R⟩)::bx,X⟩:St).stat j):=fun j=>by
        unfold isRes
        simp only [stat_hd]
        by_cases ej:j=k
        · rw [if_pos ej,if_pos ej]
          exact ⟨fun ⟨_,_,_,h⟩=>(by cases h),fun h=>absurd ej h.1⟩
        · rw [if_neg ej,if_neg ej]
          exact ⟨fun h=>⟨ej,h⟩,fun h=>h.2⟩
      refine ⟨fun j=>open Classical in if j=k then fun _=>none else F j,fun j e' cs' R' hj => ?_,fun j b o ho => ?_,fun i j b h1 h2 => ?_⟩
      · rw [stat_hd] at hj
        by_cases ej:j=k
        · rw [if_pos ej] at hj;cases hj
        · rw [if_neg ej] at hj
          rw [if_neg ej]
          exact hF.holds j e' cs' R' (by rw [stat_hd,if_neg ej];exact hj)
      · by_cases ej:j=k
        · rw [if_pos ej] at ho;cases ho
        · rw [if_neg ej] at ho
          obtain ⟨h1,h2,h3,h4,h5,h6⟩:=hF.mem j b o ho
          refine ⟨(hold j).2 ⟨ej,h1⟩,h2,h3,h4,?_,fun i bi hi ei => ?_⟩
          · have hc:cutM (F k) (ι k).1 b=none:=by
              cases hc:cutM (F k) (ι k).1 b with
              | none=>rfl
              | some o'=>exact absurd (hF.apart j k b (by rw [ho];simp) (by rw [(cutM_some hc).2];simp)) ej
            exact (joinM_out hc).trans h5
          · obtain ⟨b0,h0,_⟩:=live i bi hi
            exact h6 i b0 h0 ei
      · by_cases ei:i=k
        · rw [if_pos ei] at h1;exact absurd rfl h1
        · by_cases ej:j=k
          · rw [if_pos ej] at h2;exact absurd rfl h2
          · rw [if_neg ei] at h1
            rw [if_neg ej] at h2
            exact hF.apart i j b h1 h2
    frame:=hr.frame,big:=hr.big,os:=hr.os,tape:=hr.tape,output:=hr.output }
theorem LWP.openRes {e:TypeId} {cs:List CV} {R:Rsc} (hroot:∀ ρ H,R.holds ρ H→∃ vals el fr,H ρ.1=some (.cells vals el fr)∧vals.size=ρ.2)
    (h:∀ (ρ:Nat×Nat) (H:Nat→Option Obj) (vals:Array Value) (el:TypeId) (fr:Nat×Nat),R.holds ρ H→H ρ.1=some (.cells vals el fr)→OwnedM C X H→LWP P n C c Q ⟨s,(k,some ⟨el,vals.toList.map .val,false⟩)::bx,joinM X (cutM H ρ.1)⟩):
    LWP P n C c Q ⟨s,(k,some ⟨e,cs,.res R⟩)::bx,X⟩:=by
  refine ⟨fun ι a w hr => ?_⟩
  obtain ⟨ρ,H,vals,el,fr,h1,h2,h3,h4⟩:=hr.openRes hroot
  exact (h ρ H vals el fr h1 h2 h3).out ι a w h4
theorem Rel.closeRes {ι:Nat→Nat×Nat} {a:Act} {w:World} {el:TypeId} {vals:List Value} {H:Nat→Option Obj} {R:Rsc} (hO:OwnedM C X H)
    (hR:∀ (ρ:Nat×Nat) (fr:Nat×Nat),H ρ.1=none→X ρ.1=none→ρ.2=vals.length→R.holds ρ (withBlock H ρ.1 (.cells vals.toArray el fr)))
    (hr:Rel n C ι ⟨s,(k,some ⟨el,vals.map .val,false⟩)::bx,joinM X H⟩ a w):
    Rel n C ι ⟨s,(k,some ⟨0,[],.res R⟩)::bx,X⟩ a w:=by
  obtain ⟨F,hF⟩:=hr.res
  have hk:(⟨s,(k,some ⟨el,vals.map .val,false⟩)::bx,joinM X H⟩:St).stat k=some (some ⟨el,vals.map .val,false⟩):=by rw [stat_hd,if_pos rfl]
  obtain ⟨arr,fr,harr,hth,hsz,hbr⟩:=hr.boxes k _ hk rfl
  have hav:arr.toList=vals:=rel_vals hbr
  have hav2:arr=vals.toArray:=by rw [← hav]
  obtain ⟨hkown,hkX⟩:=hr.own k _ hk
  obtain ⟨hkH,hkX⟩:=joinM_none hkX
  have hlater:=later_hd (s:=s) (bx:=bx) (k:=k) ι ⟨el,vals.map .val,false⟩ ⟨0,[],.res R⟩ (joinM X H) X
  have live:∀ j b,(⟨s,(k,some ⟨0,[],.res R⟩)::bx,X⟩:St).stat j=some (some b)→∃ b0,(⟨s,(k,some ⟨el,vals.map .val,false⟩)::bx,joinM X H⟩:St).stat j=some (some b0)∧(j≠k→b=b0):=fun j b hj=>by
    rw [stat_hd] at hj ⊢
    by_cases e:j=k
    · rw [if_pos e];exact ⟨_,rfl,fun h=>absurd e h⟩
    · rw [if_neg e] at hj ⊢;exact ⟨b,hj,fun _=>rfl⟩
  have hroots:∀ j b,(⟨s,(k,some ⟨el,vals.map .val,false⟩)::bx,joinM X H⟩:St).stat j=some (some b)→H (ι j).1=none∧X (ι j).1=none:=fun j b hj=>joinM_none (hr.own j b hj).2
  exact {
    defers:=hr.defers,size:=hr.size
    slots:=fun d lv hd=>by
      obtain ⟨v,hv,hvr⟩:=hr.slots d lv hd
      exact ⟨v,hv,LV.rel_later hlater hvr⟩
    boxes:=fun j b hj hbk=>by
      by_cases ej:j=k
      · subst ej
        rw [stat_hd,if_pos rfl] at hj
        simp only [Option.some.injEq] at hj
        subst hj
        cases hbk
      · obtain ⟨b0,h0,h1⟩:=live j b hj
        have:=h1 ej
        subst this
        obtain ⟨arr',fr',g1,g2,g3,g4⟩:=hr.boxes j b h0 hbk
        exact ⟨arr',fr',g1,g2,g3,Box.rel_later hlater g4⟩
    own:=fun j b hj=>by
      obtain ⟨b0,h0,_⟩:=live j b hj
      exact ⟨(hr.own j b0 h0).1,(hroots j b0 h0).2⟩
    inj:=fun i j bi bj hi hj he=>by
      obtain ⟨b1,h1,_⟩:=live i bi hi
      obtain ⟨b2,h2,_⟩:=live j bj hj
      exact hr.inj i j b1 b2 h1 h2 he
    keep:=fun j b hj hge=>by obtain ⟨b0,h0,_⟩:=live j b hj;exact hr.keep j b0 h0 hge
    ext:=fun b o hb=>by
      have hb:X b=some o:=hb
      have hH:H b=none:=by
        cases hc:H b with
        | none=>rfl
        | some o'=>have:=(hO.own b o' hc).2.2;rw [hb] at this;cases this
      exact hr.ext b o ((joinM_out hH).trans hb)
    res:=by
      have hG:∀ b o,withBlock H (ι k).1 (.cells vals.toArray el fr) b=some o→w.heap[b]? = some o∧Loose o∧(C.own b∨C.w0.heap.size≤b)∧X b=none∧(b=(ι k).1∨H b=some o):=fun b o hb=>by
        unfold withBlock at hb
        split at hb
        · rename_i e
          cases hb
          subst e
          refine ⟨by rw [← hav2];exact harr,by rw [← hav2];exact hth,hkown,hkX,.inl rfl⟩
        · obtain ⟨h1,h2,h3⟩:=hO.own b o hb
          exact ⟨hr.ext b o (joinM_in hb),h2,h1,h3,.inr hb⟩
      have hFX:∀ j b,F j b≠none→H b=none∧X b=none∧b≠(ι k).1:=fun j b hb=>by
        cases ho:F j b with
        | none=>exact absurd ho hb
        | some o =>
          obtain ⟨h1,_,_,_,h5,h6⟩:=hF.mem j b o ho
          obtain ⟨h7,h8⟩:=joinM_none h5
          refine ⟨h7,h8,fun e => ?_⟩
          have:=h6 k _ hk e.symm
          subst this
          obtain ⟨_,_,_,h9⟩:=h1
          rw [hk] at h9
          cases h9
      refine ⟨fun j=>open Classical in if j=k then withBlock H (ι k).1 (.cells vals.toArray el fr) else F j,fun j e' cs' R' hj => ?_,fun j b o ho => ?_,fun i j b h1 h2 => ?_⟩
      · rw [stat_hd] at hj
        by_cases ej:j=k
        · rw [if_pos ej] at hj
          cases hj
          rw [if_pos ej,ej]
          exact ⟨hR (ι k) fr hkH hkX (by rw [← hsz,← Array.length_toList,hav]),by rw [withBlock_at];simp⟩
        · rw [if_neg ej] at hj
          rw [if_neg ej]
          exact hF.holds j e' cs' R' (by rw [stat_hd,if_neg ej];exact hj)
      · by_cases ej:j=k
        · rw [if_pos ej] at ho
          obtain ⟨h1,h2,h3,h4,h5⟩:=hG b o ho
          refine ⟨⟨0,[],R,by rw [stat_hd,if_pos ej]⟩,h1,h2,h3,h4,fun i bi hi ei => ?_⟩
          obtain ⟨b0,h0,_⟩:=live i bi hi
          rw [ej]
          rcases h5 with h5|h5
          · exact hr.inj i k b0 _ h0 hk (by rw [ei,h5])
          · have:=(hroots i b0 h0).1;rw [ei,h5] at this;cases this
        · rw [if_neg ej] at ho
          obtain ⟨⟨e1,cs1,R1,h1⟩,h2,h3,h4,h5,h6⟩:=hF.mem j b o ho
          refine ⟨⟨e1,cs1,R1,by rw [stat_hd,if_neg ej];rw [stat_hd,if_neg ej] at h1;exact h1⟩,h2,h3,h4,(joinM_none h5).2,fun i bi hi ei => ?_⟩
          obtain ⟨b0,h0,_⟩:=live i bi hi
          exact h6 i b0 h0 ei
      · by_cases ei:i=k
        · by_cases ej:j=k
          · rw [ei,ej]
          · rw [if_pos ei] at h1
            rw [if_neg ej] at h2
            obtain ⟨h3,_,h5⟩:=hFX j b h2
            cases ho:withBlock H (ι k).1 (.cells vals.toArray el fr) b with
            | none=>exact absurd ho h1
            | some o =>
              rcases (hG b o ho).2.2.2.2 with h6|h6
              · exact absurd h6 h5
              · rw [h3] at h6;cases h6
        · by_cases ej:j=k
          · rw [if_neg ei] at h1
            rw [if_pos ej] at h2
            obtain ⟨h3,_,h5⟩:=hFX i b h1
            cases ho:withBlock H (ι k).1 (.cells vals.toArray el fr) b with
            | none=>exact absurd ho h2
            | some o =>
              rcases (hG b o ho).2.2.2.2 with h6|h6
              · exact absurd h6 h5
              · rw [h3] at h6;cases h6
          · rw [if_neg ei] at h1
            rw [if_neg ej] at h2
            exact hF.apart i j b h1 h2
    frame:=hr.frame,big:=hr.big,os:=hr.os,tape:=hr.tape,output:=hr.output }
theorem LWP.closeRes {el:TypeId} {vals:List Value} {H:Nat→Option Obj} {R:Rsc} (hO:OwnedM C X H)
    (hR:∀ (ρ:Nat×Nat) (fr:Nat×Nat),H ρ.1=none→X ρ.1=none→ρ.2=vals.length→R.holds ρ (withBlock H ρ.1 (.cells vals.toArray el fr)))
    (h:LWP P n C c Q ⟨s,(k,some ⟨0,[],.res R⟩)::bx,X⟩):LWP P n C c Q ⟨s,(k,some ⟨el,vals.map .val,false⟩)::bx,joinM X H⟩:=
  ⟨fun ι a w hr=>h.out ι a w (hr.closeRes hO hR)⟩
theorem Leads.closeRes {Mid:St→Prop} {el:TypeId} {vals:List Value} {H:Nat→Option Obj} {R:Rsc} (hO:OwnedM C X H)
    (hR:∀ (ρ:Nat×Nat) (fr:Nat×Nat),H ρ.1=none→X ρ.1=none→ρ.2=vals.length→R.holds ρ (withBlock H ρ.1 (.cells vals.toArray el fr)))
    (h:Leads n C Mid ⟨s,(k,some ⟨0,[],.res R⟩)::bx,X⟩):Leads n C Mid ⟨s,(k,some ⟨el,vals.map .val,false⟩)::bx,joinM X H⟩:=
  ⟨fun ι a w hr=>h.out ι a w (hr.closeRes hO hR)⟩
theorem LWP.ends (h:LWP P n C c (fun e σ=>Leads n C (fun σ'=>Q e σ') σ) ⟨s,bx,X⟩):LWP P n C c Q ⟨s,bx,X⟩:=
  ⟨fun ι a w hr=>wp_mono (h.out ι a w hr) fun _ a' w' ⟨ι',σ',hl,hr'⟩=>by
    obtain ⟨ι2,σ2,hq,hr2⟩:=hl.out ι' a' w' hr'
    exact ⟨ι2,σ2,hq,hr2⟩⟩
end
end Go.Lg
end
section
namespace Go.Lg
open Go Go.RowKit
section
variable {P:Program} {n:Nat} {C:Ctx} {c:Code} {Q:Exit→St→Prop} {X:Nat→Option Obj} {s:List (Nat×LV)} {bx:List (Nat×Option Box)}
theorem Rel.thawName {ι:Nat→Nat×Nat} {a:Act} {w:World} {k blk:Nat} {el:TypeId} {vals:List Value} {arr:Array Value} {fr:Nat×Nat}
    (hX:X blk=none) (hF:Frozen C blk arr fr) (hsp:∃ sp,arr.toList=vals++sp)
    (hs:s.all (fun p=>p.2.inUse bx)=true) (hb:bx.all (fun p=>match p.2 with|some b=>b.cells.all (CV.inUse bx)|none=>true)=true) (hk:look k bx=none) (hlt:k<1000000)
    (hr:Rel n C ι ⟨s,bx,withBlock X blk (.cells arr el fr)⟩ a w):
    Rel n C (put1 ι k (blk,arr.size)) ⟨s,(k,some ⟨el,vals.map .val,true⟩)::bx,X⟩ a w:=by
  have hlk:∀ k' x,look k' bx=some x→k'≠k:=fun k' x h' e=>by rw [e,hk] at h';cases h'
  have hι:∀ k',k'≠k→put1 ι k (blk,arr.size) k'=ι k':=fun k' e=>by unfold put1;rw [if_neg e]
  have hιk:put1 ι k (blk,arr.size) k=(blk,arr.size):=by unfold put1;rw [if_pos rfl]
  have hst:∀ k' b,(⟨s,(k,some ⟨el,vals.map .val,true⟩)::bx,X⟩:St).stat k'=some (some b)→(k'=k∧b=⟨el,vals.map .val,true⟩)∨(k'≠k∧look k' bx=some (some b)):=fun k' b h'=>by
    rw [stat_hd] at h'
    by_cases e:k'=k
    · rw [if_pos e] at h'
      simp only [Option.some.injEq] at h'
      exact .inl ⟨e,h'.symm⟩
    · rw [if_neg e] at h';exact .inr ⟨e,h'⟩
  have hon:SameOn bx (⟨s,bx,withBlock X blk (.cells arr el fr)⟩:St).stat (⟨s,(k,some ⟨el,vals.map .val,true⟩)::bx,X⟩:St).stat:=fun k' x h'=>by
    rw [stat_hd,if_neg (hlk k' x h')];rfl
  have hmean:∀ {b:Box} {us:List Value},b.rel (⟨s,(k,some ⟨el,vals.map .val,true⟩)::bx,X⟩:St).stat ι us→b.cells.all (CV.inUse bx)=true→b.rel (⟨s,(k,some ⟨el,vals.map .val,true⟩)::bx,X⟩:St).stat (put1 ι k (blk,arr.size)) us:=fun {b us} h1 h2=>by
    unfold Box.rel at h1 ⊢
    cases hrow:b.row with
    | res R=>rw [hrow] at h1;exact h1.elim
    | bool r =>
      cases r with
      | false=>rw [hrow] at h1;exact CVs.rel_means (fun k' hk'=>hι k' (by obtain ⟨x,hx⟩:=Option.isSome_iff_exists.1 hk';exact hlk k' x hx)) h2 h1
      | true =>
        rw [hrow] at h1
        obtain ⟨us',sp,e,hl⟩:=h1
        exact ⟨us',sp,e,CVs.rel_means (fun k' hk'=>hι k' (by obtain ⟨x,hx⟩:=Option.isSome_iff_exists.1 hk';exact hlk k' x hx)) h2 hl⟩
  exact {
    defers:=hr.defers,size:=hr.size
    slots:=fun d' lv hd=>by
      obtain ⟨v',hv',hr'⟩:=hr.slots d' lv hd
      have hu:=List.all_eq_true.1 hs _ (look_mem hd)
      exact ⟨v',hv',LV.rel_means (fun k' hk'=>hι k' (by obtain ⟨x,hx⟩:=Option.isSome_iff_exists.1 hk';exact hlk k' x hx)) hu (LV.rel_on hon hu hr')⟩
    res:=by
      obtain ⟨F,hG⟩:=hr.res
      refine hG.keep (fun j e cs R hj => ?_) (fun _ _ _ _ _ hj=>hj) (fun _ _ ho=>ho) (fun b _ hx _ _ => ?_) (fun j bj hj => ?_)
      · rcases hst j _ hj with ⟨_,h2⟩|⟨hne,h2⟩
        · cases h2
        · exact ⟨h2,hι j hne⟩
      · have hx:withBlock X blk (.cells arr el fr) b=none:=hx
        unfold withBlock at hx
        split at hx
        · cases hx
        · exact hx
      · rcases hst j bj hj with ⟨rfl,_⟩|⟨hne,h2⟩
        · rw [hιk]
          refine .inr (.inr (.inr ?_))
          show withBlock X blk (.cells arr el fr) blk≠none
          rw [withBlock_at];simp
        · exact .inl ⟨bj,h2,by rw [hι j hne]⟩
    boxes:=fun k' b hb' hbk=>by
      rcases hst k' b hb' with ⟨rfl,rfl⟩|⟨hne,hb''⟩
      · rw [hιk]
        obtain ⟨sp,hsp⟩:=hsp
        exact ⟨arr,fr,hr.ext blk _ (withBlock_at _ _ _),hF.thaw,rfl,vals,sp,hsp,CVs.rel_map_val vals⟩
      · rw [hι k' hne]
        obtain ⟨arr',fr',h1,h2,h3,h4⟩:=hr.boxes k' b hb'' hbk
        have hu:b.cells.all (CV.inUse bx)=true:=by simpa using List.all_eq_true.1 hb _ (look_mem hb'')
        exact ⟨arr',fr',h1,h2,h3,hmean (Box.rel_on hon hu h4) hu⟩
    own:=fun k' b hb'=>by
      rcases hst k' b hb' with ⟨rfl,rfl⟩|⟨hne,hb''⟩
      · rw [hιk];exact ⟨hF.own,hX⟩
      · rw [hι k' hne]
        obtain ⟨h1,h2⟩:=hr.own k' b hb''
        refine ⟨h1,?_⟩
        have h2:withBlock X blk (.cells arr el fr) (ι k').1=none:=h2
        unfold withBlock at h2
        split at h2
        · cases h2
        · exact h2
    inj:=fun k1 k2 b1 b2 h1 h2 he=>by
      have hne:∀ k' b,look k' bx=some (some b)→(ι k').1≠blk:=fun k' b hb' e=>by
        have h2:withBlock X blk (.cells arr el fr) (ι k').1=none:=(hr.own k' b hb').2
        rw [e,withBlock_at] at h2
        cases h2
      rcases hst k1 b1 h1 with ⟨e1,_⟩|⟨n1,h1'⟩<;>rcases hst k2 b2 h2 with ⟨e2,_⟩|⟨n2,h2'⟩
      · rw [e1,e2]
      · rw [e1,hιk,hι k2 n2] at he;exact absurd he.symm (hne k2 b2 h2')
      · rw [e2,hιk,hι k1 n1] at he;exact absurd he (hne k1 b1 h1')
      · rw [hι k1 n1,hι k2 n2] at he;exact hr.inj k1 k2 b1 b2 h1' h2' he
    keep:=fun k' b hb' hge=>by
      rcases hst k' b hb' with ⟨e,_⟩|⟨hne,hb''⟩
      · omega
      · rw [hι k' hne];exact hr.keep k' b hb'' hge
    ext:=fun b o hbo=>hr.ext b o (withBlock_old hX b o hbo)
    frame:=hr.frame,big:=hr.big,os:=hr.os,tape:=hr.tape,output:=hr.output }
theorem rel_swap {S:Nat→Option (Option Box)} {ι:Nat→Nat×Nat} {c':CV} {v:Value} (hc:c'.rel S ι v):∀ {A B:List CV} {vs:List Value},CVs.rel S ι (A ++ .val v::B) vs→CVs.rel S ι (A++c'::B) vs
  | [],_,u::_,h=>⟨by have:=h.1;simp only [CV.rel] at this;rw [this];exact hc,h.2⟩
  | [],_,[],h=>h.elim
  | _::A,_,_::_,h=>⟨h.1,rel_swap hc (A:=A) h.2⟩
  | _::_,_,[],h=>h.elim
theorem Rel.recell {ι:Nat→Nat×Nat} {a:Act} {w:World} {j:Nat} {el2:TypeId} {A B:List CV} {v:Value} {c':CV} {row2:Bool}
    (hc:c'.rel (⟨s,(j,some ⟨el2,A++c'::B,row2⟩)::bx,X⟩:St).stat ι v)
    (hr:Rel n C ι ⟨s,(j,some ⟨el2,A ++ .val v::B,row2⟩)::bx,X⟩ a w):Rel n C ι ⟨s,(j,some ⟨el2,A++c'::B,row2⟩)::bx,X⟩ a w:=by
  have hlater:=later_hd (s:=s) (bx:=bx) (k:=j) ι ⟨el2,A ++ .val v::B,row2⟩ ⟨el2,A++c'::B,row2⟩ X X
  have live:∀ i b,(⟨s,(j,some ⟨el2,A++c'::B,row2⟩)::bx,X⟩:St).stat i=some (some b)→∃ b0,(⟨s,(j,some ⟨el2,A ++ .val v::B,row2⟩)::bx,X⟩:St).stat i=some (some b0)∧(i≠j→b=b0):=fun i b hi=>by
    rw [stat_hd] at hi ⊢
    by_cases e:i=j
    · rw [if_pos e];exact ⟨_,rfl,fun h=>absurd e h⟩
    · rw [if_neg e] at hi ⊢;exact ⟨b,hi,fun _=>rfl⟩
  exact {
    defers:=hr.defers,size:=hr.size
    slots:=fun d lv hd=>by
      obtain ⟨v,hv,hvr⟩:=hr.slots d lv hd
      exact ⟨v,hv,LV.rel_later hlater hvr⟩
    boxes:=fun i b hi hbk=>by
      by_cases e:i=j
      · subst e
        rw [stat_hd,if_pos rfl] at hi
        simp only [Option.some.injEq] at hi
        subst hi
        obtain ⟨arr,fr,g1,g2,g3,g4⟩:=hr.boxes i ⟨el2,A ++ .val v::B,row2⟩ (by rw [stat_hd,if_pos rfl]) rfl
        refine ⟨arr,fr,g1,g2,g3,?_⟩
        have g5:=Box.rel_later hlater g4
        unfold Box.rel at g5 ⊢
        cases row2 with
        | false=>exact rel_swap hc g5
        | true =>
          obtain ⟨us,sp,e,hl⟩:=g5
          exact ⟨us,sp,e,rel_swap hc hl⟩
      · obtain ⟨b0,h0,h1⟩:=live i b hi
        have:=h1 e
        subst this
        obtain ⟨arr,fr,g1,g2,g3,g4⟩:=hr.boxes i b h0 hbk
        exact ⟨arr,fr,g1,g2,g3,Box.rel_later hlater g4⟩
    own:=fun i b hi=>by obtain ⟨b0,h0,_⟩:=live i b hi;exact hr.own i b0 h0
    inj:=fun i i' bi bj hi hj he=>by
      obtain ⟨b1,h1,_⟩:=live i bi hi
      obtain ⟨b2,h2,_⟩:=live i' bj hj
      exact hr.inj i i' b1 b2 h1 h2 he
    keep:=fun i b hi hge=>by obtain ⟨b0,h0,_⟩:=live i b hi;exact hr.keep i b0 h0 hge
    ext:=hr.ext
    res:=by
      obtain ⟨F,hG⟩:=hr.res
      refine hG.keep (fun i e cs R hi => ?_) (fun _ _ _ _ _ hi=>hi) (fun _ _ ho=>ho) (fun b _ hx _ _=>hx) (fun i bi hi => ?_)
      · rw [stat_hd] at hi ⊢
        by_cases e:i=j
        · rw [if_pos e] at hi;cases hi
        · rw [if_neg e] at hi ⊢;exact ⟨hi,rfl⟩
      · obtain ⟨b0,h0,_⟩:=live i bi hi
        exact .inl ⟨b0,h0,rfl⟩
    frame:=hr.frame,big:=hr.big,os:=hr.os,tape:=hr.tape,output:=hr.output }
theorem LWP.thawCell {j k off len sz blk cap:Nat} {el el2:TypeId} {A B:List CV} {row2:Bool} {vals:List Value} {arr:Array Value} {fr:Nat×Nat}
    (hX:X blk=none) (hF:Frozen C blk arr fr) (hc:len≤cap) (hfit:off+cap*sz≤arr.size) (hsp:∃ sp,arr.toList=vals++sp)
    (hs:s.all (fun p=>p.2.inUse ((j,some ⟨el2,A ++ .val (.slice (some ⟨blk,off,none⟩) len cap)::B,row2⟩)::bx))=true)
    (hb:((j,some (⟨el2,A ++ .val (.slice (some ⟨blk,off,none⟩) len cap)::B,row2⟩:Box))::bx).all (fun p=>match p.2 with|some b=>b.cells.all (CV.inUse ((j,some ⟨el2,A ++ .val (.slice (some ⟨blk,off,none⟩) len cap)::B,row2⟩)::bx))|none=>true)=true)
    (hk:look k bx=none) (hjk:Nat.beq j k=false) (hlt:Nat.blt k 1000000=true)
    (h:LWP P n C c Q ⟨s,(j,some ⟨el2,A ++ .slc k off len sz::B,row2⟩)::(k,some ⟨el,vals.map .val,true⟩)::bx,X⟩):
    LWP P n C c Q ⟨s,(j,some ⟨el2,A ++ .val (.slice (some ⟨blk,off,none⟩) len cap)::B,row2⟩)::bx,withBlock X blk (.cells arr el fr)⟩:=by
  have hjk':k≠j:=fun e=>by rw [e,Nat.beq_refl] at hjk;cases hjk
  refine ⟨fun ι a w hr => ?_⟩
  have h1:=hr.thawName (k:=k) hX hF hsp hs hb (by simp only [look,hjk,cond_false];exact hk) (by rw [Nat.blt_eq] at hlt;exact hlt)
  have h2:Rel n C (put1 ι k (blk,arr.size)) ⟨s,(j,some ⟨el2,A ++ .val (.slice (some ⟨blk,off,none⟩) len cap)::B,row2⟩)::(k,some ⟨el,vals.map .val,true⟩)::bx,X⟩ a w:=by
    refine h1.same ⟨fun _=>rfl,fun i => ?_,rfl⟩
    simp only [St.stat,look]
    cases e1:Nat.beq j i with
    | false=>rfl
    | true =>
      cases e2:Nat.beq k i with
      | false=>rfl
      | true=>exact absurd ((Nat.eq_of_beq_eq_true e2).trans (Nat.eq_of_beq_eq_true e1).symm) hjk'
  refine h.out _ a w (h2.recell ?_)
  simp only [CV.rel]
  rw [stat_hd,if_neg hjk']
  simp only [look,show Nat.beq k k=true from Nat.beq_refl k,cond_true]
  unfold put1
  rw [if_pos rfl]
  exact ⟨cap,rfl,hc,hfit⟩
theorem LWP.freezeCell {j k off len sz:Nat} {el el2:TypeId} {A B:List CV} {row2:Bool} {vals:List Value} {row:Bool}
    (hs:s.all (fun p=>p.2.inUse ((j,none)::bx))=true) (hA:A.all (CV.inUse ((j,none)::bx))=true) (hB:B.all (CV.inUse ((j,none)::bx))=true) (hb:bx.all (fun p=>match p.2 with|some b=>b.cells.all (CV.inUse ((j,none)::bx))|none=>true)=true) (hk:look k bx=none) (hjk:Nat.beq j k=false)
    (h:∀ (blk cap:Nat) (arr:Array Value) (fr:Nat×Nat),X blk=none→Frozen C blk arr fr→len≤cap→off+cap*sz≤arr.size→(∃ sp,arr.toList=vals++sp) →
      LWP P n C c Q ⟨s,(j,some ⟨el2,A ++ .val (.slice (some ⟨blk,off,none⟩) len cap)::B,row2⟩)::bx,withBlock X blk (.cells arr el fr)⟩):
    LWP P n C c Q ⟨s,(j,some ⟨el2,A ++ .slc k off len sz::B,row2⟩)::(k,some ⟨el,vals.map .val,row⟩)::bx,X⟩:=⟨fun ι a w hr=>by
  obtain ⟨blk,cap,arr,fr,h1,h2,h3,h4,h5,h6⟩:=hr.freezeCell hs hA hB hb hk hjk
  exact (h blk cap arr fr h1 h2 h3 h4 h5).out ι a w h6⟩
end
end Go.Lg
end
