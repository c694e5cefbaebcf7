/- A piece of a proof over this program: contracts of its functions, and a logic to prove them by. -/
import Derived.Test.YtjifibloagkeeaaGreatQ1
import Derived.Test.YtjifibloagkeeaaGreatQ2
import Derived.Test.YtjifibloagkeeaaGreatQ3
import Derived.Deep.Strs
import Derived.SizedLaws
import Derived.Test.YtjifibloagkeeaaGreatRows
import Derived.Lib.Strings
import Derived.Lib.TrimByte
section
namespace Go.Lg
open Go Go.RowKit
section
variable {P:Program} {n:Nat} {ops os:List Oper} {acc:List Eff} {K:List Eff→St→Prop} {s:List (Nat×LV)} {bx:List (Nat×Option Box)} {X:Nat→Option Obj}
theorem kmv {d:Nat} {x:Operand} {ty:TypeId} {pos:String} {after:Array Edge} {lv:LV} (hx:(⟨s,bx,X⟩:St).ev x=some lv) (kont:RunK P n ops os ⟨(d,lv)::s,bx,X⟩ (⟨[(d,lv)],[],[]⟩::acc) K):
    RunK P n ops (⟨some d,.move x,ty,pos,after,none⟩::os) ⟨s,bx,X⟩ acc K:=Go.Lg.K.move hx .plain kont
theorem gmv {d:Nat} {x:Operand} {ty:TypeId} {pos:String} {after:Array Edge} {lv:LV} (hx:(⟨s,bx,X⟩:St).ev x=some lv) {gj gt:Nat} {gb:Bool} (g1:(ops[gj]?).bind (·.dst)=some gt) (g2:look gt s=some (.sv (.one (.val (.bool gb))))) (kont:RunK P n ops os ⟨(d,lv)::s,bx,X⟩ (⟨[(d,lv)],[],[]⟩::acc) K):
    RunK P n ops (⟨some d,.move x,ty,pos,after,some (gj,gb)⟩::os) ⟨s,bx,X⟩ acc K:=Go.Lg.K.move hx (.taken g1 g2) kont
theorem kas {d:Nat} {x:Operand} {ty:TypeId} {pos:String} {after:Array Edge} {lv:LV} (hx:(⟨s,bx,X⟩:St).ev x=some lv) (kont:RunK P n ops os ⟨(d,lv)::s,bx,X⟩ (⟨[(d,lv)],[],[]⟩::acc) K):
    RunK P n ops (⟨some d,.assign x,ty,pos,after,none⟩::os) ⟨s,bx,X⟩ acc K:=Go.Lg.K.assign hx .plain kont
theorem kpt {d:Nat} {c x y:Operand} {ty:TypeId} {pos:String} {after:Array Edge} {lv:LV} (hc:(⟨s,bx,X⟩:St).ev c=some (.sv (.one (.val (.bool true))))) (hx:(⟨s,bx,X⟩:St).ev x=some lv) (kont:RunK P n ops os ⟨(d,lv)::s,bx,X⟩ (⟨[(d,lv)],[],[]⟩::acc) K):
    RunK P n ops (⟨some d,.pick c x y,ty,pos,after,none⟩::os) ⟨s,bx,X⟩ acc K:=Go.Lg.K.pickT hc hx .plain kont
theorem kpf {d:Nat} {c x y:Operand} {ty:TypeId} {pos:String} {after:Array Edge} {lv:LV} (hc:(⟨s,bx,X⟩:St).ev c=some (.sv (.one (.val (.bool false))))) (hy:(⟨s,bx,X⟩:St).ev y=some lv) (kont:RunK P n ops os ⟨(d,lv)::s,bx,X⟩ (⟨[(d,lv)],[],[]⟩::acc) K):
    RunK P n ops (⟨some d,.pick c x y,ty,pos,after,none⟩::os) ⟨s,bx,X⟩ acc K:=Go.Lg.K.pickF hc hy .plain kont
theorem kex {s0:List (Nat×LV)} {d:Nat} {x:Operand} {i:Nat} {ty:TypeId} {pos:String} {after:Array Edge} {l:List SV} {s:SV} (hx:(⟨s0,bx,X⟩:St).ev x=some (.tup l)) (hi:l[i]? = some s) (kont:RunK P n ops os ⟨(d,.sv s)::s0,bx,X⟩ (⟨[(d,.sv s)],[],[]⟩::acc) K):
    RunK P n ops (⟨some d,.extract x i,ty,pos,after,none⟩::os) ⟨s0,bx,X⟩ acc K:=Go.Lg.K.extract hx hi .plain kont
theorem kad {d:Nat} {t:TypeId} {t':TypeId} {x:Operand} {y:Operand} {ty:TypeId} {pos:String} {after:Array Edge} {k:IntKind} {a:Int} {b:Int} {c:Int} (hx:(⟨s,bx,X⟩:St).ev x=some (.sv (.one (.val (.int k a))))) (hy:(⟨s,bx,X⟩:St).ev y=some (.sv (.one (.val (.int k b))))) (hc:k.wrap (a+b)=c) (kont:RunK P n ops os ⟨(d,.sv (.one (.val (.int k c))))::s,bx,X⟩ (⟨[(d,.sv (.one (.val (.int k c))))],[],[]⟩::acc) K):
    RunK P n ops (⟨some d,.binOp .add t x y t',ty,pos,after,none⟩::os) ⟨s,bx,X⟩ acc K:=Go.Lg.K.add hx hy hc .plain kont
theorem keq {d:Nat} {t:TypeId} {t':TypeId} {x:Operand} {y:Operand} {ty:TypeId} {pos:String} {after:Array Edge} {k:IntKind} {a:Int} {b:Int} {r:Bool} (hx:(⟨s,bx,X⟩:St).ev x=some (.sv (.one (.val (.int k a))))) (hy:(⟨s,bx,X⟩:St).ev y=some (.sv (.one (.val (.int k b))))) (hc:(a==b)=r) (kont:RunK P n ops os ⟨(d,.sv (.one (.val (.bool r))))::s,bx,X⟩ (⟨[(d,.sv (.one (.val (.bool r))))],[],[]⟩::acc) K):
    RunK P n ops (⟨some d,.binOp .eql t x y t',ty,pos,after,none⟩::os) ⟨s,bx,X⟩ acc K:=Go.Lg.K.eql hx hy hc .plain kont
theorem kne {d:Nat} {t:TypeId} {t':TypeId} {x:Operand} {y:Operand} {ty:TypeId} {pos:String} {after:Array Edge} {k:IntKind} {a:Int} {b:Int} {r:Bool} (hx:(⟨s,bx,X⟩:St).ev x=some (.sv (.one (.val (.int k a))))) (hy:(⟨s,bx,X⟩:St).ev y=some (.sv (.one (.val (.int k b))))) (hc:(a != b)=r) (kont:RunK P n ops os ⟨(d,.sv (.one (.val (.bool r))))::s,bx,X⟩ (⟨[(d,.sv (.one (.val (.bool r))))],[],[]⟩::acc) K):
    RunK P n ops (⟨some d,.binOp .neq t x y t',ty,pos,after,none⟩::os) ⟨s,bx,X⟩ acc K:=Go.Lg.K.neq hx hy hc .plain kont
theorem klt {d:Nat} {t:TypeId} {t':TypeId} {x:Operand} {y:Operand} {ty:TypeId} {pos:String} {after:Array Edge} {k:IntKind} {a:Int} {b:Int} {r:Bool} (hx:(⟨s,bx,X⟩:St).ev x=some (.sv (.one (.val (.int k a))))) (hy:(⟨s,bx,X⟩:St).ev y=some (.sv (.one (.val (.int k b))))) (hc:decide (a<b)=r) (kont:RunK P n ops os ⟨(d,.sv (.one (.val (.bool r))))::s,bx,X⟩ (⟨[(d,.sv (.one (.val (.bool r))))],[],[]⟩::acc) K):
    RunK P n ops (⟨some d,.binOp .lss t x y t',ty,pos,after,none⟩::os) ⟨s,bx,X⟩ acc K:=Go.Lg.K.lss hx hy hc .plain kont
theorem kse {d:Nat} {t:TypeId} {t':TypeId} {x:Operand} {y:Operand} {ty:TypeId} {pos:String} {after:Array Edge} {r:Bool} {p q:ByteArray} (hx:(⟨s,bx,X⟩:St).ev x=some (.sv (.one (.val (.string p))))) (hy:(⟨s,bx,X⟩:St).ev y=some (.sv (.one (.val (.string q))))) (hc:(p.toList==q.toList)=r) (kont:RunK P n ops os ⟨(d,.sv (.one (.val (.bool r))))::s,bx,X⟩ (⟨[(d,.sv (.one (.val (.bool r))))],[],[]⟩::acc) K):
    RunK P n ops (⟨some d,.binOp .eql t x y t',ty,pos,after,none⟩::os) ⟨s,bx,X⟩ acc K:=Go.Lg.K.strEq hx hy hc .plain kont
theorem kca {d:Nat} {f:FuncId} {args:List Operand} {tys:Array TypeId} {ty:TypeId} {pos:String} {after:Array Edge} {lvs:List LV} {r:LV} (hargs:evs ⟨s,bx,X⟩ args=some lvs) (hcl:lvs.all LV.closed=true) (hs:PSpec P X f lvs r) (kont:RunK P n ops os ⟨(d,r)::s,bx,X⟩ (⟨[(d,r)],[],[]⟩::acc) K):
    RunK P n ops (⟨some d,.call ⟨.value (.func f),args.toArray,tys⟩,ty,pos,after,none⟩::os) ⟨s,bx,X⟩ acc K:=Go.Lg.K.call hargs hcl hs .plain kont
theorem gca {d:Nat} {f:FuncId} {args:List Operand} {tys:Array TypeId} {ty:TypeId} {pos:String} {after:Array Edge} {lvs:List LV} {r:LV} (hargs:evs ⟨s,bx,X⟩ args=some lvs) (hcl:lvs.all LV.closed=true) (hs:PSpec P X f lvs r) {gj gt:Nat} {gb:Bool} (g1:(ops[gj]?).bind (·.dst)=some gt) (g2:look gt s=some (.sv (.one (.val (.bool gb))))) (kont:RunK P n ops os ⟨(d,r)::s,bx,X⟩ (⟨[(d,r)],[],[]⟩::acc) K):
    RunK P n ops (⟨some d,.call ⟨.value (.func f),args.toArray,tys⟩,ty,pos,after,some (gj,gb)⟩::os) ⟨s,bx,X⟩ acc K:=Go.Lg.K.call hargs hcl hs (.taken g1 g2) kont
theorem kl1 {d:Nat} {t:TypeId} {x:Operand} {ty:TypeId} {pos:String} {after:Array Edge} {k off:Nat} {e:TypeId} {cs:List CV} {row:Bool} {c:CV} [i:OneT P t] (hx:(⟨s,bx,X⟩:St).ev x=some (.sv (.one (.ptr k off)))) (hk:(⟨s,bx,X⟩:St).stat k=some (some ⟨e,cs,row⟩)) (hc:cs[off]? = some c) (kont:RunK P n ops os ⟨(d,.sv (.one c))::s,bx,X⟩ (⟨[(d,.sv (.one c))],[k],[]⟩::acc) K):
    RunK P n ops (⟨some d,.load t x,ty,pos,after,none⟩::os) ⟨s,bx,X⟩ acc K:=Go.Lg.K.loadOne hx hk hc .plain kont
theorem kfa {d:Nat} {t:TypeId} {x:Operand} {ty:TypeId} {pos:String} {after:Array Edge} {i k off o m:Nat} [f:FieldT P t i o m] (hx:(⟨s,bx,X⟩:St).ev x=some (.sv (.one (.ptr k off)))) {off':Nat} (ho:Nat.add off o=off') (kont:RunK P n ops os ⟨(d,.sv (.one (.ptr k off')))::s,bx,X⟩ (⟨[(d,.sv (.one (.ptr k off')))],[],[]⟩::acc) K):
    RunK P n ops (⟨some d,.fieldAddr t x i,ty,pos,after,none⟩::os) ⟨s,bx,X⟩ acc K:=Go.Lg.K.fieldAddr hx ho .plain kont
theorem kln {d:Nat} {t:TypeId} {x:Operand} {ty:TypeId} {pos:String} {after:Array Edge} {s0:List (Nat×LV)} {s:ByteArray} [StrT P t] (hx:(⟨s0,bx,X⟩:St).ev x=some (.sv (.one (.val (.string s))))) (kont:RunK P n ops os ⟨(d,.sv (.one (.val (.int .i64 s.size))))::s0,bx,X⟩ (⟨[(d,.sv (.one (.val (.int .i64 s.size))))],[],[]⟩::acc) K):
    RunK P n ops (⟨some d,.call ⟨.builtin .len,#[x],#[t]⟩,ty,pos,after,none⟩::os) ⟨s0,bx,X⟩ acc K:=Go.Lg.K.lenStr hx .plain kont
theorem kcv {d:Nat} {t:TypeId} {t':TypeId} {x:Operand} {ty:TypeId} {pos:String} {after:Array Edge} {k k':IntKind} {a c:Int} {ks:IntKind} [i:IntT P t ks] [i':IntT P t' k'] (hx:(⟨s,bx,X⟩:St).ev x=some (.sv (.one (.val (.int k a))))) (hc:k'.wrap a=c) (kont:RunK P n ops os ⟨(d,.sv (.one (.val (.int k' c))))::s,bx,X⟩ (⟨[(d,.sv (.one (.val (.int k' c))))],[],[]⟩::acc) K):
    RunK P n ops (⟨some d,.convert t t' x,ty,pos,after,none⟩::os) ⟨s,bx,X⟩ acc K:=Go.Lg.K.conv hx hc .plain kont
end
section
variable {P:Program} {n:Nat} {C:Ctx} {Q:Exit→St→Prop} {σ:St} {id:Nat} {ops:List Oper}
theorem rgN (h:RunK P n ops ops σ [] fun _ σ'=>Q .normal σ') (hd:dstsOK n ops=true:=by kernel_rfl):LWP P n C (.region id ops.toArray false) Q σ:=LWP.region hd h
theorem rgD (hm:P.follows .mixedOrders=true) (h:RunK P n ops ops σ [] fun es σ'=>check ops es=true∧Q .normal σ') (hd:dstsOK n ops=true:=by kernel_rfl):LWP P n C (.region id ops.toArray true) Q σ:=LWP.draws hm hd h
theorem rgA {a b:Prop} (h:b) (ha:a:=by kernel_rfl):a∧b:=⟨ha,h⟩
end
end Go.Lg
end
section
namespace Go.Lg
open Go Go.RowKit
section
variable {P:Program} {n:Nat} {ops os:List Oper} {acc:List Eff} {K:List Eff→St→Prop} {s:List (Nat×LV)} {bx:List (Nat×Option Box)} {X:Nat→Option Obj} {σ:St}
theorem LOK.cutLoSlc {d k off len sz l:Nat} {t:TypeId} {x y:Operand} {ty:TypeId} {pos:String} {after_:Array Edge} {g:Option (Nat×Bool)} {kh:IntKind} (hx:σ.ev x=some (.sv (.one (.slc k off len sz)))) (hy:σ.ev y=some (.sv (.one (.val (.int kh (l:Nat))))))
    (ht:sliceOf P t=some sz) (hl:l<len):LOK P n ops ⟨some d,.slice t x (some y) none none,ty,pos,after_,g⟩ σ ⟨[(d,.sv (.one (.slc k (off+l*sz) (len-l) sz)))],[],[]⟩:=
  LOK.value fun σ' ha C ι a w hr=>by
    have h1:=hr.ev ((ha.ev (x:=x) (by simp [Op.operands])).trans hx)
    have h2:a.eval y = .int kh (l:Nat):=hr.ev ((ha.ev (x:=y) (by simp [Op.operands])).trans hy)
    obtain ⟨e,hu,hsz⟩:=sliceOf_spec ht
    have hrun:∀ b c:Nat,len≤c→(Instr.sliceAt t (.slice (some ⟨b,off,none⟩) len c) (some (.int kh (l:Nat))) none none).run P w = .ok (.slice (some ⟨b,off+l*sz,none⟩) (len-l) (c-l)) w:=by
      intro b c hc
      have ha0:(⟨b,off,none⟩:Addr).add (l*sz)=⟨b,off+l*sz,none⟩:=addr_add _ _ _
      simp [Instr.sliceAt,Instr.slice,run_underlying hu,Instr.sliceBounds,Instr.sliceBound,asIntOf,hsz,ha0]
      rw [if_pos (by omega)]
      have e:¬ c=l:=by omega
      simp [e]
    simp only [LV.rel,SV.rel,CV.rel] at h1 ⊢
    cases hk:σ'.stat k with
    | none=>simp [hk] at h1
    | some bb =>
      cases bb with
      | none =>
        simp only [hk] at h1 ⊢
        obtain ⟨b,c,h1,h3⟩:=h1
        exact ⟨_,by simp only [execOp,h1,h2,Option.map_none,Option.map_some,Sem.run_bind,hrun b c h3,Result.andThen_ok,Sem.run_pure],b,c-l,rfl,by omega⟩
      | some b =>
        simp only [hk] at h1 ⊢
        obtain ⟨c,h1,h3,h4⟩:=h1
        refine ⟨_,by simp only [execOp,h1,h2,Option.map_none,Option.map_some,Sem.run_bind,hrun _ c h3,Result.andThen_ok,Sem.run_pure],c-l,rfl,by omega,?_⟩
        have:l*sz+(c-l)*sz=c*sz:=by rw [← Nat.add_mul];congr 1;omega
        omega
theorem K.cutLoSlc {d k off len sz l off' len':Nat} {t:TypeId} {x y:Operand} {ty:TypeId} {pos:String} {after_:Array Edge} {g:Option (Nat×Bool)} {kh:IntKind} (hx:(⟨s,bx,X⟩:St).ev x=some (.sv (.one (.slc k off len sz)))) (hy:(⟨s,bx,X⟩:St).ev y=some (.sv (.one (.val (.int kh (l:Nat))))))
    (ht:sliceOf P t=some sz) (hl:l<len) (ho:off+l*sz=off') (hn:len-l=len') (hw:Want ops s g) (kont:RunK P n ops os ⟨(d,.sv (.one (.slc k off' len' sz)))::s,bx,X⟩ (⟨[(d,.sv (.one (.slc k off' len' sz)))],[],[]⟩::acc) K):
    RunK P n ops (⟨some d,.slice t x (some y) none none,ty,pos,after_,g⟩::os) ⟨s,bx,X⟩ acc K:=by
  subst ho hn
  exact RunK.g1 (LOK.cutLoSlc hx hy ht hl) hw kont
theorem LOK.clearSlc {k off len sz bytes:Nat} {t e el:TypeId} {x:Operand} {ty:TypeId} {pos:String} {after_:Array Edge} {g:Option (Nat×Bool)} {cells cs':List CV} {row:Bool} {z:List Value}
    (hx:σ.ev x=some (.sv (.one (.slc k off len sz)))) (hk:σ.stat k=some (some ⟨el,cells,row⟩)) (hM:MadeOf P t e sz bytes z) (hone:z.all Value.oneCell'=true) (hm:off+len*sz≤cells.length) (h0:0<len) (hc:splice cells off ((List.replicate len z).flatten.map .val)=cs'):
    LOK P n ops ⟨none,.call ⟨.builtin .clear,#[x],#[t]⟩,ty,pos,after_,g⟩ σ ⟨[],[],[(k,some ⟨el,cs',row⟩)]⟩:=
  LOK.actV fun σ' ha C ι a w hr=>by
    subst hc
    have hk':=(ha.stat k (.inr (by simp))).trans hk
    have h1:=hr.ev ((ha.ev (x:=x) (by simp [Op.operands,Call.operands])).trans hx)
    simp only [LV.rel,SV.rel,CV.rel,hk'] at h1
    obtain ⟨c,h1,hlc,hcs⟩:=h1
    obtain ⟨arr,fr,harr,hthaw,hasz,hrel⟩:=hr.boxes k _ hk' rfl
    obtain ⟨hu,hi,hl⟩:=hM
    have hfl:(List.replicate len z).flatten.length=len*sz:=by
      rw [List.length_flatten,List.map_replicate,List.sum_replicate_nat,hl]
    have hbl:off+(List.replicate len z).flatten.length≤arr.size:=by
      have:=(Box.rel_part hrel (off:=off) (m:=len*sz) (by simpa using hm)).1
      simp at this
      rw [hfl];omega
    have hones:∀ v∈(List.replicate len z).flatten,v.oneCell'=true:=fun v hv=>by
      obtain ⟨l,hl1,hv⟩:=List.mem_flatten.1 hv
      rw [(List.mem_replicate.1 hl1).2] at hv
      exact List.all_eq_true.1 hone v hv
    cases hie:P.info? e with
    | none=>rw [hie] at hi;cases hi
    | some ie =>
      rw [hie] at hi
      simp only [Option.map_some,Option.some.injEq,Prod.mk.injEq] at hi
      obtain ⟨e1,e2,e3⟩:=hi
      cases hz:ie.zero with
      | none=>rw [hz] at e2;cases e2
      | some zv =>
        rw [hz] at e2
        simp only [Option.map_some,Option.some.injEq] at e2
        have hzc:(Builtin.zeroCells zv.cells len).toList=(List.replicate len z).flatten:=by
          unfold Builtin.zeroCells
          have:=range_flat (z:=z.toArray) (sz:=sz) (by simpa using hl) len
          simp only at this
          rw [e2,Array.toList_map,Array.toList_range]
          simpa [hl] using this
        have hst:=run_storeCells_at (P:=P) hthaw (List.replicate len z).flatten off 0 arr w rfl harr (by simpa using hbl) hones
        simp only [Nat.add_zero] at hst
        have hzr:(zeroValue e).run P w = .ok zv w:=by simp [zeroValue,typeInfo,hie,hz]
        have hrun:(Builtin.clear_ #[t] ty #[.slice (some ⟨(ι k).1,off,none⟩) len c]).run P w = .ok (.tuple #[]) (w.setRow (ι k).1 (splice arr.toList off (List.replicate len z).flatten).toArray):=by
          obtain ⟨m,rfl⟩:∃ m,len=m+1:=⟨len-1,by omega⟩
          simp [Builtin.clear_,run_underlying hu,hzr,hzc,hst,Result.andThen]
          simp [splice]
        refine ⟨.tuple #[],w.setRow (ι k).1 (splice arr.toList off (List.replicate len z).flatten).toArray,ι,by simp [execOp,resolve,invoke,builtin,h1,hrun,Result.andThen],?_⟩
        exact hr.write hk' rfl rfl (b':=⟨el,splice cells off ((List.replicate len z).flatten.map .val),row⟩) (by rw [← hasz];unfold splice;simp at hbl ⊢;omega) (Box.rel_splice (b:=⟨el,cells,row⟩) hrel (CVs.rel_map_val _) (by rw [List.length_map,hfl];exact hm))
theorem K.clearSlc {k off len sz bytes:Nat} {t e el:TypeId} {x:Operand} {ty:TypeId} {pos:String} {after_:Array Edge} {g:Option (Nat×Bool)} {cells cs':List CV} {row:Bool} {z:List Value}
    (hx:(⟨s,bx,X⟩:St).ev x=some (.sv (.one (.slc k off len sz)))) (hk:(⟨s,bx,X⟩:St).stat k=some (some ⟨el,cells,row⟩)) (hM:MadeOf P t e sz bytes z) (hone:z.all Value.oneCell'=true) (hm:off+len*sz≤cells.length) (h0:0<len) (hc:splice cells off ((List.replicate len z).flatten.map .val)=cs') (hw:Want ops s g)
    (kont:RunK P n ops os ⟨s,(k,some ⟨el,cs',row⟩)::bx,X⟩ (⟨[],[],[(k,some ⟨el,cs',row⟩)]⟩::acc) K):
    RunK P n ops (⟨none,.call ⟨.builtin .clear,#[x],#[t]⟩,ty,pos,after_,g⟩::os) ⟨s,bx,X⟩ acc K:=RunK.g3 (LOK.clearSlc hx hk hM hone hm h0 hc) hw kont
end
end Go.Lg
end
section
namespace Go.Lg
open Go Go.RowKit
theorem O.{u} {α : Sort u} {a : α} : a = a := rfl
abbrev dP := @Want.plain
abbrev dQ := @Want.taken
abbrev aA := @LWP.seq
abbrev aB := @RunK.nil
abbrev aC := @RunK.passed
abbrev aD := @RunK.passedU
abbrev aE := @LWP.condT
abbrev aF := @LWP.condF
abbrev aG := @LWP.block
abbrev aH := @LWP.skip
abbrev aI := @LWP.ret
abbrev aJ := @LWP.exit
abbrev aK := @K.loadAll
abbrev aL := @K.box
abbrev aM := @K.storeAll
abbrev aN := @K.fieldAddr
abbrev aO := @K.loadOne
abbrev aP := @K.alloc
abbrev aQ := @K.lenX
abbrev aR := @K.indexX
abbrev aS := @K.gtr
abbrev aT := @K.build
abbrev aU := @K.callM
abbrev aV := @K.not
abbrev aW := @K.loadX
abbrev aX := @K.neq
abbrev aY := @K.loadXagg
abbrev aZ := @K.buildSlc
abbrev bA := @K.sub
abbrev bB := @K.indexStr
abbrev bC := @K.eql
abbrev bD := @K.geq
abbrev bE := @K.callMp
abbrev bF := @K.pickT
abbrev bG := @K.storeOne
abbrev bH := @K.fieldAddrX
abbrev bI := @K.nilCheck
abbrev bJ := @K.loadPart
abbrev bK := @K.lss
abbrev bL := @K.mul
abbrev bM := @K.shr
abbrev bN := @K.pickF
abbrev bO := @K.appendSlc
abbrev bQ := @K.convStr
abbrev bR := @all_cons_true
abbrev bS := @vals_inUse
abbrev bT := @bytes_inUse
abbrev bU := @mid_inUse
abbrev bV := @Box.ren_bytes
abbrev bW := @Box.ren_vals
abbrev bX := @Box.ren_mid
abbrev bY := @SliceT.h
abbrev bZ := @Leads.done
abbrev cA := @Leads.le
abbrev cD := @PSpec.intro
abbrev cE := @MSpec.intro
abbrev cF := @wrap_i64
abbrev cG := @withBlock_old
abbrev cH := @LWP.loop
abbrev cJ := @LWP.loopL
abbrev cK := @withBlock_at
abbrev cL := @decide_eq_false
abbrev cN := @decide_eq_true
abbrev cO := @And.intro
theorem cP {α : Type} [BEq α] [LawfulBEq α] {x y : α} (h : x ≠ y) : (x == y) = false := beq_eq_false_iff_ne.2 h
theorem cQ {α : Type} [BEq α] [LawfulBEq α] {x y : α} (h : x = y) : (x != y) = false := bne_eq_false_iff_eq.2 h
theorem cR {α : Type} [BEq α] [LawfulBEq α] {x y : α} (h : x ≠ y) : (x != y) = true := bne_iff_ne.2 h
theorem cS {α : Type} [BEq α] [LawfulBEq α] {x y : α} (h : x = y) : (x == y) = true := beq_iff_eq.2 h
abbrev cU := @List.length_append
abbrev cV := @List.length_map
abbrev cW := @List.getElem?_eq_getElem
abbrev cX := @List.length_singleton
abbrev cY := @List.length_take
abbrev cZ := @List.length_drop
abbrev dB := @List.mem_of_getElem?
abbrev dC := @List.length_replicate
abbrev dD := @List.take_length
abbrev dE := @Int.toNat_natCast
abbrev dF := @List.map_append
abbrev dG := @List.length_cons
abbrev dH := @List.append_nil
abbrev dJ := @List.getElem?_map
abbrev dK := @List.append_assoc
abbrev dL := @Nat.le_refl
abbrev dM := @List.length_nil
abbrev dO := @List.getElem?_append_left
end Go.Lg
end
section
namespace Go.Lg
open Go
def RowsIn (X:Nat→Option Obj) (ad:Option Addr) (sz:Nat) (rows:List (List Value)):Prop:=
  ∀ i r,rows[i]? = some r→∃ (blk off:Nat) (arr:Array Value) (el:TypeId) (fr:Nat×Nat),ad=some ⟨blk,off,none⟩∧X blk=some (.cells arr el fr)∧off+i*sz+sz≤arr.size∧(arr.toList.drop (off+i*sz)).take sz=r
theorem RowsIn.mono {X Y:Nat→Option Obj} {ad:Option Addr} {sz:Nat} {rows:List (List Value)} (h:RowsIn X ad sz rows) (hm:∀ b o,X b=some o→Y b=some o):RowsIn Y ad sz rows:=fun i r hi=>by
  obtain ⟨blk,off,arr,el,fr,h1,h2,h3,h4⟩:=h i r hi
  exact ⟨blk,off,arr,el,fr,h1,hm _ _ h2,h3,h4⟩
theorem flat_row {sz:Nat}:∀ {rows:List (List Value)} (_:∀ r∈rows,r.length=sz) {sp:List Value} {i:Nat} {r:List Value} (_:rows[i]? = some r),i*sz+sz≤(rows.flatten++sp).length∧((rows.flatten++sp).drop (i*sz)).take sz=r
  | [],_,_,i,r,h=>by simp at h
  | r0::rows,hl,sp,0,r,h=>by
    simp only [List.getElem?_cons_zero,Option.some.injEq] at h
    subst h
    have h0:=hl r0 (by simp)
    simp only [List.flatten_cons,List.append_assoc,List.length_append,Nat.zero_mul,List.drop_zero]
    refine ⟨by omega,?_⟩
    rw [← h0,List.take_left]
  | r0::rows,hl,sp,i+1,r,h=>by
    have h0:=hl r0 (by simp)
    obtain ⟨h1,h2⟩:=flat_row (rows:=rows) (fun x hx=>hl x (by simp [hx])) (sp:=sp) (i:=i) (r:=r) (by simpa using h)
    simp only [List.flatten_cons,List.append_assoc,List.length_append] at h1 ⊢
    have e:(i+1)*sz=i*sz+sz:=by rw [Nat.add_mul,Nat.one_mul]
    refine ⟨by omega,?_⟩
    rw [e,Nat.add_comm,← List.drop_drop,← h0,List.drop_left,h0]
    exact h2
theorem rows_frozen {X:Nat→Option Obj} {blk:Nat} {arr:Array Value} {el:TypeId} {fr:Nat×Nat} {sz:Nat} {rows:List (List Value)} (hl:∀ r∈rows,r.length=sz) (hsp:∃ sp,arr.toList=rows.flatten++sp):
    RowsIn (withBlock X blk (.cells arr el fr)) (some ⟨blk,0,none⟩) sz rows:=fun i r hi=>by
  obtain ⟨sp,e⟩:=hsp
  obtain ⟨h1,h2⟩:=flat_row hl (sp:=sp) hi
  refine ⟨blk,0,arr,el,fr,rfl,withBlock_at _ _ _,?_,?_⟩
  · rw [← Array.length_toList,e];omega
  · rw [e,Nat.zero_add];exact h2
end Go.Lg
namespace Go.Lg.Fld
open Go Go.Lg
end Go.Lg.Fld
end
section
namespace Go.Lg
open Go Go.RowKit Go.ChangeShapes Go.WideShapes Go.Joins
section
variable {H:Type} {enc:TypeId×Value→H} {P:Program} {w:World}
theorem cells_row {a:Addr} {sz:Nat} {cs:List Value} (hs:a.spot=none) (hsz:1≤sz) {i:Nat} (hl:cs.length=sz) (h:∀ j,j<sz→w.cell? ((a.add (i*sz)).add j)=cs[j]?):
    ∃ (arr:Array Value) (el:TypeId) (fr:Nat×Nat),w.heap[a.block]? = some (.cells arr el fr)∧a.off+i*sz+sz≤arr.size∧(arr.toList.drop (a.off+i*sz)).take sz=cs:=by
  obtain ⟨b,o,sp⟩:=a
  simp only at hs
  subst hs
  have h2:∀ j,j<sz→∃ u,cs[j]? = some u∧w.cell? ((⟨b,o,none⟩:Addr).add (i*sz+j))=some u:=fun j hj=>by
    have h3:=h j hj
    rw [Deep.add_add] at h3
    rw [List.getElem?_eq_getElem (by omega)] at h3
    exact ⟨_,List.getElem?_eq_getElem (by omega),h3⟩
  obtain ⟨u0,_,h0⟩:=h2 0 (by omega)
  obtain ⟨arr,el,fr,hh,_⟩:=cell_at (a:=⟨b,o,none⟩) rfl h0
  have hall:∀ j,j<sz→arr[o+(i*sz+j)]? = cs[j]? := fun j hj=>by
    obtain ⟨u,hu,hc⟩:=h2 j hj
    obtain ⟨arr',el',fr',hh',hc'⟩:=cell_at (a:=⟨b,o,none⟩) rfl hc
    rw [hh] at hh'
    cases hh'
    rw [hu];exact hc'
  have hlast:o+(i*sz+(sz-1))<arr.size:=by
    have h3:=hall (sz-1) (by omega)
    rw [List.getElem?_eq_getElem (by omega)] at h3
    exact (Array.getElem?_eq_some_iff.1 h3).1
  refine ⟨arr,el,fr,hh,by show o+i*sz+sz≤arr.size;omega,?_⟩
  apply List.ext_getElem?
  intro j
  rw [List.getElem?_take]
  by_cases hj:j<sz
  · rw [if_pos hj,List.getElem?_drop,Array.getElem?_toList,← hall j hj]
    show arr[o+i*sz+j]? = _
    rw [Nat.add_assoc]
  · rw [if_neg hj,List.getElem?_eq_none (by omega)]
theorem open_rows {r:Reach} {b0:Nat} {t e:TypeId} {sz:Nat} {v:Value} {d:DataW H} {p:List MemPlace} (ht:P.underlying t=some (.slice e)) (hc:P.cellsOf e=sz) (hsz:1≤sz) (hv:Value.okWide P w r b0 t v) (h:DataW.Trod enc P w 0 (fun _=>true) true t v d p):
    ∃ (ad:Option Addr) (cap:Nat) (rows:List (List Value)),v = .slice ad rows.length cap∧rows.length≤cap∧cap≤maxLen∧RowsIn (fun b=>w.heap[b]?) ad sz rows ∧
      (∀ u,u∈rows→u.length=sz∧∃ (n:Nat) (x:DataW H×List MemPlace),DataW.trod enc P w 0 (fun _=>true) true n e u=some x) ∧
      ∀ by_ B:Nat,(∀ elems spare,d = .slice elems spare→(elems.length+spare.length)*by_≤B)→rows.length*by_≤B:=by
  obtain ⟨a,len,cap,rfl⟩:=okWide_slice ht hv
  obtain ⟨fuel,hf⟩:=h
  rcases Deep.open_slice ht hf with ⟨h0,_⟩|⟨a',len',cap',m,n,D,Pl,h0,hb,hl,hm,hmm,hd,hx⟩
  · simp [Value.cells] at h0
    obtain ⟨rfl,rfl,rfl⟩:=h0
    exact ⟨none,0,[],rfl,Nat.le_refl _,Nat.zero_le _,fun i r h=>by simp at h,fun u hu=>by simp at hu,fun by_ B _=>by simp⟩
  · simp [Value.cells] at h0
    obtain ⟨rfl,rfl,rfl⟩:=h0
    rw [if_pos rfl] at hmm
    subst hmm
    rw [hc] at hx
    have hch:∃ f:Nat→List Value,∀ i,i<m→w.cells? 0 (a'.add (i*sz)) sz=some (f i)∧DataW.trod enc P w 0 (fun _=>true) true n e (f i)=some (D i,Pl i):=by
      refine ⟨fun i=>if hi:i<m then (hx i hi).choose else [],fun i hi => ?_⟩
      simp only [dif_pos hi]
      exact (hx i hi).choose_spec
    obtain ⟨f,hf2⟩:=hch
    refine ⟨some a',m,(List.range len).map f,by rw [List.length_map,List.length_range],by rw [List.length_map,List.length_range];exact hl,hm,?_,?_,?_⟩
    · intro i u hi
      have hi2:i<len:=by
        have:=(List.getElem?_eq_some_iff.1 hi).1
        simpa using this
      have e:u=f i:=by
        rw [List.getElem?_map,List.getElem?_range hi2] at hi
        simpa using hi.symm
      subst e
      have hspot:a'.spot=none:=by
        obtain ⟨h1,_⟩:=hf2 0 (by omega)
        obtain ⟨_,hlen,hcell⟩:=World.cells?_some h1
        have e0:=hcell 0 (by omega)
        rw [Deep.add_add,Nat.zero_mul,Nat.zero_add] at e0
        rw [List.getElem?_eq_getElem (by omega)] at e0
        exact spot_none e0
      obtain ⟨h1,_⟩:=hf2 i (by omega)
      obtain ⟨_,hlen,hcell⟩:=World.cells?_some h1
      obtain ⟨arr,el,fr,hh,hsz2,htk⟩:=cells_row hspot hsz hlen hcell
      refine ⟨a'.block,a'.off,arr,el,fr,?_,hh,hsz2,htk⟩
      obtain ⟨b,o,sp⟩:=a'
      simp only at hspot
      subst hspot
      rfl
    · intro u hu
      obtain ⟨i,hi,rfl⟩:=List.mem_map.1 hu
      have hi:=List.mem_range.1 hi
      obtain ⟨h1,h2⟩:=hf2 i (by omega)
      exact ⟨(World.cells?_some h1).2.1,n,_,h2⟩
    · intro by_ B hB
      have hd1:=congrArg Prod.fst hd
      have h:=hB _ _ hd1
      simp only [List.length_map,List.length_range] at h ⊢
      exact Nat.le_trans (Nat.mul_le_mul_right _ (by omega)) h
end
end Go.Lg
end
section
namespace Go.Lg
open Go Go.RowKit Go.ChangeShapes Go.WideShapes Go.Joins
section
variable {H:Type} {enc:TypeId×Value→H} {P:Program} {w:World}
theorem open_rows_l {t e:TypeId} {sz fuel:Nat} {l:List Value} {x:DataW H×List MemPlace} (ht:P.underlying t=some (.slice e)) (hc:P.cellsOf e=sz) (hsz:1≤sz) (hf:DataW.trod enc P w 0 (fun _=>true) true fuel t l=some x):
    ∃ (ad:Option Addr) (cap:Nat) (rows:List (List Value)),l=[.slice ad rows.length cap]∧rows.length≤cap∧cap≤maxLen∧RowsIn (fun b=>w.heap[b]?) ad sz rows ∧
      ∀ u,u∈rows→u.length=sz∧∃ (n:Nat) (x:DataW H×List MemPlace),DataW.trod enc P w 0 (fun _=>true) true n e u=some x:=by
  rcases Deep.open_slice ht hf with ⟨h0,_⟩|⟨a',len',cap',m,n,D,Pl,h0,hb,hl,hm,hmm,hd,hx⟩
  · exact ⟨none,0,[],h0,Nat.le_refl _,Nat.zero_le _,fun i r h=>by simp at h,fun u hu=>by simp at hu⟩
  · rw [if_pos rfl] at hmm
    subst hmm
    rw [hc] at hx
    have hch:∃ f:Nat→List Value,∀ i,i<m→w.cells? 0 (a'.add (i*sz)) sz=some (f i)∧DataW.trod enc P w 0 (fun _=>true) true n e (f i)=some (D i,Pl i):=by
      refine ⟨fun i=>if hi:i<m then (hx i hi).choose else [],fun i hi => ?_⟩
      simp only [dif_pos hi]
      exact (hx i hi).choose_spec
    obtain ⟨f,hf2⟩:=hch
    refine ⟨some a',m,(List.range len').map f,by rw [List.length_map,List.length_range];exact h0,by rw [List.length_map,List.length_range];exact hl,hm,?_,?_⟩
    · intro i u hi
      have hi2:i<len':=by
        have:=(List.getElem?_eq_some_iff.1 hi).1
        simpa using this
      have e:u=f i:=by
        rw [List.getElem?_map,List.getElem?_range hi2] at hi
        simpa using hi.symm
      subst e
      have hspot:a'.spot=none:=by
        obtain ⟨h1,_⟩:=hf2 0 (by omega)
        obtain ⟨_,hlen,hcell⟩:=World.cells?_some h1
        have e0:=hcell 0 (by omega)
        rw [Deep.add_add,Nat.zero_mul,Nat.zero_add] at e0
        rw [List.getElem?_eq_getElem (by omega)] at e0
        exact spot_none e0
      obtain ⟨h1,_⟩:=hf2 i (by omega)
      obtain ⟨_,hlen,hcell⟩:=World.cells?_some h1
      obtain ⟨arr,el,fr,hh,hsz2,htk⟩:=cells_row hspot hsz hlen hcell
      refine ⟨a'.block,a'.off,arr,el,fr,?_,hh,hsz2,htk⟩
      obtain ⟨b,o,sp⟩:=a'
      simp only at hspot
      subst hspot
      rfl
    · intro u hu
      obtain ⟨i,hi,rfl⟩:=List.mem_map.1 hu
      have hi:=List.mem_range.1 hi
      obtain ⟨h1,h2⟩:=hf2 i (by omega)
      exact ⟨(World.cells?_some h1).2.1,n,_,h2⟩
end
end Go.Lg
end
section
namespace Go.Proofs.YtjifibloagkeeaaGreat
open Go Go.Lg
theorem mixed:Tryz.prog.follows .mixedOrders=true:=by kernel_rfl
instance:OneT Tryz.prog 3:=⟨by kernel_rfl⟩
instance:IntT Tryz.prog 3 .i64:=⟨by kernel_rfl⟩
instance:OneT Tryz.prog 4:=⟨by kernel_rfl⟩
instance:BoolT Tryz.prog 4:=⟨by kernel_rfl⟩
instance:OneT Tryz.prog 5:=⟨by kernel_rfl⟩
instance:IntT Tryz.prog 5 .u8:=⟨by kernel_rfl⟩
instance:OneT Tryz.prog 9:=⟨by kernel_rfl⟩
instance:StrT Tryz.prog 9:=⟨by kernel_rfl⟩
instance:OneT Tryz.prog 22:=⟨by kernel_rfl⟩
instance:SliceT Tryz.prog 22 3:=⟨by kernel_rfl⟩
instance:ZeroT Tryz.prog 24 [(.val (.int .i64 0)),(.val (.slice none 0 0))]:=⟨by kernel_rfl⟩
instance:AggT Tryz.prog 24 2:=⟨by kernel_rfl⟩
instance:FieldT Tryz.prog 24 0 0 0:=⟨by kernel_rfl⟩
instance:FieldT Tryz.prog 24 1 1 0:=⟨by kernel_rfl⟩
instance:StructT Tryz.prog 24 [(.int .i64 0),(.slice none 0 0)] [(0,1),(1,1)]:=⟨by kernel_rfl⟩
instance:SliceT Tryz.prog 25 5:=⟨by kernel_rfl⟩
instance:OneT Tryz.prog 34:=⟨by kernel_rfl⟩
instance:OneT Tryz.prog 35:=⟨by kernel_rfl⟩
instance:SliceT Tryz.prog 40 1:=⟨by kernel_rfl⟩
instance:OneT Tryz.prog 42:=⟨by kernel_rfl⟩
instance:OneT Tryz.prog 48:=⟨by kernel_rfl⟩
instance:SliceT Tryz.prog 48 1:=⟨by kernel_rfl⟩
instance:OneT Tryz.prog 49:=⟨by kernel_rfl⟩
instance:SliceT Tryz.prog 49 3:=⟨by kernel_rfl⟩
instance:FieldT Tryz.prog 51 0 0 1:=⟨by kernel_rfl⟩
instance:FieldT Tryz.prog 51 1 2 0:=⟨by kernel_rfl⟩
instance:FieldT Tryz.prog 51 2 3 0:=⟨by kernel_rfl⟩
instance:FieldT Tryz.prog 51 3 4 0:=⟨by kernel_rfl⟩
instance:StructT Tryz.prog 51 [(.int .i64 0),(.slice none 0 0),(.int .i64 0),(.slice none 0 0),(.slice none 0 0)] [(0,2),(2,1),(3,1),(4,1)]:=⟨by kernel_rfl⟩
instance:ZeroT Tryz.prog 53 [(.val (.int .i64 0)),(.val (.int .u32 0)),(.val (.int .i64 0)),(.val (.int .i64 0)),(.val (.bool false))]:=⟨by kernel_rfl⟩
instance:AggT Tryz.prog 53 5:=⟨by kernel_rfl⟩
instance:FieldT Tryz.prog 53 0 0 0:=⟨by kernel_rfl⟩
instance:FieldT Tryz.prog 53 1 1 0:=⟨by kernel_rfl⟩
instance:FieldT Tryz.prog 53 2 2 0:=⟨by kernel_rfl⟩
instance:FieldT Tryz.prog 53 3 3 0:=⟨by kernel_rfl⟩
instance:FieldT Tryz.prog 53 4 4 0:=⟨by kernel_rfl⟩
instance:AggT Tryz.prog 58 3:=⟨by kernel_rfl⟩
instance:FieldT Tryz.prog 58 0 0 0:=⟨by kernel_rfl⟩
instance:FieldT Tryz.prog 58 1 1 0:=⟨by kernel_rfl⟩
instance:FieldT Tryz.prog 58 2 2 0:=⟨by kernel_rfl⟩
instance:StructT Tryz.prog 58 [(.int .i64 0),(.int .i64 0),(.bool false)] [(0,1),(1,1),(2,1)]:=⟨by kernel_rfl⟩
instance:OneT Tryz.prog 60:=⟨by kernel_rfl⟩
instance:IntT Tryz.prog 60 .u64:=⟨by kernel_rfl⟩
instance:OneT Tryz.prog 67:=⟨by kernel_rfl⟩
instance:SliceT Tryz.prog 67 3:=⟨by kernel_rfl⟩
instance:ZeroT Tryz.prog 69 [(.val (.int .i64 0)),(.val (.string ⟨#[]⟩)),(.val (.slice none 0 0))]:=⟨by kernel_rfl⟩
instance:AggT Tryz.prog 69 3:=⟨by kernel_rfl⟩
instance:FieldT Tryz.prog 69 0 0 0:=⟨by kernel_rfl⟩
instance:FieldT Tryz.prog 69 1 1 0:=⟨by kernel_rfl⟩
instance:FieldT Tryz.prog 69 2 2 0:=⟨by kernel_rfl⟩
instance:StructT Tryz.prog 69 [(.int .i64 0),(.string ⟨#[]⟩),(.slice none 0 0)] [(0,1),(1,1),(2,1)]:=⟨by kernel_rfl⟩
instance:OneT Tryz.prog 72:=⟨by kernel_rfl⟩
instance:OneT Tryz.prog 73:=⟨by kernel_rfl⟩
instance:SliceT Tryz.prog 73 1:=⟨by kernel_rfl⟩
instance:ZeroT Tryz.prog 75 [(.val (.int .i64 0)),(.val (.slice none 0 0)),(.val (.int .i64 0)),(.val (.int .i64 0)),(.val (.slice none 0 0)),(.val (.map none))]:=⟨by kernel_rfl⟩
instance:AggT Tryz.prog 75 6:=⟨by kernel_rfl⟩
instance:FieldT Tryz.prog 75 0 0 1:=⟨by kernel_rfl⟩
instance:FieldT Tryz.prog 75 1 2 0:=⟨by kernel_rfl⟩
instance:FieldT Tryz.prog 75 2 3 0:=⟨by kernel_rfl⟩
instance:FieldT Tryz.prog 75 3 4 0:=⟨by kernel_rfl⟩
instance:FieldT Tryz.prog 75 4 5 0:=⟨by kernel_rfl⟩
instance:StructT Tryz.prog 75 [(.int .i64 0),(.slice none 0 0),(.int .i64 0),(.int .i64 0),(.slice none 0 0),(.map none)] [(0,2),(2,1),(3,1),(4,1),(5,1)]:=⟨by kernel_rfl⟩
instance:OneT Tryz.prog 77:=⟨by kernel_rfl⟩
instance:ZeroT Tryz.prog 79 [(.val (.string ⟨#[]⟩)),(.val (.int .i64 0)),(.val (.int .i64 0))]:=⟨by kernel_rfl⟩
instance:AggT Tryz.prog 79 3:=⟨by kernel_rfl⟩
instance:FieldT Tryz.prog 79 0 0 0:=⟨by kernel_rfl⟩
instance:FieldT Tryz.prog 79 1 1 0:=⟨by kernel_rfl⟩
instance:FieldT Tryz.prog 79 2 2 0:=⟨by kernel_rfl⟩
instance:OneT Tryz.prog 81:=⟨by kernel_rfl⟩
instance:SliceT Tryz.prog 81 1:=⟨by kernel_rfl⟩
instance:ZeroT Tryz.prog 86 [(.val (.int .i64 0)),(.val (.int .i64 0)),(.val (.bool false))]:=⟨by kernel_rfl⟩
instance:AggT Tryz.prog 86 3:=⟨by kernel_rfl⟩
instance:FieldT Tryz.prog 86 0 0 0:=⟨by kernel_rfl⟩
instance:FieldT Tryz.prog 86 1 1 0:=⟨by kernel_rfl⟩
instance:FieldT Tryz.prog 86 2 2 0:=⟨by kernel_rfl⟩
instance:StructT Tryz.prog 86 [(.int .i64 0),(.int .i64 0),(.bool false)] [(0,1),(1,1),(2,1)]:=⟨by kernel_rfl⟩
instance:ZeroT Tryz.prog 97 [(.val (.int .i64 0)),(.val (.int .i64 0)),(.val (.bool false)),(.val (.int .i64 0)),(.val (.int .i64 0)),(.val (.bool false))]:=⟨by kernel_rfl⟩
instance:AggT Tryz.prog 97 6:=⟨by kernel_rfl⟩
instance:ArrT Tryz.prog 97 2 3:=⟨by kernel_rfl⟩
instance:SliceT Tryz.prog 98 2:=⟨by kernel_rfl⟩
instance:OneT Tryz.prog 100:=⟨by kernel_rfl⟩
instance:SliceT Tryz.prog 100 3:=⟨by kernel_rfl⟩
instance:ZeroT Tryz.prog 102 [(.val (.int .i64 0)),(.val (.slice none 0 0))]:=⟨by kernel_rfl⟩
instance:AggT Tryz.prog 102 2:=⟨by kernel_rfl⟩
instance:FieldT Tryz.prog 102 0 0 0:=⟨by kernel_rfl⟩
instance:FieldT Tryz.prog 102 1 1 0:=⟨by kernel_rfl⟩
instance:OneT Tryz.prog 106:=⟨by kernel_rfl⟩
instance:SliceT Tryz.prog 106 1:=⟨by kernel_rfl⟩
instance:OneT Tryz.prog 107:=⟨by kernel_rfl⟩
instance:SliceT Tryz.prog 107 1:=⟨by kernel_rfl⟩
instance:ZeroT Tryz.prog 109 [(.val (.int .u32 0)),(.val (.int .i64 0)),(.val (.int .i64 0)),(.val (.slice none 0 0)),(.val (.int .i64 0)),(.val (.slice none 0 0)),(.val (.slice none 0 0))]:=⟨by kernel_rfl⟩
instance:AggT Tryz.prog 109 7:=⟨by kernel_rfl⟩
instance:FieldT Tryz.prog 109 0 0 0:=⟨by kernel_rfl⟩
instance:FieldT Tryz.prog 109 1 1 0:=⟨by kernel_rfl⟩
instance:FieldT Tryz.prog 109 2 2 0:=⟨by kernel_rfl⟩
instance:FieldT Tryz.prog 109 3 3 0:=⟨by kernel_rfl⟩
instance:FieldT Tryz.prog 109 4 4 1:=⟨by kernel_rfl⟩
instance:FieldT Tryz.prog 109 5 6 0:=⟨by kernel_rfl⟩
instance:StructT Tryz.prog 109 [(.int .u32 0),(.int .i64 0),(.int .i64 0),(.slice none 0 0),(.int .i64 0),(.slice none 0 0),(.slice none 0 0)] [(0,1),(1,1),(2,1),(3,1),(4,2),(6,1)]:=⟨by kernel_rfl⟩
instance:OneT Tryz.prog 110:=⟨by kernel_rfl⟩
instance:StructT Tryz.prog 119 [(.int .i64 0),(.int .i64 0)] [(0,1),(1,1)]:=⟨by kernel_rfl⟩
instance:ZeroT Tryz.prog 123 [(.val (.int .i64 0)),(.val (.slice none 0 0))]:=⟨by kernel_rfl⟩
instance:AggT Tryz.prog 123 2:=⟨by kernel_rfl⟩
instance:FieldT Tryz.prog 123 0 0 0:=⟨by kernel_rfl⟩
instance:FieldT Tryz.prog 123 1 1 0:=⟨by kernel_rfl⟩
instance:StructT Tryz.prog 123 [(.int .i64 0),(.slice none 0 0)] [(0,1),(1,1)]:=⟨by kernel_rfl⟩
instance:ZeroT Tryz.prog 134 (List.replicate 32 (.val (.bool false))):=⟨by kernel_rfl⟩
instance:AggT Tryz.prog 134 32:=⟨by kernel_rfl⟩
instance:ArrT Tryz.prog 134 32 1:=⟨by kernel_rfl⟩
instance:OneT Tryz.prog 142:=⟨by kernel_rfl⟩
instance:SliceT Tryz.prog 142 1:=⟨by kernel_rfl⟩
instance:SliceT Tryz.prog 143 2:=⟨by kernel_rfl⟩
instance:ZeroT Tryz.prog 146 [(.val (.int .i64 0)),(.val (.int .i64 0))]:=⟨by kernel_rfl⟩
instance:AggT Tryz.prog 146 2:=⟨by kernel_rfl⟩
instance:FieldT Tryz.prog 146 0 0 0:=⟨by kernel_rfl⟩
instance:FieldT Tryz.prog 146 1 1 0:=⟨by kernel_rfl⟩
instance:StructT Tryz.prog 146 [(.int .i64 0),(.int .i64 0)] [(0,1),(1,1)]:=⟨by kernel_rfl⟩
instance:ZeroT Tryz.prog 149 [(.val (.bool false)),(.val (.int .u64 0)),(.val (.int .u64 0))]:=⟨by kernel_rfl⟩
instance:AggT Tryz.prog 149 3:=⟨by kernel_rfl⟩
instance:FieldT Tryz.prog 149 0 0 0:=⟨by kernel_rfl⟩
instance:FieldT Tryz.prog 149 1 1 0:=⟨by kernel_rfl⟩
instance:FieldT Tryz.prog 149 2 2 0:=⟨by kernel_rfl⟩
instance:StructT Tryz.prog 149 [(.bool false),(.int .u64 0),(.int .u64 0)] [(0,1),(1,1),(2,1)]:=⟨by kernel_rfl⟩
instance:OneT Tryz.prog 150:=⟨by kernel_rfl⟩
instance:SliceT Tryz.prog 150 1:=⟨by kernel_rfl⟩
instance:ZeroT Tryz.prog 152 [(.val (.int .i64 0)),(.val (.int .i64 0)),(.val (.int .i64 0)),(.val (.slice none 0 0))]:=⟨by kernel_rfl⟩
instance:AggT Tryz.prog 152 4:=⟨by kernel_rfl⟩
instance:FieldT Tryz.prog 152 0 0 0:=⟨by kernel_rfl⟩
instance:FieldT Tryz.prog 152 1 1 0:=⟨by kernel_rfl⟩
instance:FieldT Tryz.prog 152 2 2 0:=⟨by kernel_rfl⟩
instance:FieldT Tryz.prog 152 3 3 0:=⟨by kernel_rfl⟩
instance:StructT Tryz.prog 152 [(.int .i64 0),(.int .i64 0),(.int .i64 0),(.slice none 0 0)] [(0,1),(1,1),(2,1),(3,1)]:=⟨by kernel_rfl⟩
instance:ZeroT Tryz.prog 155 []:=⟨by kernel_rfl⟩
instance:AggT Tryz.prog 155 0:=⟨by kernel_rfl⟩
instance:StructT Tryz.prog 155 [] []:=⟨by kernel_rfl⟩
instance:ZeroT Tryz.prog 158 [(.val (.int .i64 0)),(.val (.int .i64 0)),(.val (.int .i64 0)),(.val (.int .i64 0)),(.val (.int .i64 0)),(.val (.int .i64 0)),(.val (.int .i64 0)),(.val (.int .i64 0)),(.val (.int .i64 0)),(.val (.int .i64 0)),(.val (.int .i64 0))]:=⟨by kernel_rfl⟩
instance:AggT Tryz.prog 158 11:=⟨by kernel_rfl⟩
instance:ArrT Tryz.prog 158 11 1:=⟨by kernel_rfl⟩
instance:OneT Tryz.prog 172:=⟨by kernel_rfl⟩
instance:FieldT Tryz.prog 174 0 0 0:=⟨by kernel_rfl⟩
instance:FieldT Tryz.prog 174 1 1 0:=⟨by kernel_rfl⟩
instance:StructT Tryz.prog 174 [(.pointer none),(.int .i64 0)] [(0,1),(1,1)]:=⟨by kernel_rfl⟩
instance:ZeroT Tryz.prog 180 [(.val (.string ⟨#[]⟩)),(.val (.int .i64 0)),(.val (.int .u64 0)),(.val (.int .u64 0))]:=⟨by kernel_rfl⟩
instance:AggT Tryz.prog 180 4:=⟨by kernel_rfl⟩
instance:StructT Tryz.prog 180 [(.string ⟨#[]⟩),(.int .i64 0),(.int .u64 0),(.int .u64 0)] [(0,1),(1,1),(2,1),(3,1)]:=⟨by kernel_rfl⟩
instance:FieldT Tryz.prog 186 0 0 0:=⟨by kernel_rfl⟩
instance:StructT Tryz.prog 186 [(.slice none 0 0)] [(0,1)]:=⟨by kernel_rfl⟩
instance:ZeroT Tryz.prog 194 [(.val (.int .u64 0)),(.val (.int .u64 0))]:=⟨by kernel_rfl⟩
instance:AggT Tryz.prog 194 2:=⟨by kernel_rfl⟩
instance:FieldT Tryz.prog 194 0 0 0:=⟨by kernel_rfl⟩
instance:FieldT Tryz.prog 194 1 1 0:=⟨by kernel_rfl⟩
instance:StructT Tryz.prog 194 [(.int .u64 0),(.int .u64 0)] [(0,1),(1,1)]:=⟨by kernel_rfl⟩
end Go.Proofs.YtjifibloagkeeaaGreat
end
section
namespace Go.Lg
open Go Go.RowKit
theorem strs_eq {p q:ByteArray} {r:Bool} (h:(p.data.toList==q.data.toList)=r):(p.toList==q.toList)=r:=by rw [ByteArray.toList_eq,ByteArray.toList_eq,h]
theorem str_at {l:List UInt8} {i:Nat} {b:UInt8} (h:l[i]? = some b):(⟨l.toArray⟩:ByteArray)[i]? = some b:=by
  obtain ⟨hi,h⟩:=List.getElem?_eq_some_iff.1 h
  have hs:i<(⟨l.toArray⟩:ByteArray).size:=by simpa [ByteArray.size] using hi
  rw [getElem?_pos _ i hs]
  exact congrArg some h
end Go.Lg
namespace Go.Proofs.YtjifibloagkeeaaGreat
open Go Go.Lg
abbrev Lb (b:Bool):LV:=.sv (.one (.val (.bool b)))
abbrev Ln (k:IntKind) (n:Int):LV:=.sv (.one (.val (.int k n)))
abbrev Ls (l:List UInt8):LV:=.sv (.one (.val (.string ⟨l.toArray⟩)))
abbrev Sb (b:Bool):SV:=.one (.val (.bool b))
abbrev Sn (k:IntKind) (n:Int):SV:=.one (.val (.int k n))
abbrev Ss (l:List UInt8):SV:=.one (.val (.string ⟨l.toArray⟩))
abbrev Lp (k:Nat):LV:=.sv (.one (.ptr k 0))
abbrev vs (l:List UInt8):CV:=.val (.string ⟨l.toArray⟩)
end Go.Proofs.YtjifibloagkeeaaGreat
end
section
namespace Go.Proofs.YtjifibloagkeeaaGreat
open Go Go.Lg
abbrev Li (b:Bool) (h l:Int):LV:=.sv (.agg [.val (.bool b),.val (.int .u64 h),.val (.int .u64 l)])
abbrev Lz (h l:Int):LV:=.sv (.agg [.val (.int .u64 h),.val (.int .u64 l)])
abbrev LI (b:Bool) (N:Int):LV:=Li b (N/18446744073709551616) (N%18446744073709551616)
abbrev LZ (N:Int):LV:=Lz (N/18446744073709551616) (N%18446744073709551616)
def In2 (N:Int):Prop:=0≤N∧N<340282366920938463463374607431768211456
variable (X:Nat→Option Obj)
theorem sizeOf_spec (b:Bool) (h l:Int):PSpec Tryz.prog X 113 [Li b h l] (Lz h l):=by
  refine cD Tryz.func113 rfl (by kernel_rfl) rfl rfl ?_
  intro C
  (refine aA<|rgN<|aL O O O dP<|aP O dP ?_;refine aB<|aA<|rgN<|kfa O O ?_;refine kl1 O O O<|kfa O O ?_;refine kl1 O O O<|aT O O (by exact O) (by exact nl2 O O O) dP ?_;refine aM O O O O O O dP ?_;refine aB<|aI ?_)
  exact ⟨[_],⟨⟨_,_,O,O,O,.inl ⟨AggT.h,O⟩⟩,trivial⟩,O⟩
theorem zero_spec (N:Int) (hN:In2 N) (r:Bool) (hr:(N==0)=r):PSpec Tryz.prog X 115 [LZ N] (Lb r):=by
  subst hr
  obtain ⟨h0,h1⟩:=hN
  refine cD Tryz.func115 rfl (by kernel_rfl) rfl rfl ?_
  intro C
  by_cases ha:N/18446744073709551616=0
  · by_cases hb:N%18446744073709551616=0
    · (refine aA<|rgN<|aL O O O dP<|kas O<|aB<|aA<|rgN<|kfa O O ?_;refine kl1 O O O<|keq O O (cS (by omega))<|kmv O<|aN O O (dQ O O) ?_;refine aO O O O (dQ O O) ?_;refine bC O O (cS (by omega)) (dQ O O) ?_;refine kpt O O<|kas O<|aB<|aI ?_)
      exact ⟨[_],⟨rfl,trivial⟩,by rw [show (N==0)=true from cS (by omega)];rfl⟩
    · (refine aA<|rgN<|aL O O O dP<|kas O<|aB<|aA<|rgN<|kfa O O ?_;refine kl1 O O O<|keq O O (cS (by omega))<|kmv O<|aN O O (dQ O O) ?_;refine aO O O O (dQ O O) ?_;refine bC O O (cP (by omega)) (dQ O O) ?_;refine kpt O O<|kas O<|aB<|aI ?_)
      exact ⟨[_],⟨rfl,trivial⟩,by rw [show (N==0)=false from cP (by omega)];rfl⟩
  · (refine aA<|rgN<|aL O O O dP<|kas O<|aB<|aA<|rgN<|kfa O O ?_;refine kl1 O O O<|keq O O (cP (by omega))<|kmv O<|aC O O O<|aC O O O<|aC O O O<|kpf O O<|kas O<|aB<|aI ?_)
    exact ⟨[_],⟨rfl,trivial⟩,by rw [show (N==0)=false from cP (by omega)];rfl⟩
theorem fits_spec (N:Int) (hN:In2 N) (r:Bool) (hr:decide (N<170141183460469231731687303715884105728)=r):PSpec Tryz.prog X 114 [LZ N] (Lb r):=by
  subst hr
  obtain ⟨h0,h1⟩:=hN
  refine cD Tryz.func114 rfl (by kernel_rfl) rfl rfl ?_
  intro C
  (refine aA<|rgN<|aL O O O dP<|kas O<|aB<|aA<|rgN<|kfa O O ?_;refine kl1 O O O<|klt O O O<|kas O<|aB<|aI ?_)
  exact ⟨[_],⟨rfl,trivial⟩,by rw [decide_eq_decide.2 (show (N/18446744073709551616<9223372036854775808)↔N<170141183460469231731687303715884105728 by omega)];rfl⟩
def formB (b:Bool) (N:Int):Bool:=decide (N<170141183460469231731687303715884105728) && !(b&&N==0)
theorem Form_spec (b:Bool) (N:Int) (hN:In2 N) (r:Bool) (hr:formB b N=r):PSpec Tryz.prog X 109 [LI b N] (Lb r):=by
  subst hr
  refine cD Tryz.func109 rfl (by kernel_rfl) rfl rfl ?_
  intro C
  cases b
  · (refine aA<|rgN<|aL O O O dP<|kas O<|aB<|aA<|aA<|rgN<|kfa O O ?_;refine kl1 O O O<|aB<|aF O ?_;refine aH ?_;refine aA<|rgN<|aK O O O dP ?_;refine kca O O (sizeOf_spec _ _ _ _)<|kca O O (fits_spec _ _ hN _ O)<|kas O<|aB<|aI ?_)
    exact ⟨[_],⟨rfl,trivial⟩,by simp [formB,resOf]⟩
  · by_cases hf:N<170141183460469231731687303715884105728
    · (refine aA<|rgN<|aL O O O dP<|kas O<|aB<|aA<|aA<|rgN<|kfa O O ?_;refine kl1 O O O<|aB<|aE O ?_;refine aA<|rgN<|aK O O O dP ?_;refine kca O O (sizeOf_spec _ _ _ _)<|kca O O (fits_spec _ _ hN true (cN hf))<|kmv O<|aK O O O (dQ O O) ?_;refine gca O O (sizeOf_spec _ _ _ _) O O<|gca O O (zero_spec _ _ hN _ O) O O<|aV O O (dQ O O) ?_;refine kpt O O<|kas O<|aB<|aI ?_)
      exact ⟨[_],⟨rfl,trivial⟩,by simp [formB,resOf,hf]⟩
    · (refine aA<|rgN<|aL O O O dP<|kas O<|aB<|aA<|aA<|rgN<|kfa O O ?_;refine kl1 O O O<|aB<|aE O ?_;refine aA<|rgN<|aK O O O dP ?_;refine kca O O (sizeOf_spec _ _ _ _)<|kca O O (fits_spec _ _ hN false (cL hf))<|kmv O<|aC O O O<|aC O O O<|aC O O O<|aC O O O<|kpf O O<|kas O<|aB<|aI ?_)
      exact ⟨[_],⟨rfl,trivial⟩,by simp [formB,resOf,hf]⟩
end Go.Proofs.YtjifibloagkeeaaGreat
end
section
namespace Go.Proofs.YtjifibloagkeeaaGreat
open Go Go.Lg
variable (X:Nat→Option Obj)
theorem bothForm_spec (b c:Bool) (M N:Int) (hM:In2 M) (hN:In2 N) (r:Bool) (hr:(formB b M&&formB c N)=r):PSpec Tryz.prog X 116 [LI b M,LI c N] (Lb r):=by
  subst hr
  refine cD Tryz.func116 rfl (by kernel_rfl) rfl rfl ?_
  intro C
  cases h1:formB b M
  · (refine aA<|rgN<|aL O O O dP<|aL O O O dP<|kas O<|aB<|aA<|rgN<|aK O O O dP ?_;refine kca O O (Form_spec _ _ _ hM _ h1)<|kmv O<|aC O O O<|aC O O O<|kpf O O<|kas O<|aB<|aI ?_)
    exact ⟨[_],⟨rfl,trivial⟩,by simp [resOf]⟩
  · (refine aA<|rgN<|aL O O O dP<|aL O O O dP<|kas O<|aB<|aA<|rgN<|aK O O O dP ?_;refine kca O O (Form_spec _ _ _ hM _ h1)<|kmv O<|aK O O O (dQ O O) ?_;refine gca O O (Form_spec _ _ _ hN _ O) O O<|kpt O O<|kas O<|aB<|aI ?_)
    exact ⟨[_],⟨rfl,trivial⟩,by simp [resOf]⟩
def sg (b:Bool) (N:Int):Bool:=b && !(N==0)
theorem number_spec (b:Bool) (N:Int) (hN:In2 N) (r:Bool) (hr:sg b N=r):PSpec Tryz.prog X 118 [Lb b,LZ N] (LI r N):=by
  subst hr
  refine cD Tryz.func118 rfl (by kernel_rfl) rfl rfl ?_
  intro C
  cases b
  · (refine aA<|rgN<|aL O O O dP<|aP O dP ?_;refine aB<|aA<|rgD mixed<|kmv O<|kmv O<|aC O O O<|aC O O O<|aC O O O<|kpf O O<|kfa O O ?_;refine kl1 O O O<|kfa O O ?_;refine kl1 O O O<|aT O O (by exact O) (by exact nl3 O O O O) dP ?_;refine aM O O O O O O dP ?_;refine aB<|rgA ?_;refine aI ?_)
    exact ⟨[_],⟨⟨_,_,O,O,O,.inl ⟨AggT.h,O⟩⟩,trivial⟩,O⟩
  · (refine aA<|rgN<|aL O O O dP<|aP O dP ?_;refine aB<|aA<|rgD mixed<|kmv O<|kmv O<|aK O O O (dQ O O) ?_;refine gca O O (zero_spec _ _ hN _ O) O O<|aV O O (dQ O O) ?_;refine kpt O O<|kfa O O ?_;refine kl1 O O O<|kfa O O ?_;refine kl1 O O O<|aT O O (by exact O) (by exact nl3 O O O O) dP ?_;refine aM O O O O O O dP ?_;refine aB<|rgA ?_;refine aI ?_)
    exact ⟨[_],⟨⟨_,_,O,O,O,.inl ⟨AggT.h,O⟩⟩,trivial⟩,O⟩
end Go.Proofs.YtjifibloagkeeaaGreat
end
section
namespace Go.Proofs.YtjifibloagkeeaaGreat
open Go Go.Lg
variable (X:Nat→Option Obj)
theorem isNaN_spec (a:Int):PSpec Tryz.prog X 120 [Ln .u64 a] (Lb false):=by
  refine cD Tryz.func120 rfl (by kernel_rfl) rfl rfl ?_
  intro C
  (refine aA<|rgN<|kas O<|aB<|aA<|rgN<|kmv O<|kmv O<|kne O O ((cQ (by omega)))<|kas O<|aB<|aI ?_)
  exact ⟨[_],⟨O,trivial⟩,O⟩
def cmpI (a b:Int):Int:=if a<b then -1 else if b<a then 1 else 0
theorem Compare_spec (a b:Int) (r:Int) (hr:cmpI a b=r):PSpec Tryz.prog X 119 [Ln .u64 a,Ln .u64 b] (Ln .i64 r):=by
  subst hr
  refine cD Tryz.func119 rfl (by kernel_rfl) rfl rfl ?_
  intro C
  by_cases h:a<b
  · (refine aA<|rgN<|kas O<|aB<|aA<|rgN<|kmv O<|kca O O (isNaN_spec _ _)<|kas O<|aB<|aA<|rgN<|kmv O<|kca O O (isNaN_spec _ _) ?_;refine kas O<|aB<|aA<|aA<|rgN<|kmv O<|aB<|aF O ?_;refine aH ?_;refine aA<|aA<|rgN<|kmv O<|aB<|aF O ?_;refine aH ?_;refine aA<|aA<|rgN<|kmv O<|kmv O<|klt O O (cN (by omega))<|aB<|aE O ?_;refine aA<|rgN<|kas O<|aB<|aI ?_)
    exact ⟨[_],⟨rfl,trivial⟩,by simp [cmpI,h,resOf]⟩
  · by_cases h':b<a
    · (refine aA<|rgN<|kas O<|aB<|aA<|rgN<|kmv O<|kca O O (isNaN_spec _ _)<|kas O<|aB<|aA<|rgN<|kmv O<|kca O O (isNaN_spec _ _) ?_;refine kas O<|aB<|aA<|aA<|rgN<|kmv O<|aB<|aF O ?_;refine aH ?_;refine aA<|aA<|rgN<|kmv O<|aB<|aF O ?_;refine aH ?_;refine aA<|aA<|rgN<|kmv O<|kmv O<|klt O O (cL (by omega))<|aB<|aF O ?_;refine aH ?_;refine aA<|aA<|rgN<|kmv O<|kmv O<|aS O O (cN (by omega)) dP<|aB<|aE O ?_;refine aA<|rgN<|kas O<|aB<|aI ?_)
      exact ⟨[_],⟨rfl,trivial⟩,by simp [cmpI,h,h',resOf]⟩
    · (refine aA<|rgN<|kas O<|aB<|aA<|rgN<|kmv O<|kca O O (isNaN_spec _ _)<|kas O<|aB<|aA<|rgN<|kmv O<|kca O O (isNaN_spec _ _) ?_;refine kas O<|aB<|aA<|aA<|rgN<|kmv O<|aB<|aF O ?_;refine aH ?_;refine aA<|aA<|rgN<|kmv O<|aB<|aF O ?_;refine aH ?_;refine aA<|aA<|rgN<|kmv O<|kmv O<|klt O O (cL (by omega))<|aB<|aF O ?_;refine aH ?_;refine aA<|aA<|rgN<|kmv O<|kmv O<|aS O O (cL (by omega)) dP<|aB<|aF O ?_;refine aH ?_;refine aA<|rgN<|kas O<|aB<|aI ?_)
      exact ⟨[_],⟨rfl,trivial⟩,by simp [cmpI,h,h',resOf]⟩
theorem compare_spec (M N:Int) (r:Int) (hr:cmpI M N=r):PSpec Tryz.prog X 117 [LZ M,LZ N] (Ln .i64 r):=by
  refine cD Tryz.func117 rfl (by kernel_rfl) rfl rfl ?_
  intro C
  by_cases h:M/18446744073709551616=N/18446744073709551616
  · (refine aA<|rgN<|aL O O O dP<|aL O O O dP<|kas O<|aB<|aA<|aA<|rgN<|kfa O O ?_;refine kl1 O O O<|kfa O O ?_;refine kl1 O O O<|kne O O ((cQ (by omega)))<|aB<|aF O ?_;refine aH ?_;refine aA<|rgN<|kfa O O ?_;refine kl1 O O O<|kfa O O ?_;refine kl1 O O O<|kca O O (Compare_spec _ _ _ r (by subst hr;unfold cmpI;(repeat' split)<;>omega))<|kas O<|aB<|aI ?_)
    exact ⟨[_],⟨O,trivial⟩,O⟩
  · (refine aA<|rgN<|aL O O O dP<|aL O O O dP<|kas O<|aB<|aA<|aA<|rgN<|kfa O O ?_;refine kl1 O O O<|kfa O O ?_;refine kl1 O O O<|kne O O (cR (by omega))<|aB<|aE O ?_;refine aA<|rgN<|kfa O O ?_;refine kl1 O O O<|kfa O O ?_;refine kl1 O O O<|kca O O (Compare_spec _ _ _ r (by subst hr;unfold cmpI;(repeat' split)<;>omega))<|kas O<|aB<|aI ?_)
    exact ⟨[_],⟨O,trivial⟩,O⟩
abbrev S0:SV:=.agg [.val (.bool false),.val (.int .u64 0),.val (.int .u64 0)]
def Lim (N:Int):Prop:=0≤N∧N<170141183460469231731687303715884105728
theorem formB_lim {b:Bool} {N:Int} (hN:In2 N) (h:formB b N=true):Lim N∧(b=true→N≠0):=by
  simp only [formB,Bool.and_eq_true,decide_eq_true_eq,Bool.not_eq_true',Bool.and_eq_false_iff,beq_eq_false_iff_ne] at h
  refine ⟨⟨hN.1,h.1⟩,fun hb => ?_⟩
  rcases h.2 with h2|h2
  · rw [hb] at h2;simp at h2
  · exact h2
end Go.Proofs.YtjifibloagkeeaaGreat
end
section
namespace Go.Proofs.YtjifibloagkeeaaGreat
open Go Go.Lg
variable (X:Nat→Option Obj)
def mg (z:Int):Int:=if z<0 then -z else z
def R127 (z:Int):Prop := -170141183460469231731687303715884105728<z∧z<170141183460469231731687303715884105728
abbrev LQ (z:Int):LV:=LI (decide (z<0)) (mg z)
theorem mg_neg {z:Int} (h:z<0):mg z = -z:=if_pos h
theorem mg_pos {z:Int} (h:0≤z):mg z=z:=if_neg (by omega)
theorem mg_in2 {z:Int} (h:R127 z):In2 (mg z):=by unfold mg In2 R127 at *;split<;>omega
theorem mg_lim {z:Int} (h:R127 z):mg z<170141183460469231731687303715884105728:=by unfold mg R127 at *;split<;>omega
theorem formB_q {z:Int} (h:R127 z):formB (decide (z<0)) (mg z)=true:=by
  have:=mg_lim h
  simp only [formB,cN this,Bool.true_and,Bool.not_eq_true',Bool.and_eq_false_iff,decide_eq_false_iff_not,beq_eq_false_iff_ne]
  unfold mg
  split<;>omega
theorem both_q {x y:Int} (hx:R127 x) (hy:R127 y):(formB (decide (x<0)) (mg x)&&formB (decide (y<0)) (mg y))=true:=by rw [formB_q hx,formB_q hy];rfl
def zv (b:Bool) (N:Int):Int:=if b=true then -N else N
theorem zv_in {b:Bool} {N:Int} (hN:In2 N) (h:formB b N=true):R127 (zv b N)∧decide (zv b N<0)=b∧mg (zv b N)=N:=by
  obtain ⟨⟨h0,h1⟩,h2⟩:=formB_lim hN h
  cases b
  · refine ⟨?_,?_,?_⟩<;>simp only [zv,Bool.false_eq_true,if_false,R127,mg,decide_eq_false_iff_not]
    · omega
    · omega
    · exact if_neg (by omega)
  · have:=h2 rfl
    refine ⟨?_,?_,?_⟩<;>simp only [zv,if_true,R127,mg,decide_eq_true_eq]
    · omega
    · omega
    · rw [if_pos (by omega)];omega
theorem LI_q {b:Bool} {N:Int} (hN:In2 N) (h:formB b N=true):LI b N=LQ (zv b N):=by
  obtain ⟨_,h1,h2⟩:=zv_in hN h
  unfold LQ
  rw [h1,h2]
theorem sg_q {b:Bool} {N z:Int} (hN:0≤N) (h:zv b N=z):sg b N=decide (z<0)∧N=mg z:=by
  subst h
  cases b
  · simp only [zv,sg,Bool.false_and,Bool.false_eq_true,if_false,mg]
    exact ⟨(cL (by omega)).symm,(if_neg (by omega)).symm⟩
  · simp only [zv,sg,Bool.true_and,if_true,mg]
    refine ⟨?_,by split<;>omega⟩
    by_cases h0:N=0
    · subst h0;rfl
    · rw [show (N==0)=false from cP h0,cN (by omega)];rfl
theorem Neg_q (x:Int) (hx:R127 x):PSpec Tryz.prog X 111 [LQ x] (LQ (-x)):=by
  have h1:=mg_in2 hx
  have hn:=number_spec X (!decide (x<0)) (mg x) h1 (decide (-x<0)) (by
    have:=sg_q (b := !decide (x<0)) (N:=mg x) (z := -x) h1.1 (by unfold zv mg;by_cases c:x<0<;>simp [c])
    exact this.1)
  have e:mg (-x)=mg x:=by unfold mg;(repeat' split)<;>omega
  refine cD Tryz.func111 rfl (by kernel_rfl) rfl rfl ?_
  intro C
  (refine aA<|rgN<|aL O O O dP<|aP O dP ?_;refine aB<|aA<|aA<|rgN<|aK O O O dP ?_;refine kca O O (Form_spec _ _ _ h1 true (formB_q hx))<|aV O O dP<|aB<|aF O ?_;refine aH ?_;refine aA<|rgD mixed<|kfa O O ?_;refine kl1 O O O<|aV O O dP<|aK O O O dP ?_;refine kca O O (sizeOf_spec _ _ _ _)<|kca O O (hn)<|aM O O O O O O dP ?_;refine aB<|rgA ?_;refine aI ?_)
  unfold LQ
  rw [e]
  exact ⟨[_],⟨⟨_,_,O,O,O,.inl ⟨AggT.h,O⟩⟩,trivial⟩,O⟩
theorem Cmp_q (x y:Int) (hx:R127 x) (hy:R127 y) (r:Int) (hr:cmpI x y=r):PSpec Tryz.prog X 110 [LQ x,LQ y] (Ln .i64 r):=by
  have hB:=bothForm_spec X _ _ _ _ (mg_in2 hx) (mg_in2 hy) true (both_q hx hy)
  refine cD Tryz.func110 rfl (by kernel_rfl) rfl rfl ?_
  intro C
  by_cases cx:x<0<;>by_cases cy:y<0
  all_goals
    unfold LQ at hB ⊢
    simp only [cx,cy,decide_true,decide_false] at hB ⊢
  · have e:cmpI (mg y) (mg x)=r:=by rw [mg_neg cx,mg_neg cy,← hr];unfold cmpI;(repeat' split)<;>omega
    (refine aA<|rgN<|aL O O O dP<|aL O O O dP<|kas O<|aB<|aA<|aG<|aA<|rgN<|aK O O O dP ?_;refine aK O O O dP ?_;refine kca O O (hB)<|aV O O dP<|kas O<|aB<|aF O ?_;refine aA<|rgN<|kfa O O ?_;refine kl1 O O O<|kmv O<|aN O O (dQ O O) ?_;refine aO O O O (dQ O O) ?_;refine kpt O O<|kas O<|aB<|aE O ?_;refine aA<|rgD mixed<|aK O O O dP ?_;refine kca O O (sizeOf_spec _ _ _ _)<|aK O O O dP ?_;refine kca O O (sizeOf_spec _ _ _ _)<|kca O O (compare_spec _ _ _ r e)<|kas O<|aB<|rgA ?_;refine aI ?_)
    exact ⟨[_],⟨O,trivial⟩,O⟩
  · have e:r = -1:=by rw [← hr];unfold cmpI;rw [if_pos (by omega)]
    subst e
    (refine aA<|rgN<|aL O O O dP<|aL O O O dP<|kas O<|aB<|aA<|aG<|aA<|rgN<|aK O O O dP ?_;refine aK O O O dP ?_;refine kca O O (hB)<|aV O O dP<|kas O<|aB<|aF O ?_;refine aA<|rgN<|kfa O O ?_;refine kl1 O O O<|kmv O<|aN O O (dQ O O) ?_;refine aO O O O (dQ O O) ?_;refine kpt O O<|kas O<|aB<|aF O ?_;refine aA<|rgN<|kfa O O ?_;refine kl1 O O O<|kas O<|aB<|aE O ?_;refine aA<|rgN<|kas O<|aB<|aI ?_)
    exact ⟨[_],⟨O,trivial⟩,O⟩
  · have e:r=1:=by rw [← hr];unfold cmpI;rw [if_neg (by omega),if_pos (by omega)]
    subst e
    (refine aA<|rgN<|aL O O O dP<|aL O O O dP<|kas O<|aB<|aA<|aG<|aA<|rgN<|aK O O O dP ?_;refine aK O O O dP ?_;refine kca O O (hB)<|aV O O dP<|kas O<|aB<|aF O ?_;refine aA<|rgN<|kfa O O ?_;refine kl1 O O O<|kmv O<|aC O O O<|aC O O O<|kpf O O<|kas O<|aB<|aF O ?_;refine aA<|rgN<|kfa O O ?_;refine kl1 O O O<|kas O<|aB<|aF O ?_;refine aA<|rgN<|kfa O O ?_;refine kl1 O O O<|kas O<|aB<|aE O ?_;refine aA<|rgN<|kas O<|aB<|aI ?_)
    exact ⟨[_],⟨O,trivial⟩,O⟩
  · have e:cmpI (mg x) (mg y)=r:=by rw [mg_pos (Int.not_lt.1 cx),mg_pos (Int.not_lt.1 cy),← hr]
    (refine aA<|rgN<|aL O O O dP<|aL O O O dP<|kas O<|aB<|aA<|aG<|aA<|rgN<|aK O O O dP ?_;refine aK O O O dP ?_;refine kca O O (hB)<|aV O O dP<|kas O<|aB<|aF O ?_;refine aA<|rgN<|kfa O O ?_;refine kl1 O O O<|kmv O<|aC O O O<|aC O O O<|kpf O O<|kas O<|aB<|aF O ?_;refine aA<|rgN<|kfa O O ?_;refine kl1 O O O<|kas O<|aB<|aF O ?_;refine aA<|rgN<|kfa O O ?_;refine kl1 O O O<|kas O<|aB<|aF O ?_;refine aH ?_;refine aA<|rgD mixed<|aK O O O dP ?_;refine kca O O (sizeOf_spec _ _ _ _)<|aK O O O dP ?_;refine kca O O (sizeOf_spec _ _ _ _)<|kca O O (compare_spec _ _ _ r e)<|kas O<|aB<|rgA ?_;refine aI ?_)
    exact ⟨[_],⟨O,trivial⟩,O⟩
end Go.Proofs.YtjifibloagkeeaaGreat
end
section
namespace Go.Proofs.YtjifibloagkeeaaGreat
open Go Go.Lg Go.Lg.Arith Go.RowKit
variable (X:Nat→Option Obj)
theorem OfWord_spec (n:Int):PSpec Tryz.prog X 112 [Ln .u64 n] (.sv (.agg [.val (.bool false),.val (.int .u64 0),.val (.int .u64 n)])):=by
  refine cD Tryz.func112 rfl (by kernel_rfl) rfl rfl ?_
  intro C
  (refine aA<|rgN<|aP O dP ?_;refine aB<|aA<|rgN<|kmv O<|aT O O (by exact O) (by exact nl3 O O O O) dP ?_;refine aM O O O O O O dP ?_;refine aB<|aI ?_)
  exact ⟨[_],⟨⟨_,_,O,O,O,.inl ⟨AggT.h,O⟩⟩,trivial⟩,O⟩
theorem eqI {b b':Bool} {h l h' l':Int} (r:Bool) (hr:(b==b'&&(h==h'&&l==l'))=r) (w:World):
    (Op.equalIn 10000 149 (.agg [.bool b,.int .u64 h,.int .u64 l].toArray) (.agg [.bool b',.int .u64 h',.int .u64 l'].toArray)).run Tryz.prog w = .ok r w:=by
  subst hr
  rw [show (10000:Nat)=9999+1 from rfl,run_equalIn_agg w 9999 149 _ _ (by kernel_rfl) (by kernel_rfl)]
  simp only [Program.fieldsOf,Tryz.underlying149]
  go_simp
  cases b<;>cases b'<;>by_cases h1:h=h'<;>by_cases h2:l=l'<;>simp [h1,h2]
theorem eqQ (x y:Int) (r:Bool) (hr:decide (x=y)=r) (w:World):
    (Op.equalIn 10000 149 (.agg [.bool (decide (x<0)),.int .u64 (mg x/18446744073709551616),.int .u64 (mg x%18446744073709551616)].toArray)
      (.agg [.bool (decide (y<0)),.int .u64 (mg y/18446744073709551616),.int .u64 (mg y%18446744073709551616)].toArray)).run Tryz.prog w = .ok r w:=by
  refine eqI r ?_ w
  rw [← hr]
  by_cases e:x=y
  · subst e;simp
  · rw [cL e]
    have h:¬ ((decide (x<0)=decide (y<0))∧mg x/18446744073709551616=mg y/18446744073709551616∧mg x%18446744073709551616=mg y%18446744073709551616):=by
      rintro ⟨h1,h2,h3⟩
      have:mg x=mg y:=by omega
      unfold mg at this
      by_cases cx:x<0<;>by_cases cy:y<0<;>simp only [cx,cy,decide_true,decide_false,if_true,if_false] at h1 this<;>first|omega|cases h1
    cases hc:(decide (x<0)==decide (y<0)&&(mg x/18446744073709551616==mg y/18446744073709551616&&mg x%18446744073709551616==mg y%18446744073709551616)) with
    | false=>rfl
    | true =>
      simp only [Bool.and_eq_true,beq_iff_eq] at hc
      exact absurd hc h
end Go.Proofs.YtjifibloagkeeaaGreat
end
section
namespace Go.Proofs.YtjifibloagkeeaaGreat
open Go Go.Lg
variable (X:Nat→Option Obj)
def isW (n:Int):Bool:=decide (n=1)||(decide (n=2)||(decide (n=4)||decide (n=8)))
theorem isWidth_spec (n:Int) (r:Bool) (hr:isW n=r):PSpec Tryz.prog X 103 [Ln .i64 n] (Lb r):=by
  refine cD Tryz.func103 rfl (by kernel_rfl) rfl rfl ?_
  intro C
  subst hr
  by_cases h1:n=1
  · (refine aA<|rgN<|kas O<|aB<|aA<|rgN<|kmv O<|keq O O (cS (by omega))<|kmv O<|aC O O O<|aC O O O<|kpt O O<|kmv O<|aC O O O ?_;refine aC O O O<|kpt O O<|kmv O<|aC O O O<|aC O O O<|kpt O O<|kas O<|aB<|aI ?_)
    exact ⟨[_],⟨rfl,trivial⟩,by unfold isW;rw [cN h1];rfl⟩
  · by_cases h2:n=2
    · (refine aA<|rgN<|kas O<|aB<|aA<|rgN<|kmv O<|keq O O (cP (by omega))<|kmv O<|gmv O O O<|bC O O (cS (by omega)) (dQ O O) ?_;refine kpf O O<|kmv O<|aC O O O<|aC O O O<|kpt O O<|kmv O<|aC O O O<|aC O O O<|kpt O O<|kas O<|aB<|aI ?_)
      exact ⟨[_],⟨rfl,trivial⟩,by unfold isW;rw [cL h1,cN h2];rfl⟩
    · by_cases h4:n=4
      · (refine aA<|rgN<|kas O<|aB<|aA<|rgN<|kmv O<|keq O O (cP (by omega))<|kmv O<|gmv O O O<|bC O O (cP (by omega)) (dQ O O) ?_;refine kpf O O<|kmv O<|gmv O O O<|bC O O (cS (by omega)) (dQ O O) ?_;refine kpf O O<|kmv O<|aC O O O<|aC O O O<|kpt O O<|kas O<|aB<|aI ?_)
        exact ⟨[_],⟨rfl,trivial⟩,by unfold isW;rw [cL h1,cL h2,cN h4];rfl⟩
      · by_cases h8:n=8
        · (refine aA<|rgN<|kas O<|aB<|aA<|rgN<|kmv O<|keq O O (cP (by omega))<|kmv O<|gmv O O O<|bC O O (cP (by omega)) (dQ O O) ?_;refine kpf O O<|kmv O<|gmv O O O<|bC O O (cP (by omega)) (dQ O O) ?_;refine kpf O O<|kmv O<|gmv O O O<|bC O O (cS (by omega)) (dQ O O) ?_;refine kpf O O<|kas O<|aB<|aI ?_)
          exact ⟨[_],⟨rfl,trivial⟩,by unfold isW;rw [cL h1,cL h2,cL h4,cN h8];rfl⟩
        · (refine aA<|rgN<|kas O<|aB<|aA<|rgN<|kmv O<|keq O O (cP (by omega))<|kmv O<|gmv O O O<|bC O O (cP (by omega)) (dQ O O) ?_;refine kpf O O<|kmv O<|gmv O O O<|bC O O (cP (by omega)) (dQ O O) ?_;refine kpf O O<|kmv O<|gmv O O O<|bC O O (cP (by omega)) (dQ O O) ?_;refine kpf O O<|kas O<|aB<|aI ?_)
          exact ⟨[_],⟨rfl,trivial⟩,by unfold isW;rw [cL h1,cL h2,cL h4,cL h8];rfl⟩
end Go.Proofs.YtjifibloagkeeaaGreat
end
section
namespace Go.Lg
open Go
def le:List UInt8→Nat
  | []=>0
  | c::t=>c.toNat+256*le t
def leB:Nat→Nat→List UInt8
  | 0,_=>[]
  | k+1,n=>UInt8.ofNat (n%256)::leB k (n/256)
theorem leB_length:∀ (k n:Nat),(leB k n).length=k
  | 0,_=>rfl
  | k+1,n=>by simp [leB,leB_length k]
theorem leB_get:∀ (k n i:Nat),i<k→(leB k n)[i]? = some (UInt8.ofNat (n/256^i%256))
  | 0,_,_,h=>by omega
  | k+1,n,0,_=>by simp [leB]
  | k+1,n,i+1,h=>by
    simp only [leB,List.getElem?_cons_succ]
    rw [leB_get k (n/256) i (by omega),Nat.pow_succ,Nat.mul_comm,Nat.div_div_eq_div_mul]
def lo (w n i:Nat):List UInt8:=(leB w n).take i++List.replicate (w-i) 0
theorem lo_set {w n i:Nat} (h:i<w):(((lo w n i).map bc).set (0+i*1) (bc (UInt8.ofNat (n/256^i%256))))=(lo w n (i+1)).map bc:=by
  rw [Nat.zero_add,Nat.mul_one,← List.map_set]
  congr 1
  unfold lo
  have hl:((leB w n).take i).length=i:=by rw [cY,leB_length];omega
  rw [List.set_append_right _ _ (by omega),hl,Nat.sub_self,List.take_add_one,leB_get w n i h]
  have:w-i=(w-(i+1))+1:=by omega
  rw [this,List.replicate_succ]
  simp
theorem lo_len (w n i:Nat) (h:i≤w):((lo w n i).map bc).length=w:=by
  unfold lo
  rw [cV,cU,cY,leB_length,dC]
  omega
theorem lo_all (w n:Nat):lo w n w=leB w n:=by
  unfold lo
  rw [Nat.sub_self,List.take_of_length_le (by rw [leB_length];exact dL _)]
  simp
end Go.Lg
namespace Go.Proofs.YtjifibloagkeeaaGreat
open Go Go.Lg
variable (X:Nat→Option Obj)
theorem p256 (i:Nat):(256:Nat)^i=2^(8*i):=by rw [Nat.pow_mul]
end Go.Proofs.YtjifibloagkeeaaGreat
end
section
namespace Go.Proofs.YtjifibloagkeeaaGreat
open Go Go.Lg
variable (X:Nat→Option Obj)
theorem low_1 (n:Nat) (hn:n<18446744073709551616):PSpec Tryz.prog X 105 [Ln .i64 1,Ln .u64 (n:Nat)] (Ls (leB 1 n)):=by
  refine cD Tryz.func105 rfl (by kernel_rfl) rfl rfl ?_
  intro C
  (refine aA<|rgN<|kas O<|aB<|aA<|rgN<|kmv O<|K.makeSlc (m:=1) (zs:=List.replicate 1 (.int .u8 0)) (sz:=1) (e:=5) (bytes:=1) (zc:=(lo 1 n 0).map bc) O O (by kernel_rfl) (by kernel_rfl) (by decide) O O dP<|kas O<|aB<|aA<|aA<|rgN<|kmv O ?_;refine K.lenSlc O bY O dP ?_;refine kmv O<|aB<|aG ?_)
  refine cH (fun m σ=>∃ i:Nat,i≤1∧m=1-i∧σ=⟨[(1,Ln .u64 (n:Nat)),(5,.sv (.one (.slc 8 0 1))),(10,Ln .i64 1),(11,Ln .i64 (i:Nat))],[(8,some ⟨5,(lo 1 n i).map bc,false⟩)],X⟩) 1
    ⟨_,Le.of (by exact ⟨rfl,rfl,rfl,rfl,trivial⟩) (by exact ⟨rfl,trivial⟩) (by exact rfl) (by exact rfl) (by repeat' (first|refine bR ?_ ?_|rfl|exact bT|exact bS|exact bU rfl)),0,Nat.zero_le _,rfl,rfl⟩ ?_
  rintro m σ ⟨i,hi,rfl,rfl⟩
  by_cases hlt:i<1
  · have w8:IntKind.i64.wrap (8*(i:Int))=((8*i:Nat):Int):=by rw [cF (by omega)];omega
    have ed:((n:Nat):Int)/2^(8*i)=((n/256^i:Nat):Int):=by rw [p256,Int.natCast_ediv,Int.natCast_pow];rfl
    have hs:=(shr_s (a:=((n:Nat):Int)) (s:=8*i) (by omega)).trans ed
    have hv:IntKind.u8.wrap ((n/256^i:Nat):Int)=((UInt8.ofNat (n/256^i%256)).toNat:Nat):=by
      rw [UInt8.toNat_ofNat',Nat.mod_eq_of_lt (Nat.mod_lt _ (by decide)),IntKind.wrap_u8]
      omega
    have hbl:Nat.blt (0+i*1) ((lo 1 n i).map bc).length=true:=by rw [lo_len _ _ _ hi,Nat.blt_eq];omega
    (refine aA<|rgN<|klt O O (cN (by omega))<|aB<|aA<|aE O ?_;refine aH ?_;refine aA<|aG<|aA<|rgN<|kmv O<|kas O<|aB<|rgN<|kmv O<|kmv O<|kmv O<|kmv O<|bL O O w8 dP<|bM O O (by omega) hs dP ?_;refine kcv O hv ?_;refine K.indexSlc O O (by omega) O dP ?_;refine bG O O O O hbl (lo_set hlt) dP<|aB<|rgN<|kad O O (cF (by omega))<|kmv O<|aB ?_)
    exact ⟨_,_,by omega,Le.of (by exact ⟨O,O,O,O,trivial⟩) (by exact ⟨O,trivial⟩) (by exact O) (by exact O) (by repeat' (first|refine bR ?_ ?_|rfl|exact bT|exact bS|exact bU O)),i+1,by omega,O,O⟩
  · have e:i=1:=by omega
    subst e
    have hlen:0+1≤((lo 1 n 1).map bc).length:=by rw [lo_len _ _ _ (dL _)];omega
    have hcut:(((lo 1 n 1).map bc).drop 0).take 1=(leB 1 n).map bc:=by
      rw [List.drop_zero,List.take_of_length_le (by rw [lo_len _ _ _ (dL _)];exact dL _),lo_all]
    (refine aA<|rgN<|klt O O (cL (by omega))<|aB<|aA<|aF O ?_;refine aJ<|aA<|rgN<|kmv O<|bQ O O (by kernel_rfl) StrT.u hlen hcut dP<|kas O<|aB<|aI ?_)
    exact ⟨[_],⟨O,trivial⟩,O⟩
theorem low_2 (n:Nat) (hn:n<18446744073709551616):PSpec Tryz.prog X 105 [Ln .i64 2,Ln .u64 (n:Nat)] (Ls (leB 2 n)):=by
  refine cD Tryz.func105 rfl (by kernel_rfl) rfl rfl ?_
  intro C
  (refine aA<|rgN<|kas O<|aB<|aA<|rgN<|kmv O<|K.makeSlc (m:=2) (zs:=List.replicate 2 (.int .u8 0)) (sz:=1) (e:=5) (bytes:=1) (zc:=(lo 2 n 0).map bc) O O (by kernel_rfl) (by kernel_rfl) (by decide) O O dP<|kas O<|aB<|aA<|aA<|rgN<|kmv O ?_;refine K.lenSlc O bY O dP ?_;refine kmv O<|aB<|aG ?_)
  refine cH (fun m σ=>∃ i:Nat,i≤2∧m=2-i∧σ=⟨[(1,Ln .u64 (n:Nat)),(5,.sv (.one (.slc 8 0 2))),(10,Ln .i64 2),(11,Ln .i64 (i:Nat))],[(8,some ⟨5,(lo 2 n i).map bc,false⟩)],X⟩) 2
    ⟨_,Le.of (by exact ⟨rfl,rfl,rfl,rfl,trivial⟩) (by exact ⟨rfl,trivial⟩) (by exact rfl) (by exact rfl) (by repeat' (first|refine bR ?_ ?_|rfl|exact bT|exact bS|exact bU rfl)),0,Nat.zero_le _,rfl,rfl⟩ ?_
  rintro m σ ⟨i,hi,rfl,rfl⟩
  by_cases hlt:i<2
  · have w8:IntKind.i64.wrap (8*(i:Int))=((8*i:Nat):Int):=by rw [cF (by omega)];omega
    have ed:((n:Nat):Int)/2^(8*i)=((n/256^i:Nat):Int):=by rw [p256,Int.natCast_ediv,Int.natCast_pow];rfl
    have hs:=(shr_s (a:=((n:Nat):Int)) (s:=8*i) (by omega)).trans ed
    have hv:IntKind.u8.wrap ((n/256^i:Nat):Int)=((UInt8.ofNat (n/256^i%256)).toNat:Nat):=by
      rw [UInt8.toNat_ofNat',Nat.mod_eq_of_lt (Nat.mod_lt _ (by decide)),IntKind.wrap_u8]
      omega
    have hbl:Nat.blt (0+i*1) ((lo 2 n i).map bc).length=true:=by rw [lo_len _ _ _ hi,Nat.blt_eq];omega
    (refine aA<|rgN<|klt O O (cN (by omega))<|aB<|aA<|aE O ?_;refine aH ?_;refine aA<|aG<|aA<|rgN<|kmv O<|kas O<|aB<|rgN<|kmv O<|kmv O<|kmv O<|kmv O<|bL O O w8 dP<|bM O O (by omega) hs dP ?_;refine kcv O hv ?_;refine K.indexSlc O O (by omega) O dP ?_;refine bG O O O O hbl (lo_set hlt) dP<|aB<|rgN<|kad O O (cF (by omega))<|kmv O<|aB ?_)
    exact ⟨_,_,by omega,Le.of (by exact ⟨O,O,O,O,trivial⟩) (by exact ⟨O,trivial⟩) (by exact O) (by exact O) (by repeat' (first|refine bR ?_ ?_|rfl|exact bT|exact bS|exact bU O)),i+1,by omega,O,O⟩
  · have e:i=2:=by omega
    subst e
    have hlen:0+2≤((lo 2 n 2).map bc).length:=by rw [lo_len _ _ _ (dL _)];omega
    have hcut:(((lo 2 n 2).map bc).drop 0).take 2=(leB 2 n).map bc:=by
      rw [List.drop_zero,List.take_of_length_le (by rw [lo_len _ _ _ (dL _)];exact dL _),lo_all]
    (refine aA<|rgN<|klt O O (cL (by omega))<|aB<|aA<|aF O ?_;refine aJ<|aA<|rgN<|kmv O<|bQ O O (by kernel_rfl) StrT.u hlen hcut dP<|kas O<|aB<|aI ?_)
    exact ⟨[_],⟨O,trivial⟩,O⟩
theorem low_4 (n:Nat) (hn:n<18446744073709551616):PSpec Tryz.prog X 105 [Ln .i64 4,Ln .u64 (n:Nat)] (Ls (leB 4 n)):=by
  refine cD Tryz.func105 rfl (by kernel_rfl) rfl rfl ?_
  intro C
  (refine aA<|rgN<|kas O<|aB<|aA<|rgN<|kmv O<|K.makeSlc (m:=4) (zs:=List.replicate 4 (.int .u8 0)) (sz:=1) (e:=5) (bytes:=1) (zc:=(lo 4 n 0).map bc) O O (by kernel_rfl) (by kernel_rfl) (by decide) O O dP<|kas O<|aB<|aA<|aA<|rgN<|kmv O ?_;refine K.lenSlc O bY O dP ?_;refine kmv O<|aB<|aG ?_)
  refine cH (fun m σ=>∃ i:Nat,i≤4∧m=4-i∧σ=⟨[(1,Ln .u64 (n:Nat)),(5,.sv (.one (.slc 8 0 4))),(10,Ln .i64 4),(11,Ln .i64 (i:Nat))],[(8,some ⟨5,(lo 4 n i).map bc,false⟩)],X⟩) 4
    ⟨_,Le.of (by exact ⟨rfl,rfl,rfl,rfl,trivial⟩) (by exact ⟨rfl,trivial⟩) (by exact rfl) (by exact rfl) (by repeat' (first|refine bR ?_ ?_|rfl|exact bT|exact bS|exact bU rfl)),0,Nat.zero_le _,rfl,rfl⟩ ?_
  rintro m σ ⟨i,hi,rfl,rfl⟩
  by_cases hlt:i<4
  · have w8:IntKind.i64.wrap (8*(i:Int))=((8*i:Nat):Int):=by rw [cF (by omega)];omega
    have ed:((n:Nat):Int)/2^(8*i)=((n/256^i:Nat):Int):=by rw [p256,Int.natCast_ediv,Int.natCast_pow];rfl
    have hs:=(shr_s (a:=((n:Nat):Int)) (s:=8*i) (by omega)).trans ed
    have hv:IntKind.u8.wrap ((n/256^i:Nat):Int)=((UInt8.ofNat (n/256^i%256)).toNat:Nat):=by
      rw [UInt8.toNat_ofNat',Nat.mod_eq_of_lt (Nat.mod_lt _ (by decide)),IntKind.wrap_u8]
      omega
    have hbl:Nat.blt (0+i*1) ((lo 4 n i).map bc).length=true:=by rw [lo_len _ _ _ hi,Nat.blt_eq];omega
    (refine aA<|rgN<|klt O O (cN (by omega))<|aB<|aA<|aE O ?_;refine aH ?_;refine aA<|aG<|aA<|rgN<|kmv O<|kas O<|aB<|rgN<|kmv O<|kmv O<|kmv O<|kmv O<|bL O O w8 dP<|bM O O (by omega) hs dP ?_;refine kcv O hv ?_;refine K.indexSlc O O (by omega) O dP ?_;refine bG O O O O hbl (lo_set hlt) dP<|aB<|rgN<|kad O O (cF (by omega))<|kmv O<|aB ?_)
    exact ⟨_,_,by omega,Le.of (by exact ⟨O,O,O,O,trivial⟩) (by exact ⟨O,trivial⟩) (by exact O) (by exact O) (by repeat' (first|refine bR ?_ ?_|rfl|exact bT|exact bS|exact bU O)),i+1,by omega,O,O⟩
  · have e:i=4:=by omega
    subst e
    have hlen:0+4≤((lo 4 n 4).map bc).length:=by rw [lo_len _ _ _ (dL _)];omega
    have hcut:(((lo 4 n 4).map bc).drop 0).take 4=(leB 4 n).map bc:=by
      rw [List.drop_zero,List.take_of_length_le (by rw [lo_len _ _ _ (dL _)];exact dL _),lo_all]
    (refine aA<|rgN<|klt O O (cL (by omega))<|aB<|aA<|aF O ?_;refine aJ<|aA<|rgN<|kmv O<|bQ O O (by kernel_rfl) StrT.u hlen hcut dP<|kas O<|aB<|aI ?_)
    exact ⟨[_],⟨O,trivial⟩,O⟩
theorem low_8 (n:Nat) (hn:n<18446744073709551616):PSpec Tryz.prog X 105 [Ln .i64 8,Ln .u64 (n:Nat)] (Ls (leB 8 n)):=by
  refine cD Tryz.func105 rfl (by kernel_rfl) rfl rfl ?_
  intro C
  (refine aA<|rgN<|kas O<|aB<|aA<|rgN<|kmv O<|K.makeSlc (m:=8) (zs:=List.replicate 8 (.int .u8 0)) (sz:=1) (e:=5) (bytes:=1) (zc:=(lo 8 n 0).map bc) O O (by kernel_rfl) (by kernel_rfl) (by decide) O O dP<|kas O<|aB<|aA<|aA<|rgN<|kmv O ?_;refine K.lenSlc O bY O dP ?_;refine kmv O<|aB<|aG ?_)
  refine cH (fun m σ=>∃ i:Nat,i≤8∧m=8-i∧σ=⟨[(1,Ln .u64 (n:Nat)),(5,.sv (.one (.slc 8 0 8))),(10,Ln .i64 8),(11,Ln .i64 (i:Nat))],[(8,some ⟨5,(lo 8 n i).map bc,false⟩)],X⟩) 8
    ⟨_,Le.of (by exact ⟨rfl,rfl,rfl,rfl,trivial⟩) (by exact ⟨rfl,trivial⟩) (by exact rfl) (by exact rfl) (by repeat' (first|refine bR ?_ ?_|rfl|exact bT|exact bS|exact bU rfl)),0,Nat.zero_le _,rfl,rfl⟩ ?_
  rintro m σ ⟨i,hi,rfl,rfl⟩
  by_cases hlt:i<8
  · have w8:IntKind.i64.wrap (8*(i:Int))=((8*i:Nat):Int):=by rw [cF (by omega)];omega
    have ed:((n:Nat):Int)/2^(8*i)=((n/256^i:Nat):Int):=by rw [p256,Int.natCast_ediv,Int.natCast_pow];rfl
    have hs:=(shr_s (a:=((n:Nat):Int)) (s:=8*i) (by omega)).trans ed
    have hv:IntKind.u8.wrap ((n/256^i:Nat):Int)=((UInt8.ofNat (n/256^i%256)).toNat:Nat):=by
      rw [UInt8.toNat_ofNat',Nat.mod_eq_of_lt (Nat.mod_lt _ (by decide)),IntKind.wrap_u8]
      omega
    have hbl:Nat.blt (0+i*1) ((lo 8 n i).map bc).length=true:=by rw [lo_len _ _ _ hi,Nat.blt_eq];omega
    (refine aA<|rgN<|klt O O (cN (by omega))<|aB<|aA<|aE O ?_;refine aH ?_;refine aA<|aG<|aA<|rgN<|kmv O<|kas O<|aB<|rgN<|kmv O<|kmv O<|kmv O<|kmv O<|bL O O w8 dP<|bM O O (by omega) hs dP ?_;refine kcv O hv ?_;refine K.indexSlc O O (by omega) O dP ?_;refine bG O O O O hbl (lo_set hlt) dP<|aB<|rgN<|kad O O (cF (by omega))<|kmv O<|aB ?_)
    exact ⟨_,_,by omega,Le.of (by exact ⟨O,O,O,O,trivial⟩) (by exact ⟨O,trivial⟩) (by exact O) (by exact O) (by repeat' (first|refine bR ?_ ?_|rfl|exact bT|exact bS|exact bU O)),i+1,by omega,O,O⟩
  · have e:i=8:=by omega
    subst e
    have hlen:0+8≤((lo 8 n 8).map bc).length:=by rw [lo_len _ _ _ (dL _)];omega
    have hcut:(((lo 8 n 8).map bc).drop 0).take 8=(leB 8 n).map bc:=by
      rw [List.drop_zero,List.take_of_length_le (by rw [lo_len _ _ _ (dL _)];exact dL _),lo_all]
    (refine aA<|rgN<|klt O O (cL (by omega))<|aB<|aA<|aF O ?_;refine aJ<|aA<|rgN<|kmv O<|bQ O O (by kernel_rfl) StrT.u hlen hcut dP<|kas O<|aB<|aI ?_)
    exact ⟨[_],⟨O,trivial⟩,O⟩
end Go.Proofs.YtjifibloagkeeaaGreat
end
section
namespace Go.Proofs.YtjifibloagkeeaaGreat
open Go Go.Lg
variable (X:Nat→Option Obj)
abbrev w0 (k:Nat):List (Nat×Option Box):=[(k,some ⟨174,[.val (.pointer none),.val (.int .i64 0)],false⟩)]
abbrev w1 (k ks kb:Nat) (l:List UInt8):List (Nat×Option Box):=
  [(k,some ⟨174,[.ptr ks 0,.val (.int .i64 (l.length:Nat))],false⟩),(ks,some ⟨186,[.slc kb 0 l.length],false⟩),(kb,some ⟨5,l.map bc,true⟩)]
theorem String_0:MSpec Tryz.prog X 96 [Lp 1000000] (w0 1000000) (Ls []) (w0 1000000):=by
  refine cE Tryz.func96 rfl (by kernel_rfl) rfl rfl rfl rfl rfl ?_
  intro C
  (refine aA<|rgN<|kas O<|aB<|aA<|aA<|rgN<|kmv O<|K.ptrNil O (by kernel_rfl) (.inl ⟨O,O⟩) dP<|kmv O<|gmv O O O<|bI O (dQ O O) ?_;refine aN O O (dQ O O) ?_;refine aO O O O (dQ O O) ?_;refine K.nilNil O (by kernel_rfl) (.inl ⟨O,O⟩) (dQ O O) ?_;refine kpf O O<|aB<|aE O ?_;refine aA<|rgN<|kas O<|aB<|aI ?_)
  exact ⟨[],⟨[_],⟨O,trivial⟩,O⟩,⟨⟨_,O,O⟩,trivial⟩,O,O⟩
theorem String_1 (l:List UInt8):MSpec Tryz.prog X 96 [Lp 1000000] (w1 1000000 1000001 1000002 l) (Ls l) (w1 1000000 1000001 1000002 l):=by
  refine cE Tryz.func96 rfl (by kernel_rfl) rfl rfl (by repeat' (first|refine bR ?_ ?_|rfl|exact bT|exact bS|exact bU rfl)) rfl rfl ?_
  intro C
  have hlen:0+l.length≤(l.map bc).length:=by rw [cV];omega
  have hcut:((l.map bc).drop 0).take l.length=l.map bc:=by rw [List.drop_zero,List.take_of_length_le (by rw [cV];exact dL _)]
  (refine aA<|rgN<|kas O<|aB<|aA<|aA<|rgN<|kmv O<|K.ptrNil O (by kernel_rfl) (.inl ⟨O,O⟩) dP<|kmv O<|gmv O O O<|bI O (dQ O O) ?_;refine aN O O (dQ O O) ?_;refine aO O O O (dQ O O) ?_;refine K.ptrNil O (by kernel_rfl) (.inl ⟨O,O⟩) (dQ O O) ?_;refine kpf O O<|aB<|aF O ?_;refine aH ?_;refine aA<|rgD mixed<|kmv O<|bI O dP<|kfa O O ?_;refine kl1 O O O<|bI O dP<|kfa O O ?_;refine kl1 O O O<|kmv O<|bI O dP<|kfa O O ?_;refine kl1 O O O<|K.cutSlc O O bY (dL _) dP<|bQ O O (by kernel_rfl) StrT.u hlen hcut dP<|kas O<|aB<|rgA ?_;refine aI ?_)
  exact ⟨[],⟨[_],⟨rfl,trivial⟩,rfl⟩,(by repeat' (first|exact trivial|refine cO ⟨_,rfl,?_⟩ ?_|refine cO ⟨_,rfl⟩ ?_|rfl|exact bV _ _ _ _|exact bW _ _ _ _|exact bX rfl)),rfl,rfl⟩
theorem WRaw_0 (s:List UInt8) (hs:s.length<1000000000):MSpec Tryz.prog X 104 [Lp 1000000,Ls s] (w0 1000000) (Lb true) (w1 1000000 1000001 1000002 s):=by
  refine cE Tryz.func104 rfl (by kernel_rfl) rfl rfl (by repeat' (first|refine bR ?_ ?_|rfl|exact bT|exact bS|exact bU rfl)) rfl rfl ?_
  intro C
  (refine aA<|rgN<|kas O<|aB<|aA<|aA<|rgN<|kmv O<|K.ptrNil O (by kernel_rfl) (.inl ⟨O,O⟩) dP<|aB<|aF O ?_;refine aH ?_;refine aA<|aA<|rgD mixed<|kmv O<|bI O dP<|kfa O O ?_;refine kl1 O O O<|K.nilNil O (by kernel_rfl) (.inl ⟨O,O⟩) dP<|kmv O<|aC O O O<|aC O O O<|aC O O O<|aC O O O<|aC O O O<|aC O O O<|aC O O O<|aC O O O<|aC O O O<|aC O O O<|aC O O O ?_;refine aC O O O<|aC O O O<|kpt O O<|aB<|rgA ?_;refine aE O ?_;refine rgN<|kmv O<|kmv O<|aU [] (w0 1000000) (String_0 X) O O (by exact (cO ⟨_,O,O⟩ trivial)) (by exact (bR (bR O (bR O O)) O)) O O O O (by exact (.box O O .nil)) dP<|K.strBytes (e:=5) O StrT.u (by kernel_rfl) (by kernel_rfl) O dP<|aT O O (by exact O) (by exact nl1 O O) dP ?_;refine aL O O O dP<|bI O dP<|kfa O O ?_;refine bG O O O O O (nl2 O O O) dP<|aB<|aA<|rgD mixed<|kmv O<|bI O dP<|kfa O O ?_;refine kl1 O O O<|kmv O<|bI O dP<|kfa O O ?_;refine kl1 O O O<|bI O dP<|kfa O O ?_;refine kl1 O O O<|kmv O<|K.appendStr (by_:=1) O O O O (by kernel_rfl) StrT.u (by simp only [dM];omega) (by simp only [dM];omega) O (Nat.zero_add _) (List.nil_append _) dP<|bI O dP<|kfa O O ?_;refine bG O O O O O (nl1 O O) dP<|aB<|rgA ?_;refine aA<|rgN<|kmv O<|kmv O<|bI O dP<|kfa O O ?_;refine kl1 O O O<|bI O dP<|kfa O O ?_;refine kl1 O O O<|K.lenSlc O bY O dP ?_;refine bI O dP<|kfa O O ?_;refine bG O O O O O (nl2 O O O) dP<|aB<|aA<|rgN<|kas O<|aB<|aI ?_)
  exact ⟨[(1000001,32),(1000002,47)],⟨[_],⟨rfl,trivial⟩,rfl⟩,(by repeat' (first|exact trivial|refine cO ⟨_,rfl,?_⟩ ?_|refine cO ⟨_,rfl⟩ ?_|rfl|exact bV _ _ _ _|exact bW _ _ _ _|exact bX rfl)),rfl,rfl⟩
end Go.Proofs.YtjifibloagkeeaaGreat
end
section
namespace Go.Proofs.YtjifibloagkeeaaGreat
open Go Go.Lg
variable (X:Nat→Option Obj)
theorem oshr_1 (n:Nat):((n:Nat):Int).fdiv (2^(min (((8*1:Nat):Int)).toNat IntKind.u64.bits))=((n/256^1:Nat):Int):=by
  have ed:((n:Nat):Int)/2^(8*1)=((n/256^1:Nat):Int):=by rw [p256,Int.natCast_ediv,Int.natCast_pow];rfl
  exact (shr_s (a:=((n:Nat):Int)) (s:=8*1) (by omega)).trans ed
theorem WNum_0_1 (n:Nat) (hn:n<18446744073709551616) (h:n<256^1):MSpec Tryz.prog X 94 [Lp 1000000,Ln .i64 1,Ln .u64 (n:Nat)] (w0 1000000) (Lb true) (w1 1000000 1000001 1000002 (leB 1 n)):=by
  refine cE Tryz.func94 rfl (by kernel_rfl) rfl rfl (by repeat' (first|refine bR ?_ ?_|rfl|exact bT|exact bS|exact bU rfl)) rfl rfl ?_
  intro C
  have hz:((n/256^1:Nat):Int)=0:=by rw [Nat.div_eq_of_lt h];rfl
  have hs:=(oshr_1 n).trans hz
  (refine aA<|rgN<|kas O<|aB<|aA<|aA<|rgN<|kmv O<|kca O O (isWidth_spec X _ true O)<|aV O O dP<|kmv O<|gmv O O O<|gmv O O O<|bL O O (c:=((8*1:Nat):Int)) O (dQ O O) ?_;refine bM O O (by decide) hs (dQ O O) ?_;refine aX O O ((cQ (by omega))) (dQ O O) ?_;refine kpf O O<|aB<|aF O ?_;refine aH ?_;refine aA<|rgN<|kmv O<|kmv O<|kmv O<|kca O O (low_1 X n hn)<|aU [(1000001,501),(1000002,502)] (w1 1000000 501 502 (leB 1 n)) (WRaw_0 X _ (by rw [leB_length];decide)) O O (by exact (cO ⟨_,O,O⟩ trivial)) (by exact (bR (bR O (bR O O)) O)) O O O O (by exact (.box O O (.box O O (.box O O .nil)))) dP<|kas O<|aB<|aI ?_)
  exact ⟨[(1000001,501),(1000002,502)],⟨[_],⟨rfl,trivial⟩,rfl⟩,(by repeat' (first|exact trivial|refine cO ⟨_,rfl,?_⟩ ?_|refine cO ⟨_,rfl⟩ ?_|rfl|exact bV _ _ _ _|exact bW _ _ _ _|exact bX rfl)),rfl,rfl⟩
theorem oshr_2 (n:Nat):((n:Nat):Int).fdiv (2^(min (((8*2:Nat):Int)).toNat IntKind.u64.bits))=((n/256^2:Nat):Int):=by
  have ed:((n:Nat):Int)/2^(8*2)=((n/256^2:Nat):Int):=by rw [p256,Int.natCast_ediv,Int.natCast_pow];rfl
  exact (shr_s (a:=((n:Nat):Int)) (s:=8*2) (by omega)).trans ed
theorem WNum_0_2 (n:Nat) (hn:n<18446744073709551616) (h:n<256^2):MSpec Tryz.prog X 94 [Lp 1000000,Ln .i64 2,Ln .u64 (n:Nat)] (w0 1000000) (Lb true) (w1 1000000 1000001 1000002 (leB 2 n)):=by
  refine cE Tryz.func94 rfl (by kernel_rfl) rfl rfl (by repeat' (first|refine bR ?_ ?_|rfl|exact bT|exact bS|exact bU rfl)) rfl rfl ?_
  intro C
  have hz:((n/256^2:Nat):Int)=0:=by rw [Nat.div_eq_of_lt h];rfl
  have hs:=(oshr_2 n).trans hz
  (refine aA<|rgN<|kas O<|aB<|aA<|aA<|rgN<|kmv O<|kca O O (isWidth_spec X _ true O)<|aV O O dP<|kmv O<|gmv O O O<|gmv O O O<|bL O O (c:=((8*2:Nat):Int)) O (dQ O O) ?_;refine bM O O (by decide) hs (dQ O O) ?_;refine aX O O ((cQ (by omega))) (dQ O O) ?_;refine kpf O O<|aB<|aF O ?_;refine aH ?_;refine aA<|rgN<|kmv O<|kmv O<|kmv O<|kca O O (low_2 X n hn)<|aU [(1000001,501),(1000002,502)] (w1 1000000 501 502 (leB 2 n)) (WRaw_0 X _ (by rw [leB_length];decide)) O O (by exact (cO ⟨_,O,O⟩ trivial)) (by exact (bR (bR O (bR O O)) O)) O O O O (by exact (.box O O (.box O O (.box O O .nil)))) dP<|kas O<|aB<|aI ?_)
  exact ⟨[(1000001,501),(1000002,502)],⟨[_],⟨rfl,trivial⟩,rfl⟩,(by repeat' (first|exact trivial|refine cO ⟨_,rfl,?_⟩ ?_|refine cO ⟨_,rfl⟩ ?_|rfl|exact bV _ _ _ _|exact bW _ _ _ _|exact bX rfl)),rfl,rfl⟩
theorem oshr_4 (n:Nat):((n:Nat):Int).fdiv (2^(min (((8*4:Nat):Int)).toNat IntKind.u64.bits))=((n/256^4:Nat):Int):=by
  have ed:((n:Nat):Int)/2^(8*4)=((n/256^4:Nat):Int):=by rw [p256,Int.natCast_ediv,Int.natCast_pow];rfl
  exact (shr_s (a:=((n:Nat):Int)) (s:=8*4) (by omega)).trans ed
theorem WNum_0_4 (n:Nat) (hn:n<18446744073709551616) (h:n<256^4):MSpec Tryz.prog X 94 [Lp 1000000,Ln .i64 4,Ln .u64 (n:Nat)] (w0 1000000) (Lb true) (w1 1000000 1000001 1000002 (leB 4 n)):=by
  refine cE Tryz.func94 rfl (by kernel_rfl) rfl rfl (by repeat' (first|refine bR ?_ ?_|rfl|exact bT|exact bS|exact bU rfl)) rfl rfl ?_
  intro C
  have hz:((n/256^4:Nat):Int)=0:=by rw [Nat.div_eq_of_lt h];rfl
  have hs:=(oshr_4 n).trans hz
  (refine aA<|rgN<|kas O<|aB<|aA<|aA<|rgN<|kmv O<|kca O O (isWidth_spec X _ true O)<|aV O O dP<|kmv O<|gmv O O O<|gmv O O O<|bL O O (c:=((8*4:Nat):Int)) O (dQ O O) ?_;refine bM O O (by decide) hs (dQ O O) ?_;refine aX O O ((cQ (by omega))) (dQ O O) ?_;refine kpf O O<|aB<|aF O ?_;refine aH ?_;refine aA<|rgN<|kmv O<|kmv O<|kmv O<|kca O O (low_4 X n hn)<|aU [(1000001,501),(1000002,502)] (w1 1000000 501 502 (leB 4 n)) (WRaw_0 X _ (by rw [leB_length];decide)) O O (by exact (cO ⟨_,O,O⟩ trivial)) (by exact (bR (bR O (bR O O)) O)) O O O O (by exact (.box O O (.box O O (.box O O .nil)))) dP<|kas O<|aB<|aI ?_)
  exact ⟨[(1000001,501),(1000002,502)],⟨[_],⟨rfl,trivial⟩,rfl⟩,(by repeat' (first|exact trivial|refine cO ⟨_,rfl,?_⟩ ?_|refine cO ⟨_,rfl⟩ ?_|rfl|exact bV _ _ _ _|exact bW _ _ _ _|exact bX rfl)),rfl,rfl⟩
theorem oshr_8 (n:Nat):((n:Nat):Int).fdiv (2^(min (((8*8:Nat):Int)).toNat IntKind.u64.bits))=((n/256^8:Nat):Int):=by
  have ed:((n:Nat):Int)/2^(8*8)=((n/256^8:Nat):Int):=by rw [p256,Int.natCast_ediv,Int.natCast_pow];rfl
  exact (shr_s (a:=((n:Nat):Int)) (s:=8*8) (by omega)).trans ed
theorem WNum_0_8 (n:Nat) (hn:n<18446744073709551616) (h:n<256^8):MSpec Tryz.prog X 94 [Lp 1000000,Ln .i64 8,Ln .u64 (n:Nat)] (w0 1000000) (Lb true) (w1 1000000 1000001 1000002 (leB 8 n)):=by
  refine cE Tryz.func94 rfl (by kernel_rfl) rfl rfl (by repeat' (first|refine bR ?_ ?_|rfl|exact bT|exact bS|exact bU rfl)) rfl rfl ?_
  intro C
  have hz:((n/256^8:Nat):Int)=0:=by rw [Nat.div_eq_of_lt h];rfl
  have hs:=(oshr_8 n).trans hz
  (refine aA<|rgN<|kas O<|aB<|aA<|aA<|rgN<|kmv O<|kca O O (isWidth_spec X _ true O)<|aV O O dP<|kmv O<|gmv O O O<|gmv O O O<|bL O O (c:=((8*8:Nat):Int)) O (dQ O O) ?_;refine bM O O (by decide) hs (dQ O O) ?_;refine aX O O ((cQ (by omega))) (dQ O O) ?_;refine kpf O O<|aB<|aF O ?_;refine aH ?_;refine aA<|rgN<|kmv O<|kmv O<|kmv O<|kca O O (low_8 X n hn)<|aU [(1000001,501),(1000002,502)] (w1 1000000 501 502 (leB 8 n)) (WRaw_0 X _ (by rw [leB_length];decide)) O O (by exact (cO ⟨_,O,O⟩ trivial)) (by exact (bR (bR O (bR O O)) O)) O O O O (by exact (.box O O (.box O O (.box O O .nil)))) dP<|kas O<|aB<|aI ?_)
  exact ⟨[(1000001,501),(1000002,502)],⟨[_],⟨rfl,trivial⟩,rfl⟩,(by repeat' (first|exact trivial|refine cO ⟨_,rfl,?_⟩ ?_|refine cO ⟨_,rfl⟩ ?_|rfl|exact bV _ _ _ _|exact bW _ _ _ _|exact bX rfl)),rfl,rfl⟩
end Go.Proofs.YtjifibloagkeeaaGreat
end
section
namespace Go.Lg.Fld
open Go Go.Lg
def kN (k:Int):List UInt8:=if k=1 then [98,111,111,108] else if k=2 then [105,56] else if k=3 then [105,49,54] else if k=4 then [105,51,50] else if k=5 then [105,54,52] else if k=6 then [117,56] else if k=7 then [117,49,54] else if k=8 then [117,51,50] else if k=9 then [117,54,52] else if k=10 then [114,101,102] else []
def kW (k:Int):Nat:=if k=1 then 1 else if k=2 then 1 else if k=3 then 2 else if k=4 then 4 else if k=5 then 8 else if k=6 then 1 else if k=7 then 2 else if k=8 then 4 else if k=9 then 8 else if k=10 then 8 else 0
def kB (k:Int):Int:=if k=1 then 0 else if k=2 then 128 else if k=3 then 32768 else if k=4 then 2147483648 else if k=5 then 9223372036854775808 else if k=6 then 0 else if k=7 then 0 else if k=8 then 0 else if k=9 then 0 else if k=10 then 0 else 0
def kA (k:Int):Int:=if k=1 then 1 else if k=2 then 127 else if k=3 then 32767 else if k=4 then 2147483647 else if k=5 then 9223372036854775807 else if k=6 then 255 else if k=7 then 65535 else if k=8 then 4294967295 else if k=9 then 18446744073709551615 else if k=10 then 18446744073709551615 else 0
def kK (k:Int):Bool:=decide (1≤k)&&decide (k≤10)
theorem kcases (k:Int):k=1∨k=2∨k=3∨k=4∨k=5∨k=6∨k=7∨k=8∨k=9∨k=10∨(k<1∨10<k):=by omega
theorem kin {k:Int} (h:kK k=true):k=1∨k=2∨k=3∨k=4∨k=5∨k=6∨k=7∨k=8∨k=9∨k=10:=by
  simp only [kK,Bool.and_eq_true,decide_eq_true_eq] at h;omega
theorem knot {k:Int} (h:kK k=false):k<1∨10<k:=by
  by_cases h1:1≤k<;>by_cases h2:k≤10<;>first|omega|(rw [kK,cN h1,cN h2] at h;cases h)
theorem kK_iff (k:Int):kK k=true↔1≤k∧k≤10:=by simp only [kK,Bool.and_eq_true,decide_eq_true_eq]
theorem kN_no {k:Int} (h:k<1∨10<k):kN k=[]:=by
  unfold kN
  rw [if_neg (show ¬ k=1 by omega),if_neg (show ¬ k=2 by omega),if_neg (show ¬ k=3 by omega),if_neg (show ¬ k=4 by omega),if_neg (show ¬ k=5 by omega),if_neg (show ¬ k=6 by omega),if_neg (show ¬ k=7 by omega),if_neg (show ¬ k=8 by omega),if_neg (show ¬ k=9 by omega),if_neg (show ¬ k=10 by omega)]
theorem kW_no {k:Int} (h:k<1∨10<k):kW k=0:=by
  unfold kW
  rw [if_neg (show ¬ k=1 by omega),if_neg (show ¬ k=2 by omega),if_neg (show ¬ k=3 by omega),if_neg (show ¬ k=4 by omega),if_neg (show ¬ k=5 by omega),if_neg (show ¬ k=6 by omega),if_neg (show ¬ k=7 by omega),if_neg (show ¬ k=8 by omega),if_neg (show ¬ k=9 by omega),if_neg (show ¬ k=10 by omega)]
theorem kB_no {k:Int} (h:k<1∨10<k):kB k=0:=by
  unfold kB
  rw [if_neg (show ¬ k=1 by omega),if_neg (show ¬ k=2 by omega),if_neg (show ¬ k=3 by omega),if_neg (show ¬ k=4 by omega),if_neg (show ¬ k=5 by omega),if_neg (show ¬ k=6 by omega),if_neg (show ¬ k=7 by omega),if_neg (show ¬ k=8 by omega),if_neg (show ¬ k=9 by omega),if_neg (show ¬ k=10 by omega)]
theorem kA_no {k:Int} (h:k<1∨10<k):kA k=0:=by
  unfold kA
  rw [if_neg (show ¬ k=1 by omega),if_neg (show ¬ k=2 by omega),if_neg (show ¬ k=3 by omega),if_neg (show ¬ k=4 by omega),if_neg (show ¬ k=5 by omega),if_neg (show ¬ k=6 by omega),if_neg (show ¬ k=7 by omega),if_neg (show ¬ k=8 by omega),if_neg (show ¬ k=9 by omega),if_neg (show ¬ k=10 by omega)]
theorem kfacts (k:Int):0≤kB k∧kB k≤9223372036854775808∧0≤kA k∧kA k<18446744073709551616∧kW k≤8:=by
  rcases kcases k with rfl|rfl|rfl|rfl|rfl|rfl|rfl|rfl|rfl|rfl|h
  all_goals first|(rw [kW_no h,kB_no h,kA_no h];omega)|decide
theorem kW_in {k:Int} (h:kK k=true):kW k=1∨kW k=2∨kW k=4∨kW k=8:=by
  rcases kin h with rfl|rfl|rfl|rfl|rfl|rfl|rfl|rfl|rfl|rfl<;>decide
theorem kW_zero (k:Int):kW k=0↔kK k=false:=by
  cases h:kK k with
  | false=>simp [kW_no (knot h)]
  | true=>rcases kW_in h with e|e|e|e<;>simp [e]
end Go.Lg.Fld
namespace Go.Proofs.YtjifibloagkeeaaGreat
open Go Go.Lg Go.Lg.Fld
set_option maxRecDepth 100000
variable (X:Nat→Option Obj)
theorem shapeOf_spec (k:Int):PSpec Tryz.prog X 100 [Ln .i64 k] (.sv (.agg [.val (.string ⟨(kN k).toArray⟩),.val (.int .i64 (kW k:Nat)),.val (.int .u64 (kB k)),.val (.int .u64 (kA k))])):=by
  refine cD Tryz.func100 rfl (by kernel_rfl) rfl rfl ?_
  intro C
  rcases kcases k with rfl|rfl|rfl|rfl|rfl|rfl|rfl|rfl|rfl|rfl|h
  · (refine aA<|rgN<|aP O dP ?_;refine aB<|aA<|aA<|rgN<|kmv O<|aB<|aG<|aA<|rgN<|keq O O (cS (by omega))<|kas O<|aB<|aE O ?_;refine aA<|rgN<|aT O O (by exact O) (by exact nl4 O O O O O) dP ?_;refine aM O O O O O O dP ?_;refine aB<|aI ?_)
    exact ⟨[_],⟨⟨_,_,O,O,O,.inl ⟨AggT.h,O⟩⟩,trivial⟩,O⟩
  · (refine aA<|rgN<|aP O dP ?_;refine aB<|aA<|aA<|rgN<|kmv O<|aB<|aG<|aA<|rgN<|keq O O (cP (by omega))<|kas O<|aB<|aF O ?_;refine aA<|rgN<|keq O O (cS (by omega))<|kas O<|aB<|aE O ?_;refine aA<|rgN<|aT O O (by exact O) (by exact nl4 O O O O O) dP ?_;refine aM O O O O O O dP ?_;refine aB<|aI ?_)
    exact ⟨[_],⟨⟨_,_,O,O,O,.inl ⟨AggT.h,O⟩⟩,trivial⟩,O⟩
  · (refine aA<|rgN<|aP O dP ?_;refine aB<|aA<|aA<|rgN<|kmv O<|aB<|aG<|aA<|rgN<|keq O O (cP (by omega))<|kas O<|aB<|aF O ?_;refine aA<|rgN<|keq O O (cP (by omega))<|kas O<|aB<|aF O ?_;refine aA<|rgN<|keq O O (cS (by omega))<|kas O<|aB<|aE O ?_;refine aA<|rgN<|aT O O (by exact O) (by exact nl4 O O O O O) dP ?_;refine aM O O O O O O dP ?_;refine aB<|aI ?_)
    exact ⟨[_],⟨⟨_,_,O,O,O,.inl ⟨AggT.h,O⟩⟩,trivial⟩,O⟩
  · (refine aA<|rgN<|aP O dP ?_;refine aB<|aA<|aA<|rgN<|kmv O<|aB<|aG<|aA<|rgN<|keq O O (cP (by omega))<|kas O<|aB<|aF O ?_;refine aA<|rgN<|keq O O (cP (by omega))<|kas O<|aB<|aF O ?_;refine aA<|rgN<|keq O O (cP (by omega))<|kas O<|aB<|aF O ?_;refine aA<|rgN<|keq O O (cS (by omega))<|kas O<|aB<|aE O ?_;refine aA<|rgN<|aT O O (by exact O) (by exact nl4 O O O O O) dP ?_;refine aM O O O O O O dP ?_;refine aB<|aI ?_)
    exact ⟨[_],⟨⟨_,_,O,O,O,.inl ⟨AggT.h,O⟩⟩,trivial⟩,O⟩
  · (refine aA<|rgN<|aP O dP ?_;refine aB<|aA<|aA<|rgN<|kmv O<|aB<|aG<|aA<|rgN<|keq O O (cP (by omega))<|kas O<|aB<|aF O ?_;refine aA<|rgN<|keq O O (cP (by omega))<|kas O<|aB<|aF O ?_;refine aA<|rgN<|keq O O (cP (by omega))<|kas O<|aB<|aF O ?_;refine aA<|rgN<|keq O O (cP (by omega))<|kas O<|aB<|aF O ?_;refine aA<|rgN<|keq O O (cS (by omega))<|kas O<|aB<|aE O ?_;refine aA<|rgN<|aT O O (by exact O) (by exact nl4 O O O O O) dP ?_;refine aM O O O O O O dP ?_;refine aB<|aI ?_)
    exact ⟨[_],⟨⟨_,_,O,O,O,.inl ⟨AggT.h,O⟩⟩,trivial⟩,O⟩
  · (refine aA<|rgN<|aP O dP ?_;refine aB<|aA<|aA<|rgN<|kmv O<|aB<|aG<|aA<|rgN<|keq O O (cP (by omega))<|kas O<|aB<|aF O ?_;refine aA<|rgN<|keq O O (cP (by omega))<|kas O<|aB<|aF O ?_;refine aA<|rgN<|keq O O (cP (by omega))<|kas O<|aB<|aF O ?_;refine aA<|rgN<|keq O O (cP (by omega))<|kas O<|aB<|aF O ?_;refine aA<|rgN<|keq O O (cP (by omega))<|kas O<|aB<|aF O ?_;refine aA<|rgN<|keq O O (cS (by omega))<|kas O<|aB<|aE O ?_;refine aA<|rgN<|aT O O (by exact O) (by exact nl4 O O O O O) dP ?_;refine aM O O O O O O dP ?_;refine aB<|aI ?_)
    exact ⟨[_],⟨⟨_,_,O,O,O,.inl ⟨AggT.h,O⟩⟩,trivial⟩,O⟩
  · (refine aA<|rgN<|aP O dP ?_;refine aB<|aA<|aA<|rgN<|kmv O<|aB<|aG<|aA<|rgN<|keq O O (cP (by omega))<|kas O<|aB<|aF O ?_;refine aA<|rgN<|keq O O (cP (by omega))<|kas O<|aB<|aF O ?_;refine aA<|rgN<|keq O O (cP (by omega))<|kas O<|aB<|aF O ?_;refine aA<|rgN<|keq O O (cP (by omega))<|kas O<|aB<|aF O ?_;refine aA<|rgN<|keq O O (cP (by omega))<|kas O<|aB<|aF O ?_;refine aA<|rgN<|keq O O (cP (by omega))<|kas O<|aB<|aF O ?_;refine aA<|rgN<|keq O O (cS (by omega))<|kas O<|aB<|aE O ?_;refine aA<|rgN<|aT O O (by exact O) (by exact nl4 O O O O O) dP ?_;refine aM O O O O O O dP ?_;refine aB<|aI ?_)
    exact ⟨[_],⟨⟨_,_,O,O,O,.inl ⟨AggT.h,O⟩⟩,trivial⟩,O⟩
  · (refine aA<|rgN<|aP O dP ?_;refine aB<|aA<|aA<|rgN<|kmv O<|aB<|aG<|aA<|rgN<|keq O O (cP (by omega))<|kas O<|aB<|aF O ?_;refine aA<|rgN<|keq O O (cP (by omega))<|kas O<|aB<|aF O ?_;refine aA<|rgN<|keq O O (cP (by omega))<|kas O<|aB<|aF O ?_;refine aA<|rgN<|keq O O (cP (by omega))<|kas O<|aB<|aF O ?_;refine aA<|rgN<|keq O O (cP (by omega))<|kas O<|aB<|aF O ?_;refine aA<|rgN<|keq O O (cP (by omega))<|kas O<|aB<|aF O ?_;refine aA<|rgN<|keq O O (cP (by omega))<|kas O<|aB<|aF O ?_;refine aA<|rgN<|keq O O (cS (by omega))<|kas O<|aB<|aE O ?_;refine aA<|rgN<|aT O O (by exact O) (by exact nl4 O O O O O) dP ?_;refine aM O O O O O O dP ?_;refine aB<|aI ?_)
    exact ⟨[_],⟨⟨_,_,O,O,O,.inl ⟨AggT.h,O⟩⟩,trivial⟩,O⟩
  · (refine aA<|rgN<|aP O dP ?_;refine aB<|aA<|aA<|rgN<|kmv O<|aB<|aG<|aA<|rgN<|keq O O (cP (by omega))<|kas O<|aB<|aF O ?_;refine aA<|rgN<|keq O O (cP (by omega))<|kas O<|aB<|aF O ?_;refine aA<|rgN<|keq O O (cP (by omega))<|kas O<|aB<|aF O ?_;refine aA<|rgN<|keq O O (cP (by omega))<|kas O<|aB<|aF O ?_;refine aA<|rgN<|keq O O (cP (by omega))<|kas O<|aB<|aF O ?_;refine aA<|rgN<|keq O O (cP (by omega))<|kas O<|aB<|aF O ?_;refine aA<|rgN<|keq O O (cP (by omega))<|kas O<|aB<|aF O ?_;refine aA<|rgN<|keq O O (cP (by omega))<|kas O<|aB<|aF O ?_;refine aA<|rgN<|keq O O (cS (by omega))<|kas O<|aB<|aE O ?_;refine aA<|rgN<|aT O O (by exact O) (by exact nl4 O O O O O) dP ?_;refine aM O O O O O O dP ?_;refine aB<|aI ?_)
    exact ⟨[_],⟨⟨_,_,O,O,O,.inl ⟨AggT.h,O⟩⟩,trivial⟩,O⟩
  · (refine aA<|rgN<|aP O dP ?_;refine aB<|aA<|aA<|rgN<|kmv O<|aB<|aG<|aA<|rgN<|keq O O (cP (by omega))<|kas O<|aB<|aF O ?_;refine aA<|rgN<|keq O O (cP (by omega))<|kas O<|aB<|aF O ?_;refine aA<|rgN<|keq O O (cP (by omega))<|kas O<|aB<|aF O ?_;refine aA<|rgN<|keq O O (cP (by omega))<|kas O<|aB<|aF O ?_;refine aA<|rgN<|keq O O (cP (by omega))<|kas O<|aB<|aF O ?_;refine aA<|rgN<|keq O O (cP (by omega))<|kas O<|aB<|aF O ?_;refine aA<|rgN<|keq O O (cP (by omega))<|kas O<|aB<|aF O ?_;refine aA<|rgN<|keq O O (cP (by omega))<|kas O<|aB<|aF O ?_;refine aA<|rgN<|keq O O (cP (by omega))<|kas O<|aB<|aF O ?_;refine aA<|rgN<|keq O O (cS (by omega))<|kas O<|aB<|aE O ?_;refine aA<|rgN<|aT O O (by exact O) (by exact nl4 O O O O O) dP ?_;refine aM O O O O O O dP ?_;refine aB<|aI ?_)
    exact ⟨[_],⟨⟨_,_,O,O,O,.inl ⟨AggT.h,O⟩⟩,trivial⟩,O⟩
  · rw [kN_no h,kW_no h,kB_no h,kA_no h]
    (refine aA<|rgN<|aP O dP ?_;refine aB<|aA<|aA<|rgN<|kmv O<|aB<|aG<|aA<|rgN<|keq O O (cP (by omega))<|kas O<|aB<|aF O ?_;refine aA<|rgN<|keq O O (cP (by omega))<|kas O<|aB<|aF O ?_;refine aA<|rgN<|keq O O (cP (by omega))<|kas O<|aB<|aF O ?_;refine aA<|rgN<|keq O O (cP (by omega))<|kas O<|aB<|aF O ?_;refine aA<|rgN<|keq O O (cP (by omega))<|kas O<|aB<|aF O ?_;refine aA<|rgN<|keq O O (cP (by omega))<|kas O<|aB<|aF O ?_;refine aA<|rgN<|keq O O (cP (by omega))<|kas O<|aB<|aF O ?_;refine aA<|rgN<|keq O O (cP (by omega))<|kas O<|aB<|aF O ?_;refine aA<|rgN<|keq O O (cP (by omega))<|kas O<|aB<|aF O ?_;refine aA<|rgN<|keq O O (cP (by omega))<|kas O<|aB<|aF O ?_;refine aH ?_;refine aA<|rgN<|aT O O (by exact O) (by exact nl4 O O O O O) dP ?_;refine aM O O O O O O dP ?_;refine aB<|aI ?_)
    exact ⟨[_],⟨⟨_,_,O,O,O,.inl ⟨AggT.h,O⟩⟩,trivial⟩,O⟩
theorem fSize_spec (k:Int):PSpec Tryz.prog X 84 [Ln .i64 k] (Ln .i64 (kW k:Nat)):=by
  refine cD Tryz.func84 rfl (by kernel_rfl) rfl rfl ?_
  intro C
  (refine aA<|rgN<|kas O<|aB<|aA<|rgN<|kmv O<|kca O O (shapeOf_spec X k)<|K.fieldOne O Tryz.underlying180 O (by kernel_rfl) O dP<|kas O<|aB<|aI ?_)
  exact ⟨[_],⟨O,trivial⟩,O⟩
theorem OfWord_q (n:Int) (hn:0≤n∧n<18446744073709551616):PSpec Tryz.prog X 112 [Ln .u64 n] (LQ n):=by
  have h:=OfWord_spec X n
  unfold LQ LI
  rw [mg_pos hn.1,cL (by omega),show n/18446744073709551616=0 by omega,show n%18446744073709551616=n by omega]
  exact h
theorem Greatest_spec (k:Int):PSpec Tryz.prog X 108 [Ln .i64 k] (LQ (kA k)):=by
  obtain ⟨_,_,h2,h3,_⟩:=kfacts k
  refine cD Tryz.func108 rfl (by kernel_rfl) rfl rfl ?_
  intro C
  (refine aA<|rgN<|aP O dP ?_;refine aB<|aA<|rgN<|kmv O<|kca O O (shapeOf_spec X k)<|K.fieldOne O Tryz.underlying180 O (by kernel_rfl) O dP<|kca O O (OfWord_q X (kA k) ⟨h2,h3⟩)<|aM O O O O O O dP ?_;refine aB<|aI ?_)
  exact ⟨[_],⟨⟨_,_,O,O,O,.inl ⟨AggT.h,O⟩⟩,trivial⟩,O⟩
theorem kB_R (k:Int):R127 (kB k):=by
  have:=kfacts k
  unfold R127;omega
theorem kBn_R (k:Int):R127 (-kB k):=by
  have:=kfacts k
  unfold R127;omega
theorem kA_R (k:Int):R127 (kA k):=by
  have:=kfacts k
  unfold R127;omega
theorem Least_spec (k:Int):PSpec Tryz.prog X 107 [Ln .i64 k] (LQ (-kB k)):=by
  obtain ⟨h0,h1,_⟩:=kfacts k
  refine cD Tryz.func107 rfl (by kernel_rfl) rfl rfl ?_
  intro C
  (refine aA<|rgN<|aP O dP ?_;refine aB<|aA<|rgN<|kmv O<|kca O O (shapeOf_spec X k)<|K.fieldOne O Tryz.underlying180 O (by kernel_rfl) O dP<|kca O O (OfWord_q X (kB k) ⟨h0,by omega⟩)<|kca O O (Neg_q X (kB k) (kB_R k))<|aM O O O O O O dP ?_;refine aB<|aI ?_)
  exact ⟨[_],⟨⟨_,_,O,O,O,.inl ⟨AggT.h,O⟩⟩,trivial⟩,O⟩
theorem isKind_spec (k:Int) (r:Bool) (hr:kK k=r):PSpec Tryz.prog X 93 [Ln .i64 k] (Lb r):=by
  subst hr
  refine cD Tryz.func93 rfl (by kernel_rfl) rfl rfl ?_
  intro C
  by_cases h1:1≤k
  · (refine aA<|rgN<|kas O<|aB<|aA<|rgN<|kmv O<|K.leq O O (cN (by omega)) dP<|kmv O<|gmv O O O<|K.leq O O O (dQ O O) ?_;refine kpt O O<|kas O<|aB<|aI ?_)
    exact ⟨[_],⟨rfl,trivial⟩,by unfold kK;rw [cN h1];rfl⟩
  · (refine aA<|rgN<|kas O<|aB<|aA<|rgN<|kmv O<|K.leq O O (cL (by omega)) dP<|kmv O<|aC O O O<|aC O O O<|kpf O O<|kas O<|aB ?_;refine aI ?_)
    exact ⟨[_],⟨rfl,trivial⟩,by unfold kK;rw [cL h1];rfl⟩
end Go.Proofs.YtjifibloagkeeaaGreat
end
section
namespace Go.Lg.Fld
open Go Go.Lg
def clampK (k x:Int):Int:=if x < -kB k then -kB k else if kA k<x then kA k else x
def fitZ (k x:Int):Bool:=decide (-kB k≤x)&&decide (x≤kA k)
theorem fitZ_iff (k x:Int):fitZ k x=true ↔ -kB k≤x∧x≤kA k:=by simp only [fitZ,Bool.and_eq_true,decide_eq_true_eq]
theorem clamp_same (k x:Int):decide (clampK k x=x)=fitZ k x:=by
  obtain ⟨h0,_,h2,_,_⟩:=kfacts k
  rw [Bool.eq_iff_iff,decide_eq_true_eq,fitZ_iff]
  unfold clampK
  (repeat' split)<;>omega
end Go.Lg.Fld
namespace Go.Proofs.YtjifibloagkeeaaGreat
open Go Go.Lg Go.Lg.Fld
set_option maxRecDepth 100000
variable (X:Nat→Option Obj)
theorem Clamp_bad (k:Int) (b:Bool) (N:Int) (hN:In2 N) (hf:formB b N=false):PSpec Tryz.prog X 102 [Ln .i64 k,LI b N] (.sv S0):=by
  refine cD Tryz.func102 rfl (by kernel_rfl) rfl rfl ?_
  intro C
  (refine aA<|rgN<|aL O O O dP<|aP O dP ?_;refine aB<|aA<|rgN<|kmv O<|kca O O (Least_spec X k)<|kmv O<|kca O O (Greatest_spec X k)<|aP O dP ?_;refine aP O dP ?_;refine aM O O O O O O dP ?_;refine aM O O O O O O dP ?_;refine aB<|aA<|aG<|aA<|rgN<|aK O O O dP ?_;refine kca O O (Form_spec X b N hN false hf)<|aV O O dP<|kas O<|aB<|aE O ?_;refine aA<|rgN<|aT O O (by exact O) (by exact nl3 O O O O) dP ?_;refine aM O O O O O O dP ?_;refine aB<|aI ?_)
  exact ⟨[_],⟨⟨_,_,O,O,O,.inl ⟨AggT.h,O⟩⟩,trivial⟩,O⟩
theorem Clamp_spec (k x:Int) (hx:R127 x):PSpec Tryz.prog X 102 [Ln .i64 k,LQ x] (LQ (clampK k x)):=by
  have hF:=Form_spec X (decide (x<0)) (mg x) (mg_in2 hx) true (formB_q hx)
  have c1:=Cmp_q X x (-kB k) hx (kBn_R k)
  have c2:=Cmp_q X x (kA k) hx (kA_R k)
  have hL:=Least_spec X k
  have hG:=Greatest_spec X k
  have hk:=kfacts k
  refine cD Tryz.func102 rfl (by kernel_rfl) rfl rfl ?_
  intro C
  by_cases h1:x < -kB k
  · have e:clampK k x = -kB k:=if_pos h1
    rw [e]
    have c1':=c1 (-1) (by unfold cmpI;rw [if_pos h1])
    (refine aA<|rgN<|aL O O O dP<|aP O dP ?_;refine aB<|aA<|rgN<|kmv O<|kca O O (hL)<|kmv O<|kca O O (hG)<|aP O dP ?_;refine aP O dP ?_;refine aM O O O O O O dP ?_;refine aM O O O O O O dP ?_;refine aB<|aA<|aG<|aA<|rgN<|aK O O O dP ?_;refine kca O O (hF)<|aV O O dP<|kas O<|aB<|aF O ?_;refine aA<|rgN<|aK O O O dP ?_;refine aK O O O dP ?_;refine kca O O (c1')<|klt O O (cN (by omega))<|kas O<|aB<|aE O ?_;refine aA<|rgN<|aK O O O dP ?_;refine aM O O O O O O dP ?_;refine aB<|aI ?_)
    exact ⟨[_],⟨⟨_,_,O,O,O,.inl ⟨AggT.h,O⟩⟩,trivial⟩,O⟩
  · have c1':∃ r:Int,0≤r∧cmpI x (-kB k)=r:=⟨_,(by unfold cmpI;rw [if_neg h1];split<;>decide),rfl⟩
    obtain ⟨r,hr0,hr⟩:=c1'
    have c1':=c1 r hr
    by_cases h2:kA k<x
    · have e:clampK k x=kA k:=by unfold clampK;rw [if_neg h1,if_pos h2]
      rw [e]
      have c2':=c2 1 (by unfold cmpI;rw [if_neg (show ¬ x<kA k by omega),if_pos h2])
      (refine aA<|rgN<|aL O O O dP<|aP O dP ?_;refine aB<|aA<|rgN<|kmv O<|kca O O (hL)<|kmv O<|kca O O (hG)<|aP O dP ?_;refine aP O dP ?_;refine aM O O O O O O dP ?_;refine aM O O O O O O dP ?_;refine aB<|aA<|aG<|aA<|rgN<|aK O O O dP ?_;refine kca O O (hF)<|aV O O dP<|kas O<|aB<|aF O ?_;refine aA<|rgN<|aK O O O dP ?_;refine aK O O O dP ?_;refine kca O O c1'<|klt O O (cL (by omega))<|kas O<|aB<|aF O ?_;refine aA<|rgN<|aK O O O dP ?_;refine aK O O O dP ?_;refine kca O O c2'<|aS O O (cN (by omega)) dP<|kas O<|aB<|aE O ?_;refine aA<|rgN<|aK O O O dP ?_;refine aM O O O O O O dP ?_;refine aB<|aI ?_)
      exact ⟨[_],⟨⟨_,_,O,O,O,.inl ⟨AggT.h,O⟩⟩,trivial⟩,O⟩
    · have e:clampK k x=x:=by unfold clampK;rw [if_neg h1,if_neg h2]
      rw [e]
      obtain ⟨s,hs0,hs⟩:∃ s:Int,s≤0∧cmpI x (kA k)=s:=⟨_,(by unfold cmpI;rw [if_neg h2];split<;>decide),rfl⟩
      have c2':=c2 s hs
      (refine aA<|rgN<|aL O O O dP<|aP O dP ?_;refine aB<|aA<|rgN<|kmv O<|kca O O (hL)<|kmv O<|kca O O (hG)<|aP O dP ?_;refine aP O dP ?_;refine aM O O O O O O dP ?_;refine aM O O O O O O dP ?_;refine aB<|aA<|aG<|aA<|rgN<|aK O O O dP ?_;refine kca O O (hF)<|aV O O dP<|kas O<|aB<|aF O ?_;refine aA<|rgN<|aK O O O dP ?_;refine aK O O O dP ?_;refine kca O O c1'<|klt O O (cL (by omega))<|kas O<|aB<|aF O ?_;refine aA<|rgN<|aK O O O dP ?_;refine aK O O O dP ?_;refine kca O O c2'<|aS O O (cL (by omega)) dP<|kas O<|aB<|aF O ?_;refine aH ?_;refine aA<|rgN<|aK O O O dP ?_;refine aM O O O O O O dP ?_;refine aB<|aI ?_)
      exact ⟨[_],⟨⟨_,_,O,O,O,.inl ⟨AggT.h,O⟩⟩,trivial⟩,O⟩
def fitB (k:Int) (b:Bool) (N:Int):Bool:=kK k&&(formB b N&&fitZ k (zv b N))
theorem Fits_no (k:Int) (b:Bool) (N:Int) (hk:kK k=false):PSpec Tryz.prog X 92 [Ln .i64 k,LI b N] (Lb false):=by
  refine cD Tryz.func92 rfl (by kernel_rfl) rfl rfl ?_
  intro C
  (refine aA<|rgN<|aL O O O dP<|kas O<|aB<|aA<|rgD mixed<|kmv O<|kca O O (isKind_spec X k false hk)<|kmv O<|aC O O O<|aC O O O<|aC O O O<|aC O O O ?_;refine aC O O O<|kpf O O<|kas O<|aB<|rgA ?_;refine aI ?_)
  exact ⟨[_],⟨O,trivial⟩,O⟩
theorem Fits_bad (k:Int) (b:Bool) (N:Int) (hk:kK k=true) (hN:In2 N) (hf:formB b N=false):PSpec Tryz.prog X 92 [Ln .i64 k,LI b N] (Lb false):=by
  have hC:=Clamp_bad X k b N hN hf
  have hq:(false==b&&((0:Int)==N/18446744073709551616&&(0:Int)==N%18446744073709551616))=false:=by
    cases hb:(false==b&&((0:Int)==N/18446744073709551616&&(0:Int)==N%18446744073709551616)) with
    | false=>rfl
    | true =>
      simp only [Bool.and_eq_true,beq_iff_eq] at hb
      obtain ⟨rfl,h1,h2⟩:=hb
      have:N=0:=by omega
      subst this
      cases hf
  refine cD Tryz.func92 rfl (by kernel_rfl) rfl rfl ?_
  intro C
  (refine aA<|rgN<|aL O O O dP<|kas O<|aB<|aA<|rgD mixed<|kmv O<|kca O O (isKind_spec X k true hk)<|kmv O<|gmv O O O<|aK O O O (dQ O O) ?_;refine gca O O (hC) O O<|aK O O O (dQ O O) ?_;refine K.aggEq O O O O (by kernel_rfl) (eqI false hq) (.inl ⟨O,O⟩) (dQ O O) ?_;refine kpt O O<|kas O<|aB<|rgA ?_;refine aI ?_)
  exact ⟨[_],⟨O,trivial⟩,O⟩
theorem Fits_q (k x:Int) (hk:kK k=true) (hx:R127 x) (r:Bool) (hr:fitZ k x=r):PSpec Tryz.prog X 92 [Ln .i64 k,LQ x] (Lb r):=by
  have hC:=Clamp_spec X k x hx
  have hq:=clamp_same k x
  rw [hr] at hq
  refine cD Tryz.func92 rfl (by kernel_rfl) rfl rfl ?_
  intro C
  (refine aA<|rgN<|aL O O O dP<|kas O<|aB<|aA<|rgD mixed<|kmv O<|kca O O (isKind_spec X k true hk)<|kmv O<|gmv O O O<|aK O O O (dQ O O) ?_;refine gca O O (hC) O O<|aK O O O (dQ O O) ?_;refine K.aggEq O O O O (by kernel_rfl) (eqQ _ _ r hq) (.inl ⟨O,O⟩) (dQ O O) ?_;refine kpt O O<|kas O<|aB<|rgA ?_;refine aI ?_)
  exact ⟨[_],⟨O,trivial⟩,O⟩
theorem Fits_spec (k:Int) (b:Bool) (N:Int) (hN:In2 N) (r:Bool) (hr:fitB k b N=r):PSpec Tryz.prog X 92 [Ln .i64 k,LI b N] (Lb r):=by
  subst hr
  unfold fitB
  cases hk:kK k with
  | false=>exact Fits_no X k b N hk
  | true =>
    cases hf:formB b N with
    | false=>exact Fits_bad X k b N hk hN hf
    | true =>
      rw [LI_q hN hf]
      exact Fits_q X k (zv b N) hk (zv_in hN hf).1 _ O
end Go.Proofs.YtjifibloagkeeaaGreat
end
section
namespace Go.Lg.Fld
open Go Go.Lg
def kM (k:Int):Nat:=256^kW k
def wdK (k x:Int):Nat:=(x%(kM k:Int)).toNat
theorem kM_facts {k:Int} (h:kK k=true):kB k+kA k<(kM k:Int)∧(kM k:Int)≤18446744073709551616∧0<kM k:=by
  rcases kin h with rfl|rfl|rfl|rfl|rfl|rfl|rfl|rfl|rfl|rfl<;>decide
theorem wd_lt {k:Int} (h:kK k=true) (x:Int):wdK k x<256^kW k:=by
  have:=kM_facts h
  have h1:=Int.emod_nonneg x (show (kM k:Int)≠0 by omega)
  have h2:=Int.emod_lt_of_pos x (show 0<(kM k:Int) by omega)
  show wdK k x<kM k
  unfold wdK
  omega
theorem wd_of {k x:Int} (h:kK k=true) (hx:fitZ k x=true):(wdK k x:Int)=if x<0 then x+kM k else x:=by
  obtain ⟨h1,h2,h3⟩:=kM_facts h
  obtain ⟨f1,f2,f3,f4,_⟩:=kfacts k
  obtain ⟨x1,x2⟩:=(fitZ_iff k x).1 hx
  unfold wdK
  by_cases c:x<0
  · rw [if_pos c]
    have e:x%(kM k:Int)=x+kM k:=by
      rw [← Int.add_emod_right]
      exact Int.emod_eq_of_lt (by omega) (by omega)
    rw [e];omega
  · rw [if_neg c,Int.emod_eq_of_lt (by omega) (by omega)];omega
end Go.Lg.Fld
namespace Go.Proofs.YtjifibloagkeeaaGreat
open Go Go.Lg Go.Lg.Fld
set_option maxRecDepth 100000
variable (X:Nat→Option Obj)
theorem fit_R {k x:Int} (h:fitZ k x=true):R127 x:=by
  have:=kfacts k
  rw [fitZ_iff] at h
  unfold R127;omega
theorem opposite_1 (k:Int) (hk:kW k=1) (v:Int) (hv:0≤v∧v<18446744073709551616):PSpec Tryz.prog X 106 [Ln .i64 k,Ln .u64 v] (Ln .u64 ((-v)%((256^1:Nat):Int))):=by
  have hS:=fSize_spec X k
  rw [hk] at hS
  have p1:((2:Int)^(min (Int.toNat 56) IntKind.u64.bits))=72057594037927936:=by decide
  have p2:((256^1:Nat):Int)=256:=by decide
  rw [p2]
  have n1:IntKind.u64.wrap (0-v)=(0-v)%18446744073709551616:=by rw [IntKind.wrap_u64]
  have s1:IntKind.u64.wrap ((0-v)%18446744073709551616*(2:Int)^(min (Int.toNat 56) IntKind.u64.bits))=(0-v)%18446744073709551616*72057594037927936%18446744073709551616:=by rw [p1,IntKind.wrap_u64]
  have s2:((0-v)%18446744073709551616*72057594037927936%18446744073709551616).fdiv ((2:Int)^(min (Int.toNat 56) IntKind.u64.bits))=(-v)%256:=by
    rw [p1,Int.fdiv_eq_ediv_of_nonneg _ (by decide)]
    omega
  refine cD Tryz.func106 rfl (by kernel_rfl) rfl rfl ?_
  intro C
  (refine aA<|rgN<|kas O<|aB<|aA<|rgN<|kmv O<|kca O O (hS)<|bL O O (c:=8) O dP<|bA O O (c:=56) O dP<|kas O<|aB<|aA<|rgN ?_;refine kmv O<|K.neg O n1 dP<|kmv O<|K.shl O O (by decide) s1 dP<|kmv O<|bM O O (by decide) s2 dP<|kas O<|aB<|aI ?_)
  exact ⟨[_],⟨O,trivial⟩,O⟩
theorem opposite_2 (k:Int) (hk:kW k=2) (v:Int) (hv:0≤v∧v<18446744073709551616):PSpec Tryz.prog X 106 [Ln .i64 k,Ln .u64 v] (Ln .u64 ((-v)%((256^2:Nat):Int))):=by
  have hS:=fSize_spec X k
  rw [hk] at hS
  have p1:((2:Int)^(min (Int.toNat 48) IntKind.u64.bits))=281474976710656:=by decide
  have p2:((256^2:Nat):Int)=65536:=by decide
  rw [p2]
  have n1:IntKind.u64.wrap (0-v)=(0-v)%18446744073709551616:=by rw [IntKind.wrap_u64]
  have s1:IntKind.u64.wrap ((0-v)%18446744073709551616*(2:Int)^(min (Int.toNat 48) IntKind.u64.bits))=(0-v)%18446744073709551616*281474976710656%18446744073709551616:=by rw [p1,IntKind.wrap_u64]
  have s2:((0-v)%18446744073709551616*281474976710656%18446744073709551616).fdiv ((2:Int)^(min (Int.toNat 48) IntKind.u64.bits))=(-v)%65536:=by
    rw [p1,Int.fdiv_eq_ediv_of_nonneg _ (by decide)]
    omega
  refine cD Tryz.func106 rfl (by kernel_rfl) rfl rfl ?_
  intro C
  (refine aA<|rgN<|kas O<|aB<|aA<|rgN<|kmv O<|kca O O (hS)<|bL O O (c:=16) O dP<|bA O O (c:=48) O dP<|kas O<|aB<|aA<|rgN ?_;refine kmv O<|K.neg O n1 dP<|kmv O<|K.shl O O (by decide) s1 dP<|kmv O<|bM O O (by decide) s2 dP<|kas O<|aB<|aI ?_)
  exact ⟨[_],⟨O,trivial⟩,O⟩
theorem opposite_4 (k:Int) (hk:kW k=4) (v:Int) (hv:0≤v∧v<18446744073709551616):PSpec Tryz.prog X 106 [Ln .i64 k,Ln .u64 v] (Ln .u64 ((-v)%((256^4:Nat):Int))):=by
  have hS:=fSize_spec X k
  rw [hk] at hS
  have p1:((2:Int)^(min (Int.toNat 32) IntKind.u64.bits))=4294967296:=by decide
  have p2:((256^4:Nat):Int)=4294967296:=by decide
  rw [p2]
  have n1:IntKind.u64.wrap (0-v)=(0-v)%18446744073709551616:=by rw [IntKind.wrap_u64]
  have s1:IntKind.u64.wrap ((0-v)%18446744073709551616*(2:Int)^(min (Int.toNat 32) IntKind.u64.bits))=(0-v)%18446744073709551616*4294967296%18446744073709551616:=by rw [p1,IntKind.wrap_u64]
  have s2:((0-v)%18446744073709551616*4294967296%18446744073709551616).fdiv ((2:Int)^(min (Int.toNat 32) IntKind.u64.bits))=(-v)%4294967296:=by
    rw [p1,Int.fdiv_eq_ediv_of_nonneg _ (by decide)]
    omega
  refine cD Tryz.func106 rfl (by kernel_rfl) rfl rfl ?_
  intro C
  (refine aA<|rgN<|kas O<|aB<|aA<|rgN<|kmv O<|kca O O (hS)<|bL O O (c:=32) O dP<|bA O O (c:=32) O dP<|kas O<|aB<|aA<|rgN ?_;refine kmv O<|K.neg O n1 dP<|kmv O<|K.shl O O (by decide) s1 dP<|kmv O<|bM O O (by decide) s2 dP<|kas O<|aB<|aI ?_)
  exact ⟨[_],⟨O,trivial⟩,O⟩
theorem opposite_8 (k:Int) (hk:kW k=8) (v:Int) (hv:0≤v∧v<18446744073709551616):PSpec Tryz.prog X 106 [Ln .i64 k,Ln .u64 v] (Ln .u64 ((-v)%((256^8:Nat):Int))):=by
  have hS:=fSize_spec X k
  rw [hk] at hS
  have p1:((2:Int)^(min (Int.toNat 0) IntKind.u64.bits))=1:=by decide
  have p2:((256^8:Nat):Int)=18446744073709551616:=by decide
  rw [p2]
  have n1:IntKind.u64.wrap (0-v)=(0-v)%18446744073709551616:=by rw [IntKind.wrap_u64]
  have s1:IntKind.u64.wrap ((0-v)%18446744073709551616*(2:Int)^(min (Int.toNat 0) IntKind.u64.bits))=(0-v)%18446744073709551616*1%18446744073709551616:=by rw [p1,IntKind.wrap_u64]
  have s2:((0-v)%18446744073709551616*1%18446744073709551616).fdiv ((2:Int)^(min (Int.toNat 0) IntKind.u64.bits))=(-v)%18446744073709551616:=by
    rw [p1,Int.fdiv_eq_ediv_of_nonneg _ (by decide)]
    omega
  refine cD Tryz.func106 rfl (by kernel_rfl) rfl rfl ?_
  intro C
  (refine aA<|rgN<|kas O<|aB<|aA<|rgN<|kmv O<|kca O O (hS)<|bL O O (c:=64) O dP<|bA O O (c:=0) O dP<|kas O<|aB<|aA<|rgN ?_;refine kmv O<|K.neg O n1 dP<|kmv O<|K.shl O O (by decide) s1 dP<|kmv O<|bM O O (by decide) s2 dP<|kas O<|aB<|aI ?_)
  exact ⟨[_],⟨O,trivial⟩,O⟩
theorem opposite_spec (k:Int) (hk:kK k=true) (v:Int) (hv:0≤v∧v<18446744073709551616) (r:Int) (hr:(-v)%(kM k:Int)=r):PSpec Tryz.prog X 106 [Ln .i64 k,Ln .u64 v] (Ln .u64 r):=by
  subst hr
  unfold kM
  rcases kW_in hk with e|e|e|e
  · rw [e];exact opposite_1 X k e v hv
  · rw [e];exact opposite_2 X k e v hv
  · rw [e];exact opposite_4 X k e v hv
  · rw [e];exact opposite_8 X k e v hv
theorem wordOf_spec (k x:Int) (hk:kK k=true) (hx:fitZ k x=true):PSpec Tryz.prog X 95 [Ln .i64 k,LQ x] (Ln .u64 (wdK k x:Nat)):=by
  obtain ⟨h1,h2,h3⟩:=kM_facts hk
  obtain ⟨f1,f2,f3,f4,_⟩:=kfacts k
  obtain ⟨x1,x2⟩:=(fitZ_iff k x).1 hx
  have e:=wd_of hk hx
  refine cD Tryz.func95 rfl (by kernel_rfl) rfl rfl ?_
  intro C
  by_cases c:x<0
  · have hm:mg x%18446744073709551616 = -x:=by rw [mg_neg c];omega
    have hO:=opposite_spec X k hk (-x) (by omega) (wdK k x:Nat) (by
      rw [if_pos c] at e
      rw [e,Int.neg_neg,← Int.add_emod_right]
      exact Int.emod_eq_of_lt (by omega) (by omega))
    unfold LQ LI
    rw [hm,cN c]
    (refine aA<|rgN<|aL O O O dP<|kas O<|aB<|aA<|aA<|rgN<|kfa O O ?_;refine kl1 O O O<|aB<|aE O ?_;refine aA<|rgN<|kmv O<|kfa O O ?_;refine kl1 O O O<|kca O O (hO)<|kas O<|aB<|aI ?_)
    exact ⟨[_],⟨O,trivial⟩,O⟩
  · have hm:mg x%18446744073709551616=x:=by rw [mg_pos (by omega)];omega
    rw [if_neg c] at e
    rw [e]
    unfold LQ LI
    rw [hm,cL c]
    (refine aA<|rgN<|aL O O O dP<|kas O<|aB<|aA<|aA<|rgN<|kfa O O ?_;refine kl1 O O O<|aB<|aF O ?_;refine aH ?_;refine aA<|rgN<|kfa O O ?_;refine kl1 O O O<|kas O<|aB<|aI ?_)
    exact ⟨[_],⟨O,trivial⟩,O⟩
theorem WNum_k (k:Int) (hk:kK k=true) (n:Nat) (h:n<256^kW k):MSpec Tryz.prog X 94 [Lp 1000000,Ln .i64 (kW k:Nat),Ln .u64 (n:Nat)] (w0 1000000) (Lb true) (w1 1000000 1000001 1000002 (leB (kW k) n)):=by
  have hn:n<18446744073709551616:=by
    have:=(kM_facts hk).2.1
    have h:n<kM k:=h
    omega
  rcases kW_in hk with e|e|e|e<;>rw [e] at h ⊢
  · exact WNum_0_1 X n hn h
  · exact WNum_0_2 X n hn h
  · exact WNum_0_4 X n hn h
  · exact WNum_0_8 X n hn h
theorem Put_q (k x:Int) (hk:kK k=true) (hx:fitZ k x=true):PSpec Tryz.prog X 71 [Ln .i64 k,LQ x] (.tup [Ss (leB (kW k) (wdK k x)),Sn .i64 0]):=by
  have hF:=Fits_q X k x hk (fit_R hx) true hx
  have hW:=wordOf_spec X k x hk hx
  have hN:=WNum_k X k hk (wdK k x) (wd_lt hk x)
  have hS:=fSize_spec X k
  refine cD Tryz.func71 rfl (by kernel_rfl) rfl rfl ?_
  intro C
  (refine aA<|rgN<|aL O O O dP<|kas O<|kas O<|aB<|aA<|aA<|rgN<|kmv O<|kca O O (isKind_spec X k true hk)<|aV O O dP<|aB<|aF O ?_;refine aH ?_;refine aA<|aA<|rgN<|kmv O<|aK O O O dP ?_;refine kca O O (hF)<|aV O O dP<|aB<|aF O ?_;refine aH ?_;refine aA<|rgN<|aT O O (by exact O) (by exact nl2 O O O) dP ?_;refine aL O O O dP<|kas O<|aB<|aA<|rgD mixed<|kmv O<|kmv O<|kca O O (hS)<|kmv O<|aK O O O dP ?_;refine kca O O (hW)<|aU [(1000000,15),(1000001,501),(1000002,502)] (w1 15 501 502 (leB (kW k) (wdK k x))) (hN) O O (by exact (cO ⟨_,O,O⟩ trivial)) (by exact (bR (bR O (bR O O)) O)) O O O O (by exact (.box O O (.box O O (.box O (bV _ _ _ _) .nil)))) dP<|aB<|rgA ?_;refine aA<|rgN<|kmv O<|K.callR [(1000000,15),(1000001,501),(1000002,502)] (String_1 X (leB (kW k) (wdK k x))) O O (by exact (cO ⟨_,O,O⟩ (cO ⟨_,O,O⟩ (cO ⟨_,O,(bV _ _ _ _)⟩ trivial)))) (by exact (bR (bR O (bR O O)) (bR (bR O O) (bR bT O)))) O O O O dP<|kas O<|kas O<|aB<|aI ?_)
  exact ⟨[_,_],⟨O,O,trivial⟩,O⟩
end Go.Proofs.YtjifibloagkeeaaGreat
end
section
namespace Go.Lg.Fld
open Go Go.Lg
def named (l:List UInt8):Int:=if kN 1=l then 1 else if kN 2=l then 2 else if kN 3=l then 3 else if kN 4=l then 4 else if kN 5=l then 5 else if kN 6=l then 6 else if kN 7=l then 7 else if kN 8=l then 8 else if kN 9=l then 9 else if kN 10=l then 10 else 0
end Go.Lg.Fld
namespace Go.Proofs.YtjifibloagkeeaaGreat
open Go Go.Lg Go.Lg.Fld
set_option maxRecDepth 100000
variable (X:Nat→Option Obj)
end Go.Proofs.YtjifibloagkeeaaGreat
end
section
namespace Go.Proofs.YtjifibloagkeeaaGreat
open Go Go.Lg Go.Lg.Fld
set_option maxRecDepth 100000
variable (X:Nat→Option Obj)
abbrev cI (b:Bool) (n:Int):List CV:=[.val (.bool b),.val (.int .u64 (n/18446744073709551616)),.val (.int .u64 (n%18446744073709551616))]
end Go.Proofs.YtjifibloagkeeaaGreat
end
section
namespace Go.Lg.Dig
open Go Go.Lg
def dg (n j:Nat):Nat:=n/256^j%256
def dv (d:Nat):CV:=.val (.int .i64 (d:Nat))
def dlf (f:Nat→Nat):List Nat:=(List.range 40).map f
def num (b:Bool) (f:Nat→Nat):List CV:=.val (.bool b)::(dlf f).map dv
end Go.Lg.Dig
namespace Go.Lg.Dig
open Go Go.Lg
end Go.Lg.Dig
namespace Go.Lg.Dig
end Go.Lg.Dig
namespace Go.Lg.Dig
end Go.Lg.Dig
namespace Go.Lg.Dig
open Go Go.Lg
end Go.Lg.Dig
namespace Go.Lg.Dig
open Go Go.Lg
end Go.Lg.Dig
end
section
namespace Go.Proofs.YtjifibloagkeeaaGreat
open Go Go.Lg Go.Lg.Arith Go.Lg.Dig Go.RowKit
variable (X:Nat→Option Obj)
def two (l h i:Nat) (j:Nat):Nat:=if j<i then dg l j else if 8≤j∧j<8+i then dg h (j-8) else 0
end Go.Proofs.YtjifibloagkeeaaGreat
end
section
namespace Go.Lg.Fld
open Go Go.Lg
abbrev tabW:List CV:=[.val (.int .i64 0),.val (.int .i64 1),.val (.int .i64 1),.val (.int .i64 2),.val (.int .i64 4),.val (.int .i64 8),.val (.int .i64 1),.val (.int .i64 2),.val (.int .i64 4),.val (.int .i64 8),.val (.int .i64 8)]
theorem tabW_at {k:Int} (h:kK k=true):tabW[0+k.toNat*1]? = some (.val (.int .i64 (kW k:Nat))):=by
  rcases kin h with rfl|rfl|rfl|rfl|rfl|rfl|rfl|rfl|rfl|rfl<;>rfl
end Go.Lg.Fld
namespace Go.Proofs.YtjifibloagkeeaaGreat
open Go Go.Lg Go.Lg.Fld
set_option maxRecDepth 100000
variable (X:Nat→Option Obj)
instance:ArrB Tryz.prog 158 (List.replicate 11 (.int .i64 0)) 1:=⟨by kernel_rfl⟩
theorem refBytes_spec (k:Int):PSpec Tryz.prog X 52 [Ln .i64 k] (Ln .i64 (kW k:Nat)):=by
  refine cD Tryz.func52 rfl (by kernel_rfl) rfl rfl ?_
  intro C
  cases hk:kK k with
  | false =>
    rcases knot hk with h|h
    · rw [kW_no (.inl h)]
      (refine aA<|rgN<|kas O<|aB<|aA<|aA<|rgN<|kmv O<|klt O O (cN (by omega))<|kmv O<|aC O O O<|aC O O O<|kpt O O<|aB ?_;refine aE O ?_;refine aA<|rgN<|kas O<|aB<|aI ?_)
      exact ⟨[_],⟨O,trivial⟩,O⟩
    · rw [kW_no (.inr h)]
      (refine aA<|rgN<|kas O<|aB<|aA<|aA<|rgN<|kmv O<|klt O O (cL (by omega))<|kmv O<|gmv O O O<|aS O O (cN (by omega)) (dQ O O) ?_;refine kpf O O<|aB<|aE O ?_;refine aA<|rgN<|kas O<|aB<|aI ?_)
      exact ⟨[_],⟨O,trivial⟩,O⟩
  | true =>
    have hb:=(kK_iff k).1 hk
    (refine aA<|rgN<|kas O<|aB<|aA<|aA<|rgN<|kmv O<|klt O O (cL (by omega))<|kmv O<|gmv O O O<|aS O O (cL (by omega)) (dQ O O) ?_;refine kpf O O<|aB<|aF O ?_;refine aH ?_;refine aA<|rgN<|K.buildArr (cs':=tabW) O O (by exact O) O dP ?_;refine aP O dP ?_;refine aM O O O O O O dP ?_;refine aB<|aA<|rgN<|kmv O<|K.indexArr O O (by omega) O dP ?_;refine kl1 O O (tabW_at hk)<|kas O<|aB<|aI ?_)
    exact ⟨[_],⟨O,trivial⟩,O⟩
end Go.Proofs.YtjifibloagkeeaaGreat
end
section
namespace Go.Lg.Fld
open Go Go.Lg
structure Fl where
  nm:List UInt8
  kind:Int
  count:Int
def Fl.vals (f:Fl):List Value:=[.string ⟨f.nm.toArray⟩,.int .i64 f.kind,.int .i64 f.count]
def Fl.w (f:Fl):Nat:=kW f.kind
def Fl.n (f:Fl):Nat:=f.count.toNat
def Fl.ok (f:Fl):Bool:=kK f.kind&&(decide (1≤f.count)&&decide (f.count≤8))
def roundUp (a n:Nat):Nat:=a+(n-a%n)%n
def startsAt:Nat→List Fl→List Nat
  | _,[]=>[]
  | a,f::t=>roundUp a f.w::startsAt (roundUp a f.w+f.w*f.n) t
def endAt:Nat→List Fl→Nat
  | a,[]=>a
  | a,f::t=>endAt (roundUp a f.w+f.w*f.n) t
def elemsAt:Nat→List Fl→List (Int×Nat)
  | _,[]=>[]
  | a,f::t=>(List.range f.n).map (fun i=>(f.kind,roundUp a f.w+f.w*i))++elemsAt (roundUp a f.w+f.w*f.n) t
def greatW (l:List Fl):Nat:=l.foldl (fun g f=>max g f.w) 1
def rowSize (l:List Fl):Nat:=roundUp (endAt 0 l) (greatW l)
def layErr (l:List Fl):Int:=if 8<l.length then 1 else if l.all Fl.ok=true then (if 256<rowSize l then 5 else 0) else 1
theorem starts_snoc (f:Fl):∀ (l:List Fl) (a:Nat),startsAt a (l++[f])=startsAt a l++[roundUp (endAt a l) f.w]
  | [],_=>rfl
  | g::t,a=>by simp only [List.cons_append,startsAt,endAt,starts_snoc f t]
theorem end_snoc (f:Fl):∀ (l:List Fl) (a:Nat),endAt a (l++[f])=roundUp (endAt a l) f.w+f.w*f.n
  | [],_=>rfl
  | g::t,a=>by simp only [List.cons_append,endAt,end_snoc f t]
theorem elems_snoc (f:Fl):∀ (l:List Fl) (a:Nat),elemsAt a (l++[f])=elemsAt a l++(List.range f.n).map (fun i=>(f.kind,roundUp (endAt a l) f.w+f.w*i))
  | [],_=>by simp [elemsAt,endAt]
  | g::t,a=>by simp only [List.cons_append,elemsAt,endAt,elems_snoc f t,dK]
theorem great_snoc (f:Fl) (l:List Fl):greatW (l++[f])=max (greatW l) f.w:=by simp [greatW,List.foldl_append]
theorem take_snoc {α:Type} {l:List α} {i:Nat} {f:α} (h:l[i]? = some f):l.take (i+1)=l.take i++[f]:=by
  rw [List.take_add_one,h];rfl
theorem ok_w {f:Fl} (h:f.ok=true):(f.w=1∨f.w=2∨f.w=4∨f.w=8)∧1≤f.n∧f.n≤8∧(f.n:Int)=f.count:=by
  simp only [Fl.ok,Bool.and_eq_true,decide_eq_true_eq] at h
  refine ⟨kW_in h.1,?_,?_,?_⟩<;>unfold Fl.n<;>omega
def isWd (n:Nat):Prop:=n=1∨n=2∨n=4∨n=8
theorem round_facts {n:Nat} (h:isWd n) (a:Nat):roundUp a n%n=0∧a≤roundUp a n∧roundUp a n<a+n∧∀ b,a≤b→b≤roundUp a n→b%n=0→b=roundUp a n:=by
  unfold roundUp
  rcases h with rfl|rfl|rfl|rfl<;>refine ⟨by omega,by omega,by omega,fun b h1 h2 h3=>by omega⟩
theorem great_wd:∀ (l:List Fl),l.all Fl.ok=true→isWd (greatW l):=by
  have key:∀ (l:List Fl) (g:Nat),isWd g→l.all Fl.ok=true→isWd (l.foldl (fun g f=>max g f.w) g):=by
    intro l
    induction l with
    | nil=>intro g hg _;exact hg
    | cons f t ih =>
      intro g hg h
      simp only [List.all_cons,Bool.and_eq_true] at h
      refine ih _ ?_ h.2
      have hf:isWd f.w:=(ok_w h.1).1
      show isWd (max g f.w)
      rcases Nat.le_total g f.w with h3|h3
      · rw [Nat.max_eq_right h3];exact hf
      · rw [Nat.max_eq_left h3];exact hg
  exact fun l h=>key l 1 (.inl O) h
theorem end_le:∀ (l:List Fl) (a:Nat),l.all Fl.ok=true→a≤endAt a l∧endAt a l≤a+72*l.length
  | [],a,_=>by simp [endAt]
  | f::t,a,h=>by
    simp only [List.all_cons,Bool.and_eq_true] at h
    obtain ⟨hw,h1,h8,_⟩:=ok_w h.1
    have hr:=round_facts hw a
    have hi:=end_le t (roundUp a f.w+f.w*f.n) h.2
    have hm:f.w*f.n≤64:=by rcases hw with e|e|e|e<;>rw [e]<;>omega
    have hw8:f.w≤8:=by rcases hw with e|e|e|e<;>omega
    simp only [endAt,dG]
    omega
theorem elems_len:∀ (l:List Fl) (a:Nat),l.all Fl.ok=true→l.length≤(elemsAt a l).length∧(elemsAt a l).length≤8*l.length
  | [],a,_=>by simp [elemsAt]
  | f::t,a,h=>by
    simp only [List.all_cons,Bool.and_eq_true] at h
    obtain ⟨hw,h1,h8,_⟩:=ok_w h.1
    have hi:=elems_len t (roundUp a f.w+f.w*f.n) h.2
    simp only [elemsAt,cU,cV,List.length_range,dG]
    omega
theorem starts_len:∀ (l:List Fl) (a:Nat),(startsAt a l).length=l.length
  | [],_=>rfl
  | f::t,a=>by simp [startsAt,starts_len t]
def elV (e:Int×Nat):List Value:=[.int .i64 e.1,.int .i64 (e.2:Nat)]
def elVs (l:List (Int×Nat)):List Value:=(l.map elV).flatten
theorem elVs_len (l:List (Int×Nat)):(elVs l).length=l.length*2:=by
  induction l with
  | nil=>rfl
  | cons e t ih=>simp only [elVs,List.map_cons,List.flatten_cons,cU] at ih ⊢;rw [ih];simp [elV];omega
theorem elVs_app (l m:List (Int×Nat)):elVs (l++m)=elVs l++elVs m:=by simp [elVs]
def ntV (l:List Nat):List Value:=l.map fun n=>.int .i64 (n:Nat)
structure FieldsIn (X:Nat→Option Obj) (ad:Option Addr) (fs:List Fl):Prop where
  rows:RowsIn X ad 3 (fs.map Fl.vals)
  small:∀ f∈fs,(-9223372036854775808≤f.kind∧f.kind<9223372036854775808)∧(-9223372036854775808≤f.count∧f.count<9223372036854775808)
theorem FieldsIn.at {X:Nat→Option Obj} {ad:Option Addr} {fs:List Fl} (h:FieldsIn X ad fs) {i:Nat} {f:Fl} (hf:fs[i]? = some f):
    ∃ (blk off:Nat) (arr:Array Value) (el:TypeId) (fr:Nat×Nat),ad=some ⟨blk,off,none⟩∧X blk=some (.cells arr el fr)∧off+i*3+3≤arr.size∧((arr.toList.drop (off+i*3)).take 3).map CV.val=f.vals.map CV.val:=by
  obtain ⟨blk,off,arr,el,fr,h1,h2,h3,h4⟩:=h.rows i f.vals (by rw [dJ,hf];rfl)
  exact ⟨blk,off,arr,el,fr,h1,h2,h3,by rw [h4]⟩
end Go.Lg.Fld
end
section
namespace Go.Proofs.YtjifibloagkeeaaGreat
open Go Go.Lg Go.Lg.Fld
set_option maxRecDepth 100000
variable (X:Nat→Option Obj)
abbrev Lx (ad:Option Addr) (n cap:Nat):LV:=.sv (.one (.val (.slice ad n cap)))
abbrev Vnil:SV:=.one (.val (.slice none 0 0))
def layR (fs:List Fl):LV:=if layErr fs=0 then .tup [.one (.slc 1000001 0 (elemsAt 0 fs).length 2),Sn .i64 (rowSize fs:Nat),.one (.slc 1000002 0 fs.length 1),Sn .i64 0] else .tup [Vnil,Sn .i64 0,Vnil,Sn .i64 (layErr fs)]
def layBx (fs:List Fl):List (Nat×Option Box):=if layErr fs=0 then [(1000001,some ⟨119,(elVs (elemsAt 0 fs)).map .val,Nat.blt 0 (elemsAt 0 fs).length⟩),(1000002,some ⟨3,(ntV (startsAt 0 fs)).map .val,Nat.blt 0 fs.length⟩)] else []
theorem layErr_long {fs:List Fl} (h:8<fs.length):layErr fs=1:=if_pos h
theorem layErr_bad {fs:List Fl} (h:fs.length≤8) {f:Fl} (hf:f∈fs) (hb:f.ok=false):layErr fs=1:=by
  unfold layErr
  rw [if_neg (by omega),if_neg]
  intro ha
  rw [List.all_eq_true.1 ha f hf] at hb
  cases hb
theorem layErr_all {fs:List Fl} (h:fs.length≤8) (ha:fs.all Fl.ok=true):layErr fs=if 256<rowSize fs then 5 else 0:=by
  unfold layErr
  rw [if_neg (by omega),if_pos ha]
theorem take_all {fs:List Fl} {i:Nat} {f:Fl} (h:(fs.take i).all Fl.ok=true) (hf:fs[i]? = some f) (hk:f.ok=true):(fs.take (i+1)).all Fl.ok=true:=by
  rw [take_snoc hf,List.all_append,h]
  simp [hk]
set_option maxHeartbeats 3200000 in
theorem Lay_spec (ad:Option Addr) (cap:Nat) (fs:List Fl) (hin:FieldsIn X ad fs) (hbig:fs.length<4611686018427387904):MSpec Tryz.prog X 32 [Lx ad fs.length cap] [] (layR fs) (layBx fs):=by
  refine cE Tryz.func32 rfl (by kernel_rfl) rfl (by unfold layR layBx;split<;>rfl) (by unfold layBx;split<;>exact (by repeat' (first|refine bR ?_ ?_|rfl|exact bT|exact bS|exact bU rfl))) rfl rfl ?_
  intro C
  by_cases hlong:8<fs.length
  · unfold layR layBx
    rw [layErr_long hlong,if_neg (by decide),if_neg (by decide)]
    (refine aA<|rgN<|kas O<|kas O<|kas O<|kas O<|aB<|aA<|aA<|rgN<|kmv O<|aQ O bY O dP ?_;refine aS O O (cN (by omega)) dP<|aB<|aE O ?_;refine aA<|rgN<|kas O<|kas O<|kas O<|kas O<|aB<|aI ?_)
    exact ⟨[],⟨[_,_,_,_],⟨O,O,O,O,trivial⟩,O⟩,trivial,O,O⟩
  have h8:fs.length≤8:=by omega
  (refine aA<|rgN<|kas O<|kas O<|kas O<|kas O<|aB<|aA<|aA<|rgN<|kmv O<|aQ O bY O dP ?_;refine aS O O (cL (by omega)) dP<|aB<|aF O ?_;refine aH ?_;refine aA<|rgN<|aZ (zs:=[]) (sz:=2) (e:=119) (by kernel_rfl) O O O O O O dP<|kas O<|aB<|aA<|rgN<|aZ (zs:=[]) (sz:=1) (e:=3) (by kernel_rfl) O O O O O O dP<|kas O<|aB<|aA<|rgN<|kas O<|aB ?_;refine aA<|rgN<|kas O<|aB<|aA<|aA<|rgN<|kas O<|aB<|aG ?_)
  refine cH (fun m σ=>∃ i:Nat,i≤fs.length∧m=fs.length-i∧(fs.take i).all Fl.ok=true∧σ=⟨[(0,Lx ad fs.length cap),(6,.sv (.one (.slc 500 0 (elemsAt 0 (fs.take i)).length 2))),(7,.sv (.one (.slc 501 0 i 1))),(8,Ln .i64 (endAt 0 (fs.take i):Nat)),(9,Ln .i64 (greatW (fs.take i):Nat)),(10,Ln .i64 (i:Nat))],[(500,some ⟨119,(elVs (elemsAt 0 (fs.take i))).map .val,Nat.blt 0 (elemsAt 0 (fs.take i)).length⟩),(501,some ⟨3,(ntV (startsAt 0 (fs.take i))).map .val,Nat.blt 0 i⟩)],X⟩) fs.length
    ⟨_,Le.ofR [(500,17),(501,18)] (by exact ⟨rfl,rfl,rfl,rfl,rfl,rfl,trivial⟩) (by repeat' (first|exact trivial|refine cO ⟨_,rfl,?_⟩ ?_|refine cO ⟨_,rfl⟩ ?_|rfl|exact bV _ _ _ _|exact bW _ _ _ _|exact bX rfl)) (by exact rfl) (by exact rfl) (by repeat' (first|refine bR ?_ ?_|rfl|exact bT|exact bS|exact bU rfl)) (by exact rfl) (by exact rfl),0,by omega,by omega,rfl,rfl⟩ ?_
  rintro m σ ⟨i,hi,rfl,hall,rfl⟩
  have hEl:=elems_len (fs.take i) 0 hall
  have hSl:=starts_len (fs.take i) 0
  have hend:=end_le (fs.take i) 0 hall
  have hgw:=great_wd (fs.take i) hall
  have htl:(fs.take i).length=i:=by rw [cY];omega
  rw [htl] at hEl hSl hend
  by_cases hlt:i<fs.length
  · obtain ⟨f,hf⟩:∃ f,fs[i]? = some f:=⟨_,cW hlt⟩
    obtain ⟨blk,off,arr,el,fr,rfl,hX,hsz,hcells⟩:=hin.at hf
    have hio:off+Int.toNat (i:Int)*3=off+i*3:=by simp
    have hmem:f∈fs:=dB hf
    have hsm:=hin.small f hmem
    have hB:=refBytes_spec X f.kind
    have hE:elemsAt 0 (fs.take (i+1))=elemsAt 0 (fs.take i)++(List.range f.n).map (fun j=>(f.kind,roundUp (endAt 0 (fs.take i)) f.w+f.w*j)):=by rw [take_snoc hf,elems_snoc]
    have hS:startsAt 0 (fs.take (i+1))=startsAt 0 (fs.take i)++[roundUp (endAt 0 (fs.take i)) f.w]:=by rw [take_snoc hf,starts_snoc]
    have hA:endAt 0 (fs.take (i+1))=roundUp (endAt 0 (fs.take i)) f.w+f.w*f.n:=by rw [take_snoc hf,end_snoc]
    have hG:greatW (fs.take (i+1))=max (greatW (fs.take i)) f.w:=by rw [take_snoc hf,great_snoc]
    cases hok:f.ok with
    | false =>
      have hbad:=layErr_bad h8 hmem hok
      unfold layR layBx
      rw [hbad,if_neg (by decide),if_neg (by decide)]
      clear hE hS hA hG
      generalize elemsAt 0 (fs.take i)=E at *
      generalize startsAt 0 (fs.take i)=S at *
      generalize endAt 0 (fs.take i)=a at *
      generalize greatW (fs.take i)=g at *
      by_cases h0:kW f.kind=0
      · rw [h0] at hB
        (refine aA<|aA<|rgN<|kmv O<|kmv O<|aQ O bY O dP ?_;refine klt O O (cN (by omega))<|aB<|aE O ?_;refine aH ?_;refine aA<|aG<|aA<|rgN<|kmv O<|kmv O<|aR O O bY (by omega) hio dP<|aY O hX (by kernel_rfl) hsz hcells dP<|aP O dP ?_;refine aM O O O O O O dP ?_;refine aB<|aA<|rgN<|kfa O O ?_;refine kl1 O O O<|kca O O (hB)<|kas O<|aB<|aA<|aA<|rgN<|kmv O<|keq O O (cS (by omega))<|kmv O<|aC O O O<|aC O O O<|aC O O O<|kpt O O ?_;refine kmv O<|aC O O O<|aC O O O<|aC O O O<|kpt O O<|aB<|aE O ?_;refine aA<|rgN<|kas O<|kas O<|kas O<|kas O<|aB<|aI ?_)
        exact ⟨[],⟨[_,_,_,_],⟨O,O,O,O,trivial⟩,O⟩,trivial,O,O⟩
      · have hk:kK f.kind=true:=by
          cases e:kK f.kind with
          | true=>rfl
          | false=>exact absurd ((kW_zero f.kind).2 e) h0
        by_cases h1:f.count<1
        · (refine aA<|aA<|rgN<|kmv O<|kmv O<|aQ O bY O dP ?_;refine klt O O (cN (by omega))<|aB<|aE O ?_;refine aH ?_;refine aA<|aG<|aA<|rgN<|kmv O<|kmv O<|aR O O bY (by omega) hio dP<|aY O hX (by kernel_rfl) hsz hcells dP<|aP O dP ?_;refine aM O O O O O O dP ?_;refine aB<|aA<|rgN<|kfa O O ?_;refine kl1 O O O<|kca O O (hB)<|kas O<|aB<|aA<|aA<|rgN<|kmv O<|keq O O (cP (by omega))<|kmv O<|aN O O (dQ O O) ?_;refine aO O O O (dQ O O) ?_;refine bK O O (cN (by omega)) (dQ O O) ?_;refine kpf O O<|kmv O<|aC O O O<|aC O O O<|aC O O O<|kpt O O<|aB<|aE O ?_;refine aA<|rgN<|kas O<|kas O<|kas O<|kas O<|aB<|aI ?_)
          exact ⟨[],⟨[_,_,_,_],⟨O,O,O,O,trivial⟩,O⟩,trivial,O,O⟩
        · have h2:8<f.count:=by
            unfold Fl.ok at hok
            rw [hk,cN (show 1≤f.count by omega)] at hok
            simpa using hok
          (refine aA<|aA<|rgN<|kmv O<|kmv O<|aQ O bY O dP ?_;refine klt O O (cN (by omega))<|aB<|aE O ?_;refine aH ?_;refine aA<|aG<|aA<|rgN<|kmv O<|kmv O<|aR O O bY (by omega) hio dP<|aY O hX (by kernel_rfl) hsz hcells dP<|aP O dP ?_;refine aM O O O O O O dP ?_;refine aB<|aA<|rgN<|kfa O O ?_;refine kl1 O O O<|kca O O (hB)<|kas O<|aB<|aA<|aA<|rgN<|kmv O<|keq O O (cP (by omega))<|kmv O<|aN O O (dQ O O) ?_;refine aO O O O (dQ O O) ?_;refine bK O O (cL (by omega)) (dQ O O) ?_;refine kpf O O<|kmv O<|aN O O (dQ O O) ?_;refine aO O O O (dQ O O) ?_;refine aS O O (cN (by omega)) (dQ O O) ?_;refine kpf O O<|aB<|aE O ?_;refine aA<|rgN<|kas O<|kas O<|kas O<|kas O<|aB<|aI ?_)
          exact ⟨[],⟨[_,_,_,_],⟨O,O,O,O,trivial⟩,O⟩,trivial,O,O⟩
    | true =>
      have hall':=take_all hall hf hok
      obtain ⟨hw,hn1,hn8,hnc⟩:=ok_w hok
      have hR:=round_facts hw (endAt 0 (fs.take i))
      have hwk:kW f.kind=f.w:=rfl
      have hw8:1≤f.w∧f.w≤8:=by rcases hw with e|e|e|e<;>omega
      have hg8:greatW (fs.take i)≤8:=by rcases hgw with e|e|e|e<;>omega
      rw [hwk] at hB
      generalize elemsAt 0 (fs.take i)=E at *
      generalize startsAt 0 (fs.take i)=S at *
      generalize endAt 0 (fs.take i)=a at *
      generalize greatW (fs.take i)=g at *
      have hfc:f.vals.map CV.val=[.val (.string ⟨f.nm.toArray⟩),.val (.int .i64 f.kind),.val (.int .i64 (f.n:Nat))]:=by rw [hnc];rfl
      rw [hfc] at hcells
      generalize f.w=w at *
      generalize hT:roundUp a w=T at *
      generalize f.n=n at *
      (refine aA<|aA<|rgN<|kmv O<|kmv O<|aQ O bY O dP ?_;refine klt O O (cN (by omega))<|aB<|aE O ?_;refine aH ?_;refine aA<|aG<|aA<|rgN<|kmv O<|kmv O<|aR O O bY (by omega) hio dP<|aY O hX (by kernel_rfl) hsz hcells dP<|aP O dP ?_;refine aM O O O O O O dP ?_;refine aB<|aA<|rgN<|kfa O O ?_;refine kl1 O O O<|kca O O (hB)<|kas O<|aB<|aA<|aA<|rgN<|kmv O<|keq O O (cP (by omega))<|kmv O<|aN O O (dQ O O) ?_;refine aO O O O (dQ O O) ?_;refine bK O O (cL (by omega)) (dQ O O) ?_;refine kpf O O<|kmv O<|aN O O (dQ O O) ?_;refine aO O O O (dQ O O) ?_;refine aS O O (cL (by omega)) (dQ O O) ?_;refine kpf O O<|aB<|aF O ?_;refine aH ?_;refine aA<|aA ?_)
      generalize hmx:max g w=mx at *
      refine LWP.cut (fun σ=>σ=⟨[(0,Lx (some ⟨blk,off,none⟩) fs.length cap),(6,.sv (.one (.slc 500 0 (E.length) 2))),(7,.sv (.one (.slc 501 0 (i) 1))),(8,Ln .i64 (a:Nat)),(9,Ln .i64 (mx:Nat)),(10,Ln .i64 (i:Nat)),(11,.sv (.one (.ptr 11 0))),(12,Ln .i64 (w:Nat))],[(500,some ⟨119,(elVs E).map .val,Nat.blt 0 E.length⟩),(501,some ⟨3,(ntV (S)).map .val,Nat.blt 0 i⟩),(11,some ⟨79,[.val (.string ⟨f.nm.toArray⟩),.val (.int .i64 f.kind),.val (.int .i64 (n:Nat))],false⟩)],X⟩) ?_ ?_
      · by_cases hgl:g<w
        · have e:mx=w:=by omega
          (refine rgN<|kmv O<|kmv O<|aS O O (cN (by omega)) dP<|aB<|aE O ?_;refine rgN<|kmv O<|kas O<|aB ?_)
          exact ⟨_,Le.of (by exact ⟨rfl,rfl,rfl,rfl,by rw [e];rfl,rfl,rfl,rfl,trivial⟩) (by exact ⟨rfl,rfl,rfl,trivial⟩) (by exact rfl) (by exact rfl) (by repeat' (first|refine bR ?_ ?_|rfl|exact bT|exact bS|exact bU rfl)),rfl⟩
        · have e:mx=g:=by omega
          (refine rgN<|kmv O<|kmv O<|aS O O (cL (by omega)) dP<|aB<|aF O ?_;refine aH ?_)
          exact ⟨_,Le.of (by exact ⟨rfl,rfl,rfl,rfl,by rw [e];rfl,rfl,rfl,rfl,trivial⟩) (by exact ⟨rfl,rfl,rfl,trivial⟩) (by exact rfl) (by exact rfl) (by repeat' (first|refine bR ?_ ?_|rfl|exact bT|exact bS|exact bU rfl)),rfl⟩
      rintro σ rfl
      (refine aA<|aG ?_)
      refine cH (fun m σ=>∃ b:Nat,a≤b∧b≤T∧m=T-b∧σ=⟨[(0,Lx (some ⟨blk,off,none⟩) fs.length cap),(6,.sv (.one (.slc 500 0 (E.length) 2))),(7,.sv (.one (.slc 501 0 (i) 1))),(8,Ln .i64 (b:Nat)),(9,Ln .i64 (mx:Nat)),(10,Ln .i64 (i:Nat)),(11,.sv (.one (.ptr 11 0))),(12,Ln .i64 (w:Nat))],[(500,some ⟨119,(elVs E).map .val,Nat.blt 0 E.length⟩),(501,some ⟨3,(ntV (S)).map .val,Nat.blt 0 i⟩),(11,some ⟨79,[.val (.string ⟨f.nm.toArray⟩),.val (.int .i64 f.kind),.val (.int .i64 (n:Nat))],false⟩)],X⟩) (T-a)
        ⟨_,Le.of (by exact ⟨rfl,rfl,rfl,rfl,rfl,rfl,rfl,rfl,trivial⟩) (by exact ⟨rfl,rfl,rfl,trivial⟩) (by exact rfl) (by exact rfl) (by repeat' (first|refine bR ?_ ?_|rfl|exact bT|exact bS|exact bU rfl)),a,dL _,hR.2.1,rfl,rfl⟩ ?_
      rintro m σ ⟨b,hb1,hb2,rfl,rfl⟩
      have hrem:((b:Nat):Int).tmod ((w:Nat):Int)=((b%w:Nat):Int):=by rw [Int.tmod_eq_emod_of_nonneg (by omega)];exact (Int.natCast_emod b w).symm
      by_cases hz:b%w=0
      · have hbT:=hR.2.2.2 b hb1 hb2 hz
        subst hbT
        rw [hz] at hrem
        have hcl:((ntV S).map CV.val).length=i*1:=by simp [ntV,hSl]
        have hnc1:(ntV S).map CV.val++[.val (.int .i64 (b:Nat))]=(ntV (S++[b])).map CV.val:=by simp [ntV]
        (refine aA<|aA<|rgN<|kmv O<|kmv O<|K.rem O O (by omega) hrem dP<|kne O O ((cQ (by omega)))<|aB<|aF O ?_;refine aJ<|aA<|rgN<|kmv O<|kmv O<|aZ (zs:=[.int .i64 0]) (sz:=1) (e:=3) (by kernel_rfl) O O O O O O dP<|bO (by_:=8) (e2:=3) (l2:=[.val (.int .i64 (b:Nat))]) O O hcl O O (dL _) O O (by kernel_rfl) (by kernel_rfl) (by omega) (by omega) O O hnc1 dP<|kas O<|aB<|aA<|rgN<|kas O<|aB<|aG ?_)
        refine cH (fun m σ=>∃ j:Nat,j≤n∧m=n-j∧σ=⟨[(0,Lx (some ⟨blk,off,none⟩) fs.length cap),(6,.sv (.one (.slc 500 0 (E.length+j) 2))),(7,.sv (.one (.slc 501 0 (i+1) 1))),(8,Ln .i64 (b+w*j:Nat)),(9,Ln .i64 (mx:Nat)),(10,Ln .i64 (i:Nat)),(11,.sv (.one (.ptr 11 0))),(12,Ln .i64 (w:Nat)),(13,Ln .i64 (j:Nat))],[(500,some ⟨119,(elVs (E++(List.range j).map (fun q=>(f.kind,b+w*q)))).map .val,Nat.blt 0 (E.length+j)⟩),(501,some ⟨3,(ntV (S++[b])).map .val,true⟩),(11,some ⟨79,[.val (.string ⟨f.nm.toArray⟩),.val (.int .i64 f.kind),.val (.int .i64 (n:Nat))],false⟩)],X⟩) n
          ⟨_,Le.ofR [(501,57)] (by exact ⟨rfl,rfl,rfl,rfl,rfl,rfl,rfl,rfl,rfl,trivial⟩) (by rw [List.range_zero,List.map_nil,dH];exact (by repeat' (first|exact trivial|refine cO ⟨_,rfl,?_⟩ ?_|refine cO ⟨_,rfl⟩ ?_|rfl|exact bV _ _ _ _|exact bW _ _ _ _|exact bX rfl))) (by exact rfl) (by exact rfl) (by repeat' (first|refine bR ?_ ?_|rfl|exact bT|exact bS|exact bU rfl)) (by exact rfl) (by exact rfl),0,by omega,rfl,rfl⟩ ?_
        rintro m σ ⟨j,hj,rfl,rfl⟩
        have hwj:w*j≤64:=Nat.le_trans (Nat.mul_le_mul hw8.2 (Nat.le_trans hj hn8)) (by decide)
        by_cases hjn:j<n
        · have hrg:(List.range (j+1)).map (fun q=>(f.kind,b+w*q))=(List.range j).map (fun q=>(f.kind,b+w*q))++[(f.kind,b+w*j)]:=by rw [List.range_succ,dF];rfl
          have hcl2:((elVs (E++(List.range j).map (fun q=>(f.kind,b+w*q)))).map CV.val).length=(E.length+j)*2:=by rw [cV,elVs_len];simp
          have hnc2:(elVs (E++(List.range j).map (fun q=>(f.kind,b+w*q)))).map CV.val++[.val (.int .i64 f.kind),.val (.int .i64 (b+w*j:Nat))]=(elVs (E++(List.range (j+1)).map (fun q=>(f.kind,b+w*q)))).map CV.val:=by
            rw [hrg,← dK,elVs_app (E++_) [_],dF]
            rfl
          have hadd:((b+w*j:Nat):Int)+((w:Nat):Int)=((b+w*(j+1):Nat):Int):=by rw [Nat.mul_add,Nat.mul_one];omega
          have hwr:IntKind.i64.wrap (((b+w*j:Nat):Int)+((w:Nat):Int))=((b+w*(j+1):Nat):Int):=by rw [cF (by omega)];exact hadd
          (refine aA<|aA<|rgN<|kmv O<|kfa O O ?_;refine kl1 O O O<|klt O O (cN (by omega))<|aB<|aE O ?_;refine aH ?_;refine aA<|aG<|aA<|rgN<|kmv O<|kfa O O ?_;refine kl1 O O O<|kmv O<|aT O O (by exact O) (by exact nl2 O O O) dP ?_;refine aZ (zs:=[.int .i64 0,.int .i64 0]) (sz:=2) (e:=119) (by kernel_rfl) O O O O O O dP<|bO (by_:=16) (e2:=119) (l2:=[.val (.int .i64 f.kind),.val (.int .i64 (b+w*j:Nat))]) (nl:=E.length+(j+1)) O O hcl2 O O (dL _) O O (by kernel_rfl) (by kernel_rfl) (by omega) (by omega) O O hnc2 dP<|kas O<|aB<|rgN<|kmv O<|kmv O<|kad O O hwr<|kas O<|aB<|rgN<|kmv O<|kad O O (cF (by omega))<|kas O ?_;refine aB ?_)
          exact ⟨_,_,by omega,Le.ofR [(500,70)] (by exact ⟨rfl,rfl,rfl,rfl,rfl,rfl,rfl,rfl,rfl,trivial⟩) (by repeat' (first|exact trivial|refine cO ⟨_,rfl,?_⟩ ?_|refine cO ⟨_,rfl⟩ ?_|rfl|exact bV _ _ _ _|exact bW _ _ _ _|exact bX rfl)) (by exact rfl) (by exact rfl) (by repeat' (first|refine bR ?_ ?_|rfl|exact bT|exact bS|exact bU rfl)) (by exact rfl) (by exact rfl),j+1,by omega,rfl,rfl⟩
        · have e:j=n:=by omega
          subst e
          have hEn:(E++(List.range j).map (fun q=>(f.kind,b+w*q))).length=E.length+j:=by simp
          (refine aA<|aA<|rgN<|kmv O<|kfa O O ?_;refine kl1 O O O<|klt O O (cL (by omega))<|aB<|aF O ?_;refine aJ<|rgN<|kmv O<|kad O O (cF (by omega))<|kas O<|aB ?_)
          exact ⟨_,_,by omega,Le.ofR [] (by exact ⟨rfl,by rw [hE,hEn];rfl,rfl,by rw [hA];rfl,by rw [hG];rfl,rfl,trivial⟩) (by rw [hE,hS,hEn];exact (by repeat' (first|exact trivial|refine cO ⟨_,rfl,?_⟩ ?_|refine cO ⟨_,rfl⟩ ?_|rfl|exact bV _ _ _ _|exact bW _ _ _ _|exact bX rfl))) (by exact rfl) (by exact rfl) (by repeat' (first|refine bR ?_ ?_|rfl|exact bT|exact bS|exact bU rfl)) (by exact rfl) (by exact rfl),i+1,by omega,rfl,hall',rfl⟩
      · have hbT:b≠T:=fun e=>hz (by rw [e];exact hR.1)
        (refine aA<|aA<|rgN<|kmv O<|kmv O<|K.rem O O (by omega) hrem dP<|kne O O (cR (by omega))<|aB<|aE O ?_;refine aH ?_;refine aG<|rgN<|kmv O<|kad O O (cF (by omega))<|kas O<|aB ?_)
        exact ⟨_,_,by omega,Le.of (by exact ⟨O,O,O,O,O,O,O,O,trivial⟩) (by exact ⟨O,O,O,trivial⟩) (by exact O) (by exact O) (by repeat' (first|refine bR ?_ ?_|rfl|exact bT|exact bS|exact bU O)),b+1,by omega,by omega,O,O⟩
  · have e:i=fs.length:=by omega
    subst e
    rw [dD] at *
    have hR:=round_facts hgw (endAt 0 fs)
    have hg8:1≤greatW fs∧greatW fs≤8:=by rcases hgw with e|e|e|e<;>omega
    have hrs:roundUp (endAt 0 fs) (greatW fs)=rowSize fs:=rfl
    have hle:=layErr_all h8 hall
    (refine aA<|aA<|rgN<|kmv O<|kmv O<|aQ O bY O dP ?_;refine klt O O (cL (by omega))<|aB<|aF O ?_;refine aJ<|aA<|aG ?_)
    refine cH (fun m σ=>∃ b:Nat,endAt 0 fs≤b∧b≤rowSize fs∧m=rowSize fs-b∧σ=⟨[(6,.sv (.one (.slc 500 0 (elemsAt 0 fs).length 2))),(7,.sv (.one (.slc 501 0 fs.length 1))),(8,Ln .i64 (b:Nat)),(9,Ln .i64 (greatW fs:Nat))],[(500,some ⟨119,(elVs (elemsAt 0 fs)).map .val,Nat.blt 0 (elemsAt 0 fs).length⟩),(501,some ⟨3,(ntV (startsAt 0 fs)).map .val,Nat.blt 0 fs.length⟩)],X⟩) (rowSize fs-endAt 0 fs)
      ⟨_,Le.of (by exact ⟨rfl,rfl,rfl,rfl,trivial⟩) (by exact ⟨rfl,rfl,trivial⟩) (by exact rfl) (by exact rfl) (by repeat' (first|refine bR ?_ ?_|rfl|exact bT|exact bS|exact bU rfl)),endAt 0 fs,dL _,hR.2.1,rfl,rfl⟩ ?_
    rintro m σ ⟨b,hb1,hb2,rfl,rfl⟩
    rw [hrs] at hR
    unfold layR layBx
    rw [hle]
    generalize rowSize fs=T at *
    generalize endAt 0 fs=a at *
    generalize elemsAt 0 fs=E at *
    generalize startsAt 0 fs=S at *
    generalize greatW fs=w at *
    have hrem:((b:Nat):Int).tmod ((w:Nat):Int)=((b%w:Nat):Int):=by rw [Int.tmod_eq_emod_of_nonneg (by omega)];exact (Int.natCast_emod b w).symm
    by_cases hz:b%w=0
    · have hbT:=hR.2.2.2 b hb1 hb2 hz
      subst hbT
      rw [hz] at hrem
      by_cases h256:256<b
      · rw [if_pos h256,if_neg (by decide),if_neg (by decide)]
        (refine aA<|aA<|rgN<|kmv O<|kmv O<|K.rem O O (by omega) hrem dP<|kne O O ((cQ (by omega)))<|aB<|aF O ?_;refine aJ<|aA<|aA<|rgN<|kmv O<|aS O O (cN (by omega)) dP<|aB<|aE O ?_;refine aA<|rgN<|kas O<|kas O<|kas O<|kas O<|aB<|aI ?_)
        exact ⟨[],⟨[_,_,_,_],⟨O,O,O,O,trivial⟩,O⟩,trivial,O,O⟩
      · rw [if_neg h256,if_pos rfl,if_pos rfl]
        (refine aA<|aA<|rgN<|kmv O<|kmv O<|K.rem O O (by omega) hrem dP<|kne O O ((cQ (by omega)))<|aB<|aF O ?_;refine aJ<|aA<|aA<|rgN<|kmv O<|aS O O (cL (by omega)) dP<|aB<|aF O ?_;refine aH ?_;refine aA<|rgN<|kmv O<|kmv O<|kmv O<|kas O<|kas O<|kas O<|kas O<|aB<|aI ?_)
        exact ⟨[(1000001,500),(1000002,501)],⟨[_,_,_,_],⟨rfl,rfl,rfl,rfl,trivial⟩,rfl⟩,(by repeat' (first|exact trivial|refine cO ⟨_,rfl,?_⟩ ?_|refine cO ⟨_,rfl⟩ ?_|rfl|exact bV _ _ _ _|exact bW _ _ _ _|exact bX rfl)),rfl,rfl⟩
    · have hbT:b≠T:=fun e=>hz (by rw [e];exact hR.1)
      (refine aA<|aA<|rgN<|kmv O<|kmv O<|K.rem O O (by omega) hrem dP<|kne O O (cR (by omega))<|aB<|aE O ?_;refine aH ?_;refine aG<|rgN<|kmv O<|kad O O (cF (by omega))<|kas O<|aB ?_)
      exact ⟨_,_,by omega,Le.of (by exact ⟨O,O,O,O,trivial⟩) (by exact ⟨O,O,trivial⟩) (by exact O) (by exact O) (by repeat' (first|refine bR ?_ ?_|rfl|exact bT|exact bS|exact bU O)),b+1,by omega,by omega,O,O⟩
end Go.Proofs.YtjifibloagkeeaaGreat
end
section
namespace Go.Lg.Fld
open Go Go.Lg
theorem elVs_at:∀ {l:List (Int×Nat)} {i:Nat} {e:Int×Nat},l[i]? = some e→((elVs l).map CV.val)[i*2]? = some (.val (.int .i64 e.1))∧((elVs l).map CV.val)[i*2+1]? = some (.val (.int .i64 (e.2:Nat)))
  | [],i,e,h=>by simp at h
  | d::t,0,e,h=>by
    simp only [List.getElem?_cons_zero,Option.some.injEq] at h
    subst h
    exact ⟨O,O⟩
  | d::t,i+1,e,h=>by
    have ih:=elVs_at (l:=t) (i:=i) (e:=e) (by simpa using h)
    have e1:(elVs (d::t)).map CV.val = .val (.int .i64 d.1) :: .val (.int .i64 (d.2:Nat))::(elVs t).map CV.val:=rfl
    rw [e1,Nat.add_mul,Nat.one_mul]
    exact ih
def nmV (n:Bool×Int):List Value:=[.bool n.1,.int .u64 (n.2/18446744073709551616),.int .u64 (n.2%18446744073709551616)]
end Go.Lg.Fld
namespace Go.Proofs.YtjifibloagkeeaaGreat
open Go Go.Lg Go.Lg.Fld
set_option maxRecDepth 100000
variable (X:Nat→Option Obj)
structure NumsIn (X:Nat→Option Obj) (ad:Option Addr) (ns:List (Bool×Int)):Prop where
  rows:Go.Lg.RowsIn X ad 3 (ns.map nmV)
  in2:∀ n∈ns,In2 n.2
theorem NumsIn.at {X:Nat→Option Obj} {ad:Option Addr} {ns:List (Bool×Int)} (h:NumsIn X ad ns) {i:Nat} {b:Bool} {N:Int} (hf:ns[i]? = some (b,N)):
    In2 N∧∃ (blk off:Nat) (arr:Array Value) (el:TypeId) (fr:Nat×Nat),ad=some ⟨blk,off,none⟩∧X blk=some (.cells arr el fr)∧off+i*3+3≤arr.size∧((arr.toList.drop (off+i*3)).take 3).map CV.val=cI b N:=by
  obtain ⟨blk,off,arr,el,fr,h1,h2,h3,h4⟩:=h.rows i (nmV (b,N)) (by rw [dJ,hf];rfl)
  exact ⟨h.in2 (b,N) (dB hf),blk,off,arr,el,fr,h1,h2,h3,by rw [h4];rfl⟩
theorem Lay_ok (ad:Option Addr) (cap:Nat) (fs:List Fl) (hin:FieldsIn X ad fs) (hbig:fs.length<4611686018427387904) (h:layErr fs=0):
    MSpec Tryz.prog X 32 [Lx ad fs.length cap] [] (.tup [.one (.slc 1000001 0 (elemsAt 0 fs).length 2),Sn .i64 (rowSize fs:Nat),.one (.slc 1000002 0 fs.length 1),Sn .i64 0])
      [(1000001,some ⟨119,(elVs (elemsAt 0 fs)).map .val,Nat.blt 0 (elemsAt 0 fs).length⟩),(1000002,some ⟨3,(ntV (startsAt 0 fs)).map .val,Nat.blt 0 fs.length⟩)]:=by
  have:=Lay_spec X ad cap fs hin hbig
  unfold layR layBx at this
  rw [if_pos h,if_pos h] at this
  exact this
theorem Lay_no (ad:Option Addr) (cap:Nat) (fs:List Fl) (hin:FieldsIn X ad fs) (hbig:fs.length<4611686018427387904) (h:layErr fs≠0):
    MSpec Tryz.prog X 32 [Lx ad fs.length cap] [] (.tup [Vnil,Sn .i64 0,Vnil,Sn .i64 (layErr fs)]) []:=by
  have:=Lay_spec X ad cap fs hin hbig
  unfold layR layBx at this
  rw [if_neg h,if_neg h] at this
  exact this
theorem layErr_facts {fs:List Fl} (h:layErr fs=0):fs.length≤8∧fs.all Fl.ok=true∧rowSize fs≤256:=by
  unfold layErr at h
  split at h
  · cases h
  · split at h
    · split at h
      · cases h
      · rename_i h1 h2 h3;exact ⟨by omega,h2,by omega⟩
    · cases h
def fitAll (es:List (Int×Nat)) (ns:List (Bool×Int)):Bool:=(es.zip ns).all fun p=>fitB p.1.1 p.2.1 p.2.2
def fitErr (fs:List Fl) (ns:List (Bool×Int)):Int:=if layErr fs=0 then (if (elemsAt 0 fs).length=ns.length then (if fitAll (elemsAt 0 fs) ns=true then 0 else 3) else 4) else layErr fs
theorem zip_at {α β:Type} {es:List α} {ns:List β} {i:Nat} {e:α} {n:β} (h1:es[i]? = some e) (h2:ns[i]? = some n):(es.zip ns)[i]? = some (e,n):=List.getElem?_zip_eq_some.2 ⟨h1,h2⟩
end Go.Proofs.YtjifibloagkeeaaGreat
end
section
namespace Go.Lg.Fld
open Go Go.Lg
def setAt (b:List UInt8) (p:Nat) (s:List UInt8):List UInt8:=b.take p++s++b.drop (p+s.length)
theorem setAt_len {b s:List UInt8} {p:Nat} (h:p+s.length≤b.length):(setAt b p s).length=b.length:=by
  simp only [setAt,cU,cY,cZ];omega
end Go.Lg.Fld
namespace Go.Proofs.YtjifibloagkeeaaGreat
open Go Go.Lg Go.Lg.Fld
set_option maxRecDepth 100000
variable (X:Nat→Option Obj)
def numB (k:Int) (n:Bool×Int):List UInt8:=leB (kW k) (wdK k (zv n.1 n.2))
def packE:List (Int×Nat)→List (Bool×Int)→List UInt8→List UInt8
  | e::t,v::u,b=>packE t u (setAt b e.2 (numB e.1 v))
  | _,_,b=>b
theorem packE_snoc (e:Int×Nat) (v:Bool×Int):∀ (l:List (Int×Nat)) (m:List (Bool×Int)) (b:List UInt8),l.length=m.length→packE (l++[e]) (m++[v]) b=setAt (packE l m b) e.2 (numB e.1 v)
  | [],[],b,_=>rfl
  | e'::t,v'::u,b,h=>packE_snoc e v t u _ (by simpa using h)
  | [],_::_,_,h=>by simp at h
  | _::_,[],_,h=>by simp at h
def Within (es:List (Int×Nat)) (T:Nat):Prop := ∀ e∈es,kK e.1=true∧e.2+kW e.1≤T
theorem elems_in:∀ (l:List Fl) (a:Nat),l.all Fl.ok=true→∀ e∈elemsAt a l,kK e.1=true∧a≤e.2∧e.2+kW e.1≤endAt a l
  | [],a,_,e,he=>by simp [elemsAt] at he
  | f::t,a,h,e,he=>by
    simp only [List.all_cons,Bool.and_eq_true] at h
    obtain ⟨hw,h1,h8,hc⟩:=ok_w h.1
    have hr:=round_facts hw a
    have hi:=end_le t (roundUp a f.w+f.w*f.n) h.2
    simp only [elemsAt,List.mem_append,List.mem_map,List.mem_range] at he
    rcases he with ⟨i,hin,rfl⟩|he
    · have hk:kK f.kind=true:=by have:=h.1;simp only [Fl.ok,Bool.and_eq_true] at this;exact this.1
      have hm:f.w*i+f.w≤f.w*f.n:=by rw [← Nat.mul_succ];exact Nat.mul_le_mul_left _ hin
      refine ⟨hk,by simp only;omega,?_⟩
      show roundUp a f.w+f.w*i+f.w≤endAt (roundUp a f.w+f.w*f.n) t
      omega
    · have:=elems_in t _ h.2 e he
      refine ⟨this.1,by omega,?_⟩
      exact this.2.2
theorem within_row {fs:List Fl} (h:fs.all Fl.ok=true):Within (elemsAt 0 fs) (rowSize fs):=fun e he=>by
  have h1:=elems_in fs 0 h e he
  have h2:=round_facts (great_wd fs h) (endAt 0 fs)
  refine ⟨h1.1,Nat.le_trans h1.2.2 h2.2.1⟩
theorem numB_len (k:Int) (n:Bool×Int):(numB k n).length=kW k:=leB_length _ _
theorem packE_len {T:Nat}:∀ {es:List (Int×Nat)} {ns:List (Bool×Int)} {b:List UInt8},Within es T→b.length=T→(packE es ns b).length=T
  | [],_,b,_,hb=>hb
  | _::_,[],b,_,hb=>hb
  | e::t,v::u,b,hw,hb=>by
    have h1:=(hw e (by simp)).2
    exact packE_len (es:=t) (ns:=u) (fun x hx=>hw x (by simp [hx])) (by rw [setAt_len (by rw [numB_len];omega)];exact hb)
def packB (fs:List Fl) (ns:List (Bool×Int)):List UInt8:=packE (elemsAt 0 fs) ns (List.replicate (rowSize fs) 0)
theorem fitErr_facts {fs:List Fl} {ns:List (Bool×Int)} (h:fitErr fs ns=0):layErr fs=0∧(elemsAt 0 fs).length=ns.length∧fitAll (elemsAt 0 fs) ns=true:=by
  unfold fitErr at h
  split at h
  · rename_i h0
    split at h
    · rename_i h1
      split at h
      · rename_i h2;exact ⟨h0,h1,h2⟩
      · cases h
    · cases h
  · contradiction
theorem fitAll_at {es:List (Int×Nat)} {ns:List (Bool×Int)} (h:fitAll es ns=true) {i:Nat} {e:Int×Nat} {b:Bool} {N:Int} (he:es[i]? = some e) (hv:ns[i]? = some (b,N)):formB b N=true∧kK e.1=true∧fitZ e.1 (zv b N)=true:=by
  have:=List.all_eq_true.1 h _ (dB (zip_at he hv))
  simp only [fitB,Bool.and_eq_true] at this
  exact ⟨this.2.1,this.1,this.2.2⟩
end Go.Proofs.YtjifibloagkeeaaGreat
end
section
namespace Go.Lg.Fld
open Go Go.Lg
abbrev planV (size:Int) (c:CV):SV:=.agg [.val (.int .i64 size),c]
def canB (fs:List Fl):Bool:=decide (fs.length≤8)&&fs.all Fl.ok
theorem canB_err {fs:List Fl} (h:canB fs=false):layErr fs=1:=by
  unfold canB at h
  unfold layErr
  by_cases h8:8<fs.length
  · rw [if_pos h8]
  · rw [if_neg h8]
    rw [cN (show fs.length≤8 by omega),Bool.true_and] at h
    rw [h,if_neg (by simp)]
theorem canB_ok {fs:List Fl} (h:canB fs=true):fs.length≤8∧fs.all Fl.ok=true∧layErr fs=if 256<rowSize fs then 5 else 0:=by
  unfold canB at h
  rw [Bool.and_eq_true,decide_eq_true_eq] at h
  refine ⟨h.1,h.2,?_⟩
  unfold layErr
  rw [if_neg (by omega),if_pos h.2]
theorem round_up {n:Nat} (h:isWd n) (a:Nat):(a+n-1)/n*n=roundUp a n:=by
  unfold roundUp
  rcases h with rfl|rfl|rfl|rfl<;>omega
end Go.Lg.Fld
namespace Go.Proofs.YtjifibloagkeeaaGreat
open Go Go.Lg Go.Lg.Fld
set_option maxRecDepth 100000
variable (X:Nat→Option Obj)
theorem multipleFrom_spec (a w:Nat) (hw:isWd w) (ha:a<1000000):PSpec Tryz.prog X 85 [Ln .i64 (a:Nat),Ln .i64 (w:Nat)] (Ln .i64 (roundUp a w:Nat)):=by
  rw [← round_up hw]
  have hw8:1≤w∧w≤8:=by rcases hw with e|e|e|e<;>omega
  have hq:((a+w-1:Nat):Int)/((w:Nat):Int)=(((a+w-1)/w:Nat):Int):=(Int.natCast_ediv _ _).symm
  have hs:IntKind.i64.wrap ((a:Nat)+(w:Nat)-1:Int)=((a+w-1:Nat):Int):=by rw [cF (by omega)];omega
  have hd:IntKind.i64.wrap (((a+w-1:Nat):Int).tdiv ((w:Nat):Int))=(((a+w-1)/w:Nat):Int):=by rw [quo_i64 (by omega) (by omega)];exact hq
  have hb:(a+w-1)/w*w≤a+w-1:=Nat.div_mul_le_self _ _
  have hm:IntKind.i64.wrap ((((a+w-1)/w:Nat):Int)*((w:Nat):Int))=(((a+w-1)/w*w:Nat):Int):=by
    rw [← Int.natCast_mul,cF (by omega)]
  refine cD Tryz.func85 rfl (by kernel_rfl) rfl rfl ?_
  intro C
  (refine aA<|rgN<|kas O<|aB<|aA<|rgN<|kmv O<|kmv O<|kad O O (cF (by omega))<|bA O O hs dP<|kmv O<|K.quo O O (by omega) hd dP<|kmv O<|bL O O hm dP ?_;refine kas O<|aB<|aI ?_)
  exact ⟨[_],⟨O,trivial⟩,O⟩
end Go.Proofs.YtjifibloagkeeaaGreat
end
section
namespace Go.Lg.Fld
open Go Go.Lg
theorem take_ok {fs:List Fl} (h:fs.all Fl.ok=true) (i:Nat):(fs.take i).all Fl.ok=true:=by
  rw [List.all_eq_true] at h ⊢
  exact fun f hf=>h f (List.mem_of_mem_take hf)
theorem drop_at {α:Type} {l:List α} {i:Nat} {x:α} (h:l[i]? = some x):l.drop i=x::l.drop (i+1):=by
  obtain ⟨hi,e⟩:=List.getElem?_eq_some_iff.1 h
  rw [List.drop_eq_getElem_cons hi,e]
theorem fill_set {α:Type} {S:List α} {z x:α} {n i:Nat} (hS:S.length=i) (hi:i<n):(S++List.replicate (n-i) z).set i x=(S++[x])++List.replicate (n-(i+1)) z:=by
  rw [List.set_append_right _ _ (by omega),hS,Nat.sub_self]
  have:n-i=(n-(i+1))+1:=by omega
  rw [this,List.replicate_succ,List.set_cons_zero,dK]
  rfl
theorem fill_at {α:Type} {S:List α} {z x:α} {n i:Nat} (hS:S.length=i):((S++[x])++List.replicate n z)[i]? = some x:=by
  rw [dK,List.getElem?_append_right (by omega),hS,Nat.sub_self]
  rfl
end Go.Lg.Fld
namespace Go.Proofs.YtjifibloagkeeaaGreat
open Go Go.Lg Go.Lg.Fld
set_option maxRecDepth 100000
variable (X:Nat→Option Obj)
theorem canBe_spec (ad:Option Addr) (cap:Nat) (fs:List Fl) (hin:FieldsIn X ad fs) (hbig:fs.length<4611686018427387904) (r:Bool) (hr:canB fs=r):PSpec Tryz.prog X 83 [Lx ad fs.length cap] (Lb r):=by
  subst hr
  refine cD Tryz.func83 rfl (by kernel_rfl) rfl rfl ?_
  intro C
  by_cases hlong:8<fs.length
  · have hc:canB fs=false:=by unfold canB;rw [cL (by omega),Bool.false_and]
    rw [hc]
    (refine aA<|rgN<|kas O<|aB<|aA<|aA<|rgN<|kmv O<|aQ O bY O dP ?_;refine aS O O (cN (by omega)) dP<|aB<|aE O ?_;refine aA<|rgN<|kas O<|aB<|aI ?_)
    exact ⟨[_],⟨O,trivial⟩,O⟩
  have h8:fs.length≤8:=by omega
  have hcb:canB fs=fs.all Fl.ok:=by unfold canB;rw [cN h8,Bool.true_and]
  rw [hcb]
  (refine aA<|rgN<|kas O<|aB<|aA<|aA<|rgN<|kmv O<|aQ O bY O dP ?_;refine aS O O (cL (by omega)) dP<|aB<|aF O ?_;refine aH ?_;refine aA<|aA<|rgN<|kmv O<|aQ O bY O dP ?_;refine kmv O<|aB<|aG ?_)
  refine cH (fun m σ=>∃ i:Nat,i≤fs.length∧m=fs.length-i∧(fs.take i).all Fl.ok=true∧σ=⟨[(8,Lx ad fs.length cap),(9,Ln .i64 (fs.length:Nat)),(10,Ln .i64 (i:Nat))],[],X⟩) fs.length
    ⟨_,Le.of (by exact ⟨rfl,rfl,rfl,trivial⟩) (by exact trivial) (by exact rfl) (by exact rfl) (by exact rfl),0,by omega,by omega,rfl,rfl⟩ ?_
  rintro m σ ⟨i,hi,rfl,hall,rfl⟩
  by_cases hlt:i<fs.length
  · obtain ⟨f,hf⟩:∃ f,fs[i]? = some f:=⟨_,cW hlt⟩
    obtain ⟨blk,off,arr,el,fr,rfl,hX,hsz,hcells⟩:=hin.at hf
    have hio:off+Int.toNat (i:Int)*3=off+i*3:=by simp
    have hmem:f∈fs:=dB hf
    have hsm:=hin.small f hmem
    have hB:=fSize_spec X f.kind
    cases hok:f.ok with
    | false =>
      have hno:fs.all Fl.ok=false:=by
        cases e:fs.all Fl.ok with
        | false=>rfl
        | true=>rw [List.all_eq_true.1 e f hmem] at hok;cases hok
      rw [hno]
      by_cases h0:kW f.kind=0
      · rw [h0] at hB
        (refine aA<|rgN<|klt O O (cN (by omega))<|aB<|aA<|aE O ?_;refine aH ?_;refine aA<|aG<|aA<|rgN<|aR O O bY (by omega) hio dP<|aY O hX (by kernel_rfl) hsz hcells dP<|aP O dP ?_;refine aM O O O O O O dP ?_;refine aB<|aA<|rgN<|kfa O O ?_;refine kl1 O O O<|kca O O (hB)<|keq O O (cS (by omega))<|kmv O<|aC O O O<|aC O O O<|aC O O O<|kpt O O<|kmv O<|aC O O O<|aC O O O<|aC O O O<|kpt O O<|aB ?_;refine aE O ?_;refine aA<|rgN<|kas O<|aB<|aI ?_)
        exact ⟨[_],⟨O,trivial⟩,O⟩
      · have hk:kK f.kind=true:=by
          cases e:kK f.kind with
          | true=>rfl
          | false=>exact absurd ((kW_zero f.kind).2 e) h0
        by_cases h1:f.count<1
        · (refine aA<|rgN<|klt O O (cN (by omega))<|aB<|aA<|aE O ?_;refine aH ?_;refine aA<|aG<|aA<|rgN<|aR O O bY (by omega) hio dP<|aY O hX (by kernel_rfl) hsz hcells dP<|aP O dP ?_;refine aM O O O O O O dP ?_;refine aB<|aA<|rgN<|kfa O O ?_;refine kl1 O O O<|kca O O (hB)<|keq O O (cP (by omega))<|kmv O<|aN O O (dQ O O) ?_;refine aO O O O (dQ O O) ?_;refine bK O O (cN (by omega)) (dQ O O) ?_;refine kpf O O<|kmv O<|aC O O O<|aC O O O<|aC O O O<|kpt O O<|aB<|aE O ?_;refine aA<|rgN<|kas O<|aB<|aI ?_)
          exact ⟨[_],⟨O,trivial⟩,O⟩
        · have h2:8<f.count:=by
            unfold Fl.ok at hok
            rw [hk,cN (show 1≤f.count by omega)] at hok
            simpa using hok
          (refine aA<|rgN<|klt O O (cN (by omega))<|aB<|aA<|aE O ?_;refine aH ?_;refine aA<|aG<|aA<|rgN<|aR O O bY (by omega) hio dP<|aY O hX (by kernel_rfl) hsz hcells dP<|aP O dP ?_;refine aM O O O O O O dP ?_;refine aB<|aA<|rgN<|kfa O O ?_;refine kl1 O O O<|kca O O (hB)<|keq O O (cP (by omega))<|kmv O<|aN O O (dQ O O) ?_;refine aO O O O (dQ O O) ?_;refine bK O O (cL (by omega)) (dQ O O) ?_;refine kpf O O<|kmv O<|aN O O (dQ O O) ?_;refine aO O O O (dQ O O) ?_;refine aS O O (cN (by omega)) (dQ O O) ?_;refine kpf O O<|aB<|aE O ?_;refine aA<|rgN<|kas O<|aB<|aI ?_)
          exact ⟨[_],⟨O,trivial⟩,O⟩
    | true =>
      have hall':=take_all hall hf hok
      obtain ⟨hw,hn1,hn8,hnc⟩:=ok_w hok
      have hw1:1≤kW f.kind:=by have hwk:kW f.kind=f.w:=rfl;rcases hw with e|e|e|e<;>omega
      (refine aA<|rgN<|klt O O (cN (by omega))<|aB<|aA<|aE O ?_;refine aH ?_;refine aA<|aG<|aA<|rgN<|aR O O bY (by omega) hio dP<|aY O hX (by kernel_rfl) hsz hcells dP<|aP O dP ?_;refine aM O O O O O O dP ?_;refine aB<|aA<|rgN<|kfa O O ?_;refine kl1 O O O<|kca O O (hB)<|keq O O (cP (by omega))<|kmv O<|aN O O (dQ O O) ?_;refine aO O O O (dQ O O) ?_;refine bK O O (cL (by omega)) (dQ O O) ?_;refine kpf O O<|kmv O<|aN O O (dQ O O) ?_;refine aO O O O (dQ O O) ?_;refine aS O O (cL (by omega)) (dQ O O) ?_;refine kpf O O<|aB<|aF O ?_;refine aH ?_;refine rgN<|kad O O (cF (by omega))<|kmv O<|aB ?_)
      exact ⟨_,_,by omega,Le.of (by exact ⟨O,O,O,trivial⟩) (by exact trivial) (by exact O) (by exact O) (by exact O),i+1,by omega,O,hall',O⟩
  · have e:i=fs.length:=by omega
    subst e
    rw [dD] at hall
    rw [hall]
    (refine aA<|rgN<|klt O O (cL (by omega))<|aB<|aA<|aF O ?_;refine aJ<|aA<|rgN<|kas O<|aB<|aI ?_)
    exact ⟨[_],⟨O,trivial⟩,O⟩
theorem Of_no (ad:Option Addr) (cap:Nat) (fs:List Fl) (hin:FieldsIn X ad fs) (hbig:fs.length<4611686018427387904) (h:canB fs=false):
    PSpec Tryz.prog X 55 [Lx ad fs.length cap] (.tup [planV 0 (.val (.slice none 0 0)),Sn .i64 1]):=by
  have hc:=canBe_spec X ad cap fs hin hbig false h
  refine cD Tryz.func55 rfl (by kernel_rfl) rfl rfl ?_
  intro C
  (refine aA<|rgN<|aP O dP ?_;refine kas O<|aB<|aA<|aA<|rgN<|kmv O<|kca O O (hc)<|aV O O dP<|aB<|aE O ?_;refine aA<|rgN<|aT O O (by exact O) (by exact nl2 O O O) dP ?_;refine aM O O O O O O dP ?_;refine kas O<|aB<|aI ?_)
  exact ⟨[_,_],⟨⟨_,_,O,O,O,.inl ⟨AggT.h,O⟩⟩,O,trivial⟩,O⟩
def ofR (fs:List Fl):LV:=if layErr fs=0 then .tup [planV (rowSize fs:Nat) (.slc 1000001 0 fs.length 1),Sn .i64 0] else .tup [planV 0 (.val (.slice none 0 0)),Sn .i64 (layErr fs)]
def ofBx (fs:List Fl):List (Nat×Option Box):=if layErr fs=0 then [(1000001,some ⟨3,(ntV (startsAt 0 fs)).map .val,false⟩)] else []
set_option maxHeartbeats 3200000 in
theorem Of_can (ad:Option Addr) (cap:Nat) (fs:List Fl) (hin:FieldsIn X ad fs) (hbig:fs.length<4611686018427387904) (h:canB fs=true):
    MSpec Tryz.prog X 55 [Lx ad fs.length cap] [] (ofR fs) (ofBx fs):=by
  have hc:=canBe_spec X ad cap fs hin hbig true h
  obtain ⟨h8,hall,hle⟩:=canB_ok h
  refine cE Tryz.func55 rfl (by kernel_rfl) rfl (by unfold ofR ofBx;split<;>rfl) (by unfold ofBx;split<;>exact (by repeat' (first|refine bR ?_ ?_|rfl|exact bT|exact bS|exact bU rfl))) rfl rfl ?_
  intro C
  have hmk:slcBuild Tryz.prog 81 fs.length=some (List.replicate fs.length (.int .i64 0),1,3):=slcBuild_one (by kernel_rfl) (by kernel_rfl) (by omega)
  (refine aA<|rgN<|aP O dP ?_;refine kas O<|aB<|aA<|aA<|rgN<|kmv O<|kca O O (hc)<|aV O O dP<|aB<|aF O ?_;refine aH ?_;refine aA<|rgN<|kmv O<|aQ O bY O dP ?_;refine K.makeSlc (m:=fs.length) (bytes:=8) O O hmk (by kernel_rfl) (by omega) O O dP<|kas O<|aB<|aA<|rgN<|kas O<|kas O<|aB<|aA<|aA<|rgN<|kmv O<|aQ O bY O dP ?_;refine kmv O<|aB<|aG ?_)
  refine cH (fun m σ=>∃ i:Nat,i≤fs.length∧m=fs.length-i∧σ=⟨[(2,.sv (.one (.ptr 2 0))),(4,.sv (.one (.slc 17 0 fs.length 1))),(5,Ln .i64 (endAt 0 (fs.take i):Nat)),(6,Ln .i64 (greatW (fs.take i):Nat)),(18,Lx ad fs.length cap),(19,Ln .i64 (fs.length:Nat)),(20,Ln .i64 (i:Nat))],[(2,some ⟨123,[.val (.int .i64 0),.val (.slice none 0 0)],false⟩),(17,some ⟨3,(ntV (startsAt 0 (fs.take i))++List.replicate (fs.length-i) (Value.int .i64 0)).map .val,false⟩)],X⟩) fs.length
    ⟨_,Le.of (by exact ⟨rfl,rfl,rfl,rfl,rfl,rfl,rfl,trivial⟩) (by exact ⟨rfl,rfl,trivial⟩) (by exact rfl) (by exact rfl) (by repeat' (first|refine bR ?_ ?_|rfl|exact bT|exact bS|exact bU rfl)),0,by omega,by omega,rfl⟩ ?_
  rintro m σ ⟨i,hi,rfl,rfl⟩
  have ht:=take_ok hall i
  have hSl:=starts_len (fs.take i) 0
  have hend:=end_le (fs.take i) 0 ht
  have hgw:=great_wd (fs.take i) ht
  have htl:(fs.take i).length=i:=by rw [cY];omega
  rw [htl] at hSl hend
  by_cases hlt:i<fs.length
  · obtain ⟨f,hf⟩:∃ f,fs[i]? = some f:=⟨_,cW hlt⟩
    obtain ⟨blk,off,arr,el,fr,rfl,hX,hsz,hcells⟩:=hin.at hf
    have hio:off+Int.toNat (i:Int)*3=off+i*3:=by simp
    have hi1:0+Int.toNat (i:Int)*1=i:=by simp
    have hB:=fSize_spec X f.kind
    have hS:startsAt 0 (fs.take (i+1))=startsAt 0 (fs.take i)++[roundUp (endAt 0 (fs.take i)) f.w]:=by rw [take_snoc hf,starts_snoc]
    have hA:endAt 0 (fs.take (i+1))=roundUp (endAt 0 (fs.take i)) f.w+f.w*f.n:=by rw [take_snoc hf,end_snoc]
    have hG:greatW (fs.take (i+1))=max (greatW (fs.take i)) f.w:=by rw [take_snoc hf,great_snoc]
    obtain ⟨hw,hn1,hn8,hnc⟩:=ok_w (List.all_eq_true.1 hall f (dB hf))
    have hM:=multipleFrom_spec X (endAt 0 (fs.take i)) f.w hw (by omega)
    have hR:=round_facts hw (endAt 0 (fs.take i))
    have hwk:kW f.kind=f.w:=rfl
    rw [hwk] at hB
    have hw8:1≤f.w∧f.w≤8:=by rcases hw with e|e|e|e<;>omega
    have hwn:f.w*f.n≤64:=Nat.le_trans (Nat.mul_le_mul hw8.2 hn8) (by decide)
    have hfc:f.vals.map CV.val=[.val (.string ⟨f.nm.toArray⟩),.val (.int .i64 f.kind),.val (.int .i64 (f.n:Nat))]:=by rw [hnc];rfl
    rw [hfc] at hcells
    generalize startsAt 0 (fs.take i)=S at *
    generalize endAt 0 (fs.take i)=a at *
    generalize greatW (fs.take i)=g at *
    generalize f.w=w at *
    generalize f.n=n at *
    generalize hT:roundUp a w=T at *
    have hnS:(ntV S).length=i:=by simp [ntV,hSl]
    have hlt2:Nat.blt i (((ntV S++List.replicate (fs.length-i) (Value.int .i64 0)).map CV.val).length)=true:=by rw [Nat.blt_eq,cV,cU,hnS,dC];omega
    have hset:((ntV S++List.replicate (fs.length-i) (Value.int .i64 0)).map CV.val).set i (.val (.int .i64 (T:Nat)))=(ntV (S++[T])++List.replicate (fs.length-(i+1)) (Value.int .i64 0)).map CV.val:=by
      rw [← List.map_set,fill_set hnS hlt];simp [ntV]
    have hget:((ntV (S++[T])++List.replicate (fs.length-(i+1)) (Value.int .i64 0)).map CV.val)[i]? = some (.val (.int .i64 (T:Nat))):=by
      rw [dJ,show ntV (S++[T])=ntV S++[.int .i64 (T:Nat)] by simp [ntV],fill_at hnS];rfl
    have hmul:IntKind.i64.wrap (((w:Nat):Int)*((n:Nat):Int))=((w*n:Nat):Int):=by rw [← Int.natCast_mul,cF (by omega)]
    have hadd:IntKind.i64.wrap (((T:Nat):Int)+((w*n:Nat):Int))=((T+w*n:Nat):Int):=by rw [cF (by omega)];omega
    have hmx:(if ((w:Nat):Int)>((g:Nat):Int) then ((w:Nat):Int) else ((g:Nat):Int))=((max g w:Nat):Int):=by split<;>omega
    (refine aA<|rgN<|klt O O (cN (by omega))<|aB<|aA<|aE O ?_;refine aH ?_;refine aA<|aG<|aA<|rgN<|kmv O<|aR O O bY (by omega) hio dP<|aY O hX (by kernel_rfl) hsz hcells dP<|aP O dP ?_;refine kas O<|aM O O O O O O dP ?_;refine aB<|aA<|rgN<|kfa O O ?_;refine kl1 O O O<|kca O O (hB)<|kas O<|aB<|aA<|rgN<|kmv O<|kmv O<|kmv O<|kmv O<|kca O O (hM)<|K.indexSlc O O (by omega) hi1 dP ?_;refine bG O O O O hlt2 hset dP<|aB<|aA<|rgD mixed<|kmv O<|kmv O<|K.indexSlc O O (by omega) hi1 dP ?_;refine kl1 O O hget<|kmv O<|kfa O O ?_;refine kl1 O O O<|bL O O hmul dP<|kad O O hadd<|kas O<|aB<|rgA ?_;refine rgN<|kmv O<|kmv O<|K.max2 O O hmx dP ?_;refine kas O<|aB<|rgN<|kad O O (cF (by omega))<|kmv O<|aB ?_)
    exact ⟨_,_,by omega,Le.of (by exact ⟨rfl,rfl,by rw [hA];rfl,by rw [hG];rfl,rfl,rfl,rfl,trivial⟩) (by exact ⟨rfl,by rw [hS];rfl,trivial⟩) (by exact rfl) (by exact rfl) (by repeat' (first|refine bR ?_ ?_|rfl|exact bT|exact bS|exact bU rfl)),i+1,by omega,rfl,rfl⟩
  · have e:i=fs.length:=by omega
    subst e
    rw [dD] at *
    have hM:=multipleFrom_spec X (endAt 0 fs) (greatW fs) hgw (by omega)
    rw [show roundUp (endAt 0 fs) (greatW fs)=rowSize fs from rfl] at hM
    unfold ofR ofBx
    rw [hle]
    have hz:(ntV (startsAt 0 fs)++List.replicate (fs.length-fs.length) (Value.int .i64 0)).map CV.val=(ntV (startsAt 0 fs)).map CV.val:=by rw [Nat.sub_self,List.replicate_zero,dH]
    rw [hz]
    have hT:rowSize fs<1000000:=by
      have h1:=round_facts hgw (endAt 0 fs)
      have h2:greatW fs≤8:=by rcases hgw with e|e|e|e<;>omega
      have h3:rowSize fs=roundUp (endAt 0 fs) (greatW fs):=rfl
      omega
    generalize rowSize fs=T at *
    by_cases h256:256<T
    · rw [if_pos h256,if_neg (by decide),if_neg (by decide)]
      (refine aA<|rgN<|klt O O (cL (by omega))<|aB<|aA<|aF O ?_;refine aJ<|aA<|rgN<|kmv O<|kmv O<|kca O O (hM)<|kas O<|aB<|aA<|aA<|rgN<|kmv O<|aS O O (cN (by omega)) dP<|aB ?_;refine aE O ?_;refine aA<|rgN<|aT O O (by exact O) (by exact nl2 O O O) dP ?_;refine aM O O O O O O dP ?_;refine kas O<|aB<|aI ?_)
      exact ⟨[],⟨[_,_],⟨⟨_,_,O,O,O,.inl ⟨AggT.h,O⟩⟩,O,trivial⟩,O⟩,trivial,O,O⟩
    · rw [if_neg h256,if_pos rfl,if_pos rfl]
      (refine aA<|rgN<|klt O O (cL (by omega))<|aB<|aA<|aF O ?_;refine aJ<|aA<|rgN<|kmv O<|kmv O<|kca O O (hM)<|kas O<|aB<|aA<|aA<|rgN<|kmv O<|aS O O (cL (by omega)) dP<|aB ?_;refine aF O ?_;refine aH ?_;refine aA<|rgN<|kmv O<|kmv O<|aT O O (by exact O) (by exact nl2 O O O) dP ?_;refine aM O O O O O O dP ?_;refine kas O<|aB<|aI ?_)
      exact ⟨[(1000001,17)],⟨[_,_],⟨⟨_,_,rfl,rfl,rfl,.inl ⟨AggT.h,rfl⟩⟩,rfl,trivial⟩,rfl⟩,(by repeat' (first|exact trivial|refine cO ⟨_,rfl,?_⟩ ?_|refine cO ⟨_,rfl⟩ ?_|rfl|exact bV _ _ _ _|exact bW _ _ _ _|exact bX rfl)),rfl,rfl⟩
end Go.Proofs.YtjifibloagkeeaaGreat
end
section
namespace Go.Lg.Fld
open Go Go.Lg
theorem elVs_fit {l:List (Int×Nat)} {i:Nat} {e:Int×Nat} (h:l[i]? = some e):Nat.ble (i*2+2) ((elVs l).map CV.val).length=true:=by
  have:=(List.getElem?_eq_some_iff.1 h).1
  rw [Nat.ble_eq,cV,elVs_len];omega
theorem elVs_row {l:List (Int×Nat)} {i:Nat} {e:Int×Nat} (h:l[i]? = some e):(((elVs l).map CV.val).drop (i*2)).take 2=[.val (.int .i64 e.1),.val (.int .i64 (e.2:Nat))]:=by
  obtain ⟨h1,h2⟩:=elVs_at h
  rw [drop_at h1,List.take_succ_cons,drop_at h2]
  rfl
end Go.Lg.Fld
namespace Go.Proofs.YtjifibloagkeeaaGreat
open Go Go.Lg Go.Lg.Fld
set_option maxRecDepth 100000
variable (X:Nat→Option Obj)
theorem Of_err (ad:Option Addr) (cap:Nat) (fs:List Fl) (hin:FieldsIn X ad fs) (hbig:fs.length<4611686018427387904) (h:layErr fs≠0):
    PSpec Tryz.prog X 55 [Lx ad fs.length cap] (.tup [planV 0 (.val (.slice none 0 0)),Sn .i64 (layErr fs)]):=by
  cases hc:canB fs with
  | false=>rw [canB_err hc];exact Of_no X ad cap fs hin hbig hc
  | true =>
    have:=Of_can X ad cap fs hin hbig hc
    unfold ofR ofBx at this
    rw [if_neg h,if_neg h] at this
    exact this.plain
theorem Of_ok (ad:Option Addr) (cap:Nat) (fs:List Fl) (hin:FieldsIn X ad fs) (hbig:fs.length<4611686018427387904) (h:layErr fs=0):
    MSpec Tryz.prog X 55 [Lx ad fs.length cap] [] (.tup [planV (rowSize fs:Nat) (.slc 1000001 0 fs.length 1),Sn .i64 0]) [(1000001,some ⟨3,(ntV (startsAt 0 fs)).map .val,false⟩)]:=by
  cases hc:canB fs with
  | false=>rw [canB_err hc] at h;exact absurd h (by decide)
  | true =>
    have:=Of_can X ad cap fs hin hbig hc
    unfold ofR ofBx at this
    rw [if_pos h,if_pos h] at this
    exact this
theorem Check_spec (ad:Option Addr) (cap:Nat) (fs:List Fl) (hin:FieldsIn X ad fs) (hbig:fs.length<4611686018427387904):PSpec Tryz.prog X 75 [Lx ad fs.length cap] (Ln .i64 (layErr fs)):=by
  refine cD Tryz.func75 rfl (by kernel_rfl) rfl rfl ?_
  intro C
  by_cases h:layErr fs=0
  · have hO:=Of_ok X ad cap fs hin hbig h
    rw [h]
    generalize rowSize fs=T at *
    generalize startsAt 0 fs=S at *
    (refine aA<|rgN<|kas O<|aB<|aA<|rgN<|kmv O<|bE [(1000001,501)] (.tup [planV (T:Nat) (.slc 501 0 fs.length 1),Sn .i64 0]) [(501,some ⟨3,(ntV S).map .val,false⟩)] (hO) O O (by exact trivial) O O O O O (by exact (.box O (bW _ _ _ _) .nil)) dP<|kmv O<|kex O O<|kex O O<|aP O dP ?_;refine aM O O O O O O dP ?_;refine kas O<|aB<|aA<|rgN<|kmv O<|kas O<|aB<|aI ?_)
    exact ⟨[_],⟨O,trivial⟩,O⟩
  · have hO:=Of_err X ad cap fs hin hbig h
    generalize layErr fs=e at *
    (refine aA<|rgN<|kas O<|aB<|aA<|rgN<|kmv O<|kca O O (hO)<|kmv O<|kex O O<|kex O O<|aP O dP ?_;refine aM O O O O O O dP ?_;refine kas O<|aB<|aA<|rgN<|kmv O<|kas O<|aB<|aI ?_)
    exact ⟨[_],⟨O,trivial⟩,O⟩
theorem starts_at:∀ {l:List Fl} {a i:Nat} {f:Fl},l[i]? = some f→(startsAt a l)[i]? = some (roundUp (endAt a (l.take i)) f.w)
  | [],_,i,f,h=>by simp at h
  | g::t,a,0,f,h=>by
    simp only [List.getElem?_cons_zero,Option.some.injEq] at h
    subst h;rfl
  | g::t,a,i+1,f,h=>by
    have:=starts_at (l:=t) (a:=roundUp a g.w+g.w*g.n) (i:=i) (f:=f) (by simpa using h)
    simpa [startsAt,endAt] using this
set_option maxHeartbeats 3200000 in
theorem slotsOf_spec (ad:Option Addr) (cap:Nat) (fs:List Fl) (T:Nat) (hin:FieldsIn X ad fs) (h8:fs.length≤8) (hall:fs.all Fl.ok=true):
    MSpec Tryz.prog X 70 [Lx ad fs.length cap,.sv (planV (T:Nat) (.slc 1000001 0 fs.length 1))] [(1000001,some ⟨3,(ntV (startsAt 0 fs)).map .val,false⟩)] (.sv (.one (.slc 1000002 0 (elemsAt 0 fs).length 2)))
      [(1000001,some ⟨3,(ntV (startsAt 0 fs)).map .val,false⟩),(1000002,some ⟨146,(elVs (elemsAt 0 fs)).map .val,Nat.blt 0 (elemsAt 0 fs).length⟩)]:=by
  have hst:∀ {i:Nat} {f:Fl},fs[i]? = some f→(startsAt 0 fs)[i]? = some (roundUp (endAt 0 (fs.take i)) f.w):=fun h=>starts_at h
  refine cE Tryz.func70 rfl (by kernel_rfl) rfl rfl (by exact (by repeat' (first|refine bR ?_ ?_|rfl|exact bT|exact bS|exact bU rfl))) rfl rfl ?_
  intro C
  generalize startsAt 0 fs=S at *
  (refine aA<|rgN<|aL O O O dP<|kas O<|aB<|aA<|rgN<|aZ (zs:=[]) (sz:=2) (e:=146) (by kernel_rfl) O O O O O O dP<|kas O<|aB<|aA<|aA<|rgN<|kmv O ?_;refine aQ O bY O dP ?_;refine kmv O<|aB<|aG ?_)
  refine cH (fun m σ=>∃ i:Nat,i≤fs.length∧m=fs.length-i∧σ=⟨[(3,.sv (.one (.ptr 3 0))),(5,.sv (.one (.slc 500 0 (elemsAt 0 (fs.take i)).length 2))),(10,Lx ad fs.length cap),(11,Ln .i64 (fs.length:Nat)),(12,Ln .i64 (i:Nat))],[(1000001,some ⟨3,(ntV S).map .val,false⟩),(3,some ⟨123,[.val (.int .i64 (T:Nat)),.slc 1000001 0 fs.length 1],false⟩),(500,some ⟨146,(elVs (elemsAt 0 (fs.take i))).map .val,Nat.blt 0 (elemsAt 0 (fs.take i)).length⟩)],X⟩) fs.length
    ⟨_,Le.ofR [(500,9)] (by exact ⟨rfl,rfl,rfl,rfl,rfl,trivial⟩) (by repeat' (first|exact trivial|refine cO ⟨_,rfl,?_⟩ ?_|refine cO ⟨_,rfl⟩ ?_|rfl|exact bV _ _ _ _|exact bW _ _ _ _|exact bX rfl)) (by exact rfl) (by exact rfl) (by repeat' (first|refine bR ?_ ?_|rfl|exact bT|exact bS|exact bU rfl)) (by exact rfl) (by exact rfl),0,by omega,by omega,rfl⟩ ?_
  rintro m σ ⟨i,hi,rfl,rfl⟩
  have ht:=take_ok hall i
  have hend:=end_le (fs.take i) 0 ht
  have hEl:=elems_len (fs.take i) 0 ht
  have htl:(fs.take i).length=i:=by rw [cY];omega
  rw [htl] at hend hEl
  by_cases hlt:i<fs.length
  · obtain ⟨f,hf⟩:∃ f,fs[i]? = some f:=⟨_,cW hlt⟩
    obtain ⟨blk,off,arr,el,fr,rfl,hX,hsz,hcells⟩:=hin.at hf
    have hio:off+Int.toNat (i:Int)*3=off+i*3:=by simp
    have hi1:0+Int.toNat (i:Int)*1=i:=by simp
    have hB:=fSize_spec X f.kind
    obtain ⟨hw,hn1,hn8,hnc⟩:=ok_w (List.all_eq_true.1 hall f (dB hf))
    have hR:=round_facts hw (endAt 0 (fs.take i))
    have hwk:kW f.kind=f.w:=rfl
    rw [hwk] at hB
    have hw8:1≤f.w∧f.w≤8:=by rcases hw with e|e|e|e<;>omega
    have hE:elemsAt 0 (fs.take (i+1))=elemsAt 0 (fs.take i)++(List.range f.n).map (fun j=>(f.kind,roundUp (endAt 0 (fs.take i)) f.w+f.w*j)):=by rw [take_snoc hf,elems_snoc]
    have hfc:f.vals.map CV.val=[.val (.string ⟨f.nm.toArray⟩),.val (.int .i64 f.kind),.val (.int .i64 (f.n:Nat))]:=by rw [hnc];rfl
    rw [hfc] at hcells
    have hgetS:((ntV S).map CV.val)[i]? = some (.val (.int .i64 (roundUp (endAt 0 (fs.take i)) f.w:Nat))):=by
      rw [dJ,show ntV S=S.map (fun n:Nat=>Value.int .i64 (n:Nat)) from rfl,dJ,hst hf];rfl
    generalize elemsAt 0 (fs.take i)=E at *
    generalize hT:roundUp (endAt 0 (fs.take i)) f.w=b at *
    generalize endAt 0 (fs.take i)=a at *
    generalize f.w=w at *
    generalize f.n=n at *
    (refine aA<|rgN<|klt O O (cN (by omega))<|aB<|aA<|aE O ?_;refine aH ?_;refine aA<|aG<|aA<|rgN<|kmv O<|aR O O bY (by omega) hio dP<|aY O hX (by kernel_rfl) hsz hcells dP<|aP O dP ?_;refine kas O<|aM O O O O O O dP ?_;refine aB<|aA<|rgN<|kfa O O ?_;refine kl1 O O O<|kmv O<|aB<|aG ?_)
    refine cH (fun m σ=>∃ j:Nat,j≤n∧m=n-j∧σ=⟨[(3,.sv (.one (.ptr 3 0))),(5,.sv (.one (.slc 500 0 (E.length+j) 2))),(6,Ln .i64 (i:Nat)),(7,.sv (.one (.ptr 7 0))),(10,Lx (some ⟨blk,off,none⟩) fs.length cap),(11,Ln .i64 (fs.length:Nat)),(12,Ln .i64 (i:Nat)),(18,Ln .i64 (n:Nat)),(19,Ln .i64 (j:Nat))],[(1000001,some ⟨3,(ntV S).map .val,false⟩),(3,some ⟨123,[.val (.int .i64 (T:Nat)),.slc 1000001 0 fs.length 1],false⟩),(500,some ⟨146,(elVs (E++(List.range j).map (fun q=>(f.kind,b+w*q)))).map .val,Nat.blt 0 (E.length+j)⟩),(7,some ⟨79,[.val (.string ⟨f.nm.toArray⟩),.val (.int .i64 f.kind),.val (.int .i64 (n:Nat))],false⟩)],X⟩) n
      ⟨_,Le.ofR [] (by exact ⟨rfl,rfl,rfl,rfl,rfl,rfl,rfl,rfl,rfl,trivial⟩) (by rw [List.range_zero,List.map_nil,dH];exact (by repeat' (first|exact trivial|refine cO ⟨_,rfl,?_⟩ ?_|refine cO ⟨_,rfl⟩ ?_|rfl|exact bV _ _ _ _|exact bW _ _ _ _|exact bX rfl))) (by exact rfl) (by exact rfl) (by repeat' (first|refine bR ?_ ?_|rfl|exact bT|exact bS|exact bU rfl)) (by exact rfl) (by exact rfl),0,by omega,rfl,rfl⟩ ?_
    rintro m σ ⟨j,hj,rfl,rfl⟩
    have hwj:w*j≤64:=Nat.le_trans (Nat.mul_le_mul hw8.2 (Nat.le_trans hj hn8)) (by decide)
    by_cases hjn:j<n
    · have hrg:(List.range (j+1)).map (fun q=>(f.kind,b+w*q))=(List.range j).map (fun q=>(f.kind,b+w*q))++[(f.kind,b+w*j)]:=by rw [List.range_succ,dF];rfl
      have hcl2:((elVs (E++(List.range j).map (fun q=>(f.kind,b+w*q)))).map CV.val).length=(E.length+j)*2:=by rw [cV,elVs_len];simp
      have hnc2:(elVs (E++(List.range j).map (fun q=>(f.kind,b+w*q)))).map CV.val++[.val (.int .i64 f.kind),.val (.int .i64 (b+w*j:Nat))]=(elVs (E++(List.range (j+1)).map (fun q=>(f.kind,b+w*q)))).map CV.val:=by
        rw [hrg,← dK,elVs_app (E++_) [_],dF]
        rfl
      have hmul:IntKind.i64.wrap (((j:Nat):Int)*((w:Nat):Int))=((w*j:Nat):Int):=by rw [← Int.natCast_mul,Nat.mul_comm,cF (by omega)]
      have hadd:IntKind.i64.wrap (((b:Nat):Int)+((w*j:Nat):Int))=((b+w*j:Nat):Int):=by rw [cF (by omega)];omega
      (refine aA<|rgN<|klt O O (cN (by omega))<|aB<|aA<|aE O ?_;refine aH ?_;refine aA<|aG<|aA<|rgN<|kmv O<|kas O<|aB<|rgD mixed<|kmv O<|kfa O O ?_;refine kl1 O O O<|kfa O O ?_;refine kl1 O O O<|kmv O<|K.indexSlc O O (by omega) hi1 dP ?_;refine kl1 O O hgetS<|kmv O<|kfa O O ?_;refine kl1 O O O<|kca O O (hB)<|bL O O hmul dP<|kad O O hadd<|aT O O (by exact O) (by exact nl2 O O O) dP ?_;refine aZ (zs:=[.int .i64 0,.int .i64 0]) (sz:=2) (e:=146) (by kernel_rfl) O O O O O O dP<|bO (by_:=16) (e2:=146) (l2:=[.val (.int .i64 f.kind),.val (.int .i64 (b+w*j:Nat))]) (nl:=E.length+(j+1)) O O hcl2 O O (dL _) O O (by kernel_rfl) (by kernel_rfl) (by omega) (by omega) O O hnc2 dP<|kas O<|aB<|rgA ?_;refine rgN<|kad O O (cF (by omega))<|kmv O<|aB ?_)
      exact ⟨_,_,by omega,Le.ofR [(500,38)] (by exact ⟨rfl,rfl,rfl,rfl,rfl,rfl,rfl,rfl,rfl,trivial⟩) (by repeat' (first|exact trivial|refine cO ⟨_,rfl,?_⟩ ?_|refine cO ⟨_,rfl⟩ ?_|rfl|exact bV _ _ _ _|exact bW _ _ _ _|exact bX rfl)) (by exact rfl) (by exact rfl) (by repeat' (first|refine bR ?_ ?_|rfl|exact bT|exact bS|exact bU rfl)) (by exact rfl) (by exact rfl),j+1,by omega,rfl,rfl⟩
    · have e:j=n:=by omega
      subst e
      have hEn:(E++(List.range j).map (fun q=>(f.kind,b+w*q))).length=E.length+j:=by simp
      (refine aA<|rgN<|klt O O (cL (by omega))<|aB<|aA<|aF O ?_;refine aJ<|rgN<|kad O O (cF (by omega))<|kmv O<|aB ?_)
      exact ⟨_,_,by omega,Le.ofR [] (by exact ⟨rfl,by rw [hE,hEn];rfl,rfl,rfl,rfl,trivial⟩) (by rw [hE,hEn];exact (by repeat' (first|exact trivial|refine cO ⟨_,rfl,?_⟩ ?_|refine cO ⟨_,rfl⟩ ?_|rfl|exact bV _ _ _ _|exact bW _ _ _ _|exact bX rfl))) (by exact rfl) (by exact rfl) (by repeat' (first|refine bR ?_ ?_|rfl|exact bT|exact bS|exact bU rfl)) (by exact rfl) (by exact rfl),i+1,by omega,rfl,rfl⟩
  · have e:i=fs.length:=by omega
    subst e
    rw [dD] at *
    generalize elemsAt 0 fs=E at *
    (refine aA<|rgN<|klt O O (cL (by omega))<|aB<|aA<|aF O ?_;refine aJ<|aA<|rgN<|kmv O<|kas O<|aB<|aI ?_)
    exact ⟨[(1000002,500)],⟨[_],⟨rfl,trivial⟩,rfl⟩,(by repeat' (first|exact trivial|refine cO ⟨_,rfl,?_⟩ ?_|refine cO ⟨_,rfl⟩ ?_|rfl|exact bV _ _ _ _|exact bW _ _ _ _|exact bX rfl)),rfl,rfl⟩
end Go.Proofs.YtjifibloagkeeaaGreat
end
section
namespace Go.Lg.Fld
open Go Go.Lg
theorem splice_bc (B s:List UInt8) (p:Nat):splice (B.map bc) p (s.map bc)=(setAt B p s).map bc:=by
  unfold splice setAt
  simp [List.map_take,List.map_drop]
end Go.Lg.Fld
namespace Go.Proofs.YtjifibloagkeeaaGreat
open Go Go.Lg Go.Lg.Fld
set_option maxRecDepth 100000
variable (X:Nat→Option Obj)
set_option maxHeartbeats 1600000 in
theorem lFit_any (ad ad2:Option Addr) (cap cap2:Nat) (fs:List Fl) (ns:List (Bool×Int)) (hin:FieldsIn X ad fs) (hbig:fs.length<4611686018427387904) (hns:NumsIn X ad2 ns):
    PSpec Tryz.prog X 69 [Lx ad fs.length cap,Lx ad2 ns.length cap2] (Ln .i64 (fitErr fs ns)):=by
  refine cD Tryz.func69 rfl (by kernel_rfl) rfl rfl ?_
  intro C
  unfold fitErr
  by_cases hl:layErr fs=0
  · have hO:=Of_ok X ad cap fs hin hbig hl
    obtain ⟨h8,hall,_⟩:=layErr_facts hl
    have hSl:=slotsOf_spec X ad cap fs (rowSize fs) hin h8 hall
    have hEl:=elems_len fs 0 hall
    rw [if_pos hl]
    generalize elemsAt 0 fs=E at *
    generalize startsAt 0 fs=S at *
    generalize rowSize fs=T at *
    by_cases hn:E.length=ns.length
    · rw [if_pos hn]
      (refine aA<|rgN<|kas O<|aB<|aA<|rgN<|kmv O<|bE [(1000001,501)] (.tup [planV (T:Nat) (.slc 501 0 fs.length 1),Sn .i64 0]) [(501,some ⟨3,(ntV S).map .val,false⟩)] (hO) O O (by exact trivial) O O O O O (by exact (.box O (bW _ _ _ _) .nil)) dP<|kmv O<|kex O O<|kex O O<|aP O dP ?_;refine aM O O O O O O dP ?_;refine kas O<|aB<|aA<|aA<|rgN<|kmv O<|kne O O ((cQ (by omega)))<|aB<|aF O ?_;refine aH ?_;refine aA<|rgN<|kmv O<|aK O O O dP ?_;refine bE [(1000001,501),(1000002,502)] (.sv (.one (.slc 502 0 E.length 2))) [(501,some ⟨3,(ntV S).map .val,false⟩),(502,some ⟨146,(elVs E).map .val,Nat.blt 0 E.length⟩)] (hSl) O O (by exact (cO ⟨_,O,(bW _ _ _ _)⟩ trivial)) (by exact (bR bS O)) O O O O (by exact (.box O (bW _ _ _ _) (.box O (bW _ _ _ _) .nil))) dP<|kas O<|aB<|aA<|aA<|rgN<|kmv O<|aQ O bY O dP ?_;refine kmv O<|K.lenSlc O bY O dP ?_;refine kne O O ((cQ (by omega)))<|aB<|aF O ?_;refine aH ?_;refine aA<|aA<|rgN<|kmv O<|K.lenSlc O bY O dP ?_;refine kmv O<|aB<|aG ?_)
      refine cH (fun m σ=>∃ i:Nat,i≤E.length∧m=E.length-i∧((E.zip ns).take i).all (fun p=>fitB p.1.1 p.2.1 p.2.2)=true∧σ=⟨[(1,Lx ad2 ns.length cap2),(26,.sv (.one (.slc 502 0 E.length 2))),(27,Ln .i64 (E.length:Nat)),(28,Ln .i64 (i:Nat))],[(502,some ⟨146,(elVs E).map .val,Nat.blt 0 E.length⟩)],X⟩) E.length
        ⟨_,Le.of (by exact ⟨rfl,rfl,rfl,rfl,trivial⟩) (by exact ⟨rfl,trivial⟩) (by exact rfl) (by exact rfl) (by repeat' (first|refine bR ?_ ?_|rfl|exact bT|exact bS|exact bU rfl)),0,by omega,rfl,rfl,rfl⟩ ?_
      rintro m σ ⟨i,hi,rfl,hpre,rfl⟩
      by_cases hlt:i<E.length
      · obtain ⟨e,he⟩:∃ e,E[i]? = some e:=⟨_,cW hlt⟩
        obtain ⟨⟨b,N⟩,hv⟩:∃ v,ns[i]? = some v:=⟨_,cW (by omega)⟩
        obtain ⟨hN,blk,off,arr,el,fr,rfl,hX,hsz,hcells⟩:=hns.at hv
        have hio:off+Int.toNat (i:Int)*3=off+i*3:=by simp
        have hie:0+Int.toNat (i:Int)*2=i*2:=by simp
        have hc:=elVs_row he
        have hbl:=elVs_fit he
        have hzip:=zip_at he hv
        have hF:=Fits_spec X e.1 b N hN
        cases hf:fitB e.1 b N with
        | true =>
          have hF':=hF true hf
          (refine aA<|rgN<|klt O O (cN (by omega))<|aB<|aA<|aE O ?_;refine aH ?_;refine aA<|aG<|aA<|rgN<|kmv O<|K.indexSlc O O (by omega) hie dP ?_;refine bJ O O hbl hc dP ?_;refine aP O dP ?_;refine kas O<|aM O O O O O O dP ?_;refine aB<|aA<|rgD mixed<|kfa O O ?_;refine kl1 O O O<|kmv O<|kmv O<|aR O O bY (by omega) hio dP<|aY O hX (by kernel_rfl) hsz hcells dP<|kca O O (hF')<|aV O O dP<|aB<|rgA ?_;refine aF O ?_;refine aH ?_;refine rgN<|kad O O (cF (by omega))<|kmv O<|aB ?_)
          exact ⟨_,_,by omega,Le.of (by exact ⟨rfl,rfl,rfl,rfl,trivial⟩) (by exact ⟨rfl,trivial⟩) (by exact rfl) (by exact rfl) (by repeat' (first|refine bR ?_ ?_|rfl|exact bT|exact bS|exact bU rfl)),i+1,by omega,rfl,by rw [take_snoc hzip,List.all_append,hpre];simp [hf],rfl⟩
        | false =>
          have hF':=hF false hf
          have hno:fitAll E ns=false:=by
            unfold fitAll
            cases h:(E.zip ns).all (fun p=>fitB p.1.1 p.2.1 p.2.2) with
            | false=>rfl
            | true=>have:=List.all_eq_true.1 h _ (dB hzip);rw [hf] at this;cases this
          rw [hno]
          (refine aA<|rgN<|klt O O (cN (by omega))<|aB<|aA<|aE O ?_;refine aH ?_;refine aA<|aG<|aA<|rgN<|kmv O<|K.indexSlc O O (by omega) hie dP ?_;refine bJ O O hbl hc dP ?_;refine aP O dP ?_;refine kas O<|aM O O O O O O dP ?_;refine aB<|aA<|rgD mixed<|kfa O O ?_;refine kl1 O O O<|kmv O<|kmv O<|aR O O bY (by omega) hio dP<|aY O hX (by kernel_rfl) hsz hcells dP<|kca O O (hF')<|aV O O dP<|aB<|rgA ?_;refine aE O ?_;refine aA<|rgN<|kas O<|aB<|aI ?_)
          exact ⟨[_],⟨O,trivial⟩,O⟩
      · have e:i=E.length:=by omega
        subst e
        have hyes:fitAll E ns=true:=by
          rw [List.take_of_length_le (by rw [List.length_zip];omega)] at hpre
          exact hpre
        rw [hyes]
        (refine aA<|rgN<|klt O O (cL (by omega))<|aB<|aA<|aF O ?_;refine aJ<|aA<|rgN<|kas O<|aB<|aI ?_)
        exact ⟨[_],⟨O,trivial⟩,O⟩
    · rw [if_neg hn]
      (refine aA<|rgN<|kas O<|aB<|aA<|rgN<|kmv O<|bE [(1000001,501)] (.tup [planV (T:Nat) (.slc 501 0 fs.length 1),Sn .i64 0]) [(501,some ⟨3,(ntV S).map .val,false⟩)] (hO) O O (by exact trivial) O O O O O (by exact (.box O (bW _ _ _ _) .nil)) dP<|kmv O<|kex O O<|kex O O<|aP O dP ?_;refine aM O O O O O O dP ?_;refine kas O<|aB<|aA<|aA<|rgN<|kmv O<|kne O O ((cQ (by omega)))<|aB<|aF O ?_;refine aH ?_;refine aA<|rgN<|kmv O<|aK O O O dP ?_;refine bE [(1000001,501),(1000002,502)] (.sv (.one (.slc 502 0 E.length 2))) [(501,some ⟨3,(ntV S).map .val,false⟩),(502,some ⟨146,(elVs E).map .val,Nat.blt 0 E.length⟩)] (hSl) O O (by exact (cO ⟨_,O,(bW _ _ _ _)⟩ trivial)) (by exact (bR bS O)) O O O O (by exact (.box O (bW _ _ _ _) (.box O (bW _ _ _ _) .nil))) dP<|kas O<|aB<|aA<|aA<|rgN<|kmv O<|aQ O bY O dP ?_;refine kmv O<|K.lenSlc O bY O dP ?_;refine kne O O (cR (by omega))<|aB<|aE O ?_;refine aA<|rgN<|kas O<|aB<|aI ?_)
      exact ⟨[_],⟨O,trivial⟩,O⟩
  · have hO:=Of_err X ad cap fs hin hbig hl
    rw [if_neg hl]
    generalize layErr fs=e at *
    (refine aA<|rgN<|kas O<|aB<|aA<|rgN<|kmv O<|kca O O (hO)<|kmv O<|kex O O<|kex O O<|aP O dP ?_;refine aM O O O O O O dP ?_;refine kas O<|aB<|aA<|aA<|rgN<|kmv O<|kne O O (cR (by omega))<|aB<|aE O ?_;refine aA<|rgN<|kmv O<|kas O<|aB<|aI ?_)
    exact ⟨[_],⟨O,trivial⟩,O⟩
theorem lFit_spec (ad ad2:Option Addr) (cap cap2:Nat) (fs:List Fl) (ns:List (Bool×Int)) (hin:FieldsIn X ad fs) (hbig:fs.length<4611686018427387904) (hns:NumsIn X ad2 ns) (_:ns.length<4611686018427387904):
    PSpec Tryz.prog X 69 [Lx ad fs.length cap,Lx ad2 ns.length cap2] (Ln .i64 (fitErr fs ns)):=lFit_any X ad ad2 cap cap2 fs ns hin hbig hns
def packR (fs:List Fl) (ns:List (Bool×Int)):List UInt8:=if fitErr fs ns=0 then packB fs ns else []
set_option maxHeartbeats 1600000 in
theorem lPack_spec (ad ad2:Option Addr) (cap cap2:Nat) (fs:List Fl) (ns:List (Bool×Int)) (hin:FieldsIn X ad fs) (hbig:fs.length<4611686018427387904) (hns:NumsIn X ad2 ns) (hnb:ns.length<4611686018427387904):
    PSpec Tryz.prog X 46 [Lx ad fs.length cap,Lx ad2 ns.length cap2] (.tup [Ss (packR fs ns),Sn .i64 (fitErr fs ns)]):=by
  have hFit:=lFit_spec X ad ad2 cap cap2 fs ns hin hbig hns hnb
  refine cD Tryz.func46 rfl (by kernel_rfl) rfl rfl ?_
  intro C
  unfold packR
  by_cases h:fitErr fs ns=0
  · rw [if_pos h,h]
    rw [h] at hFit
    obtain ⟨hl,hn,hfit⟩:=fitErr_facts h
    have hO:=Of_ok X ad cap fs hin hbig hl
    obtain ⟨h8,hall,hT⟩:=layErr_facts hl
    have hSl:=slotsOf_spec X ad cap fs (rowSize fs) hin h8 hall
    have hW:=within_row hall
    have hEl:=elems_len fs 0 hall
    unfold packB
    generalize elemsAt 0 fs=E at *
    generalize startsAt 0 fs=S at *
    generalize rowSize fs=T at *
    have hmk:slcBuild Tryz.prog 142 T=some (List.replicate T (.int .u8 0),1,5):=slcBuild_one (by kernel_rfl) (by kernel_rfl) (by omega)
    have hz0:(List.replicate T (Value.int .u8 0)).map CV.val=(List.replicate T (0:UInt8)).map bc:=by rw [List.map_replicate,List.map_replicate];rfl
    (refine aA<|rgN<|kas O<|kas O<|aB<|aA<|aA<|rgN<|kmv O<|kmv O<|kca O O (hFit)<|kas O<|aB<|aA ?_;refine rgN<|kmv O<|kne O O ((cQ (by omega)))<|aB<|aF O ?_;refine aH ?_;refine aA<|rgN<|kmv O<|bE [(1000001,501)] (.tup [planV (T:Nat) (.slc 501 0 fs.length 1),Sn .i64 0]) [(501,some ⟨3,(ntV S).map .val,false⟩)] (hO) O O (by exact trivial) O O O O O (by exact (.box O (bW _ _ _ _) .nil)) dP<|kmv O<|kex O O<|kex O O<|aP O dP ?_;refine aM O O O O O O dP ?_;refine kas O<|aB<|aA<|rgN<|kfa O O ?_;refine kl1 O O O<|K.makeSlc (m:=T) (bytes:=1) O O hmk (by kernel_rfl) (by omega) hz0 O dP<|kas O<|aB<|aA<|aA<|rgN<|kmv O<|aK O O O dP ?_;refine bE [(1000001,501),(1000002,502)] (.sv (.one (.slc 502 0 E.length 2))) [(501,some ⟨3,(ntV S).map .val,false⟩),(502,some ⟨146,(elVs E).map .val,Nat.blt 0 E.length⟩)] (hSl) O O (by exact (cO ⟨_,O,(bW _ _ _ _)⟩ trivial)) (by exact (bR bS O)) O O O O (by exact (.box O (bW _ _ _ _) (.box O (bW _ _ _ _) .nil))) dP<|K.lenSlc O bY O dP ?_;refine kmv O<|aB<|aG ?_)
    refine cH (fun m σ=>∃ i:Nat,i≤E.length∧m=E.length-i∧σ=⟨[(1,Lx ad2 ns.length cap2),(9,.sv (.one (.slc 500 0 T 1))),(30,.sv (.one (.slc 502 0 E.length 2))),(31,Ln .i64 (E.length:Nat)),(32,Ln .i64 (i:Nat))],[(502,some ⟨146,(elVs E).map .val,Nat.blt 0 E.length⟩),(500,some ⟨5,(packE (E.take i) (ns.take i) (List.replicate T 0)).map bc,false⟩)],X⟩) E.length
      ⟨_,Le.ofR [(500,27)] (by exact ⟨rfl,rfl,rfl,rfl,rfl,trivial⟩) (by repeat' (first|exact trivial|refine cO ⟨_,rfl,?_⟩ ?_|refine cO ⟨_,rfl⟩ ?_|rfl|exact bV _ _ _ _|exact bW _ _ _ _|exact bX rfl)) (by exact rfl) (by exact rfl) (by repeat' (first|refine bR ?_ ?_|rfl|exact bT|exact bS|exact bU rfl)) (by exact rfl) (by exact rfl),0,by omega,rfl,rfl⟩ ?_
    rintro m σ ⟨i,hi,rfl,rfl⟩
    have hbl:(packE (E.take i) (ns.take i) (List.replicate T 0)).length=T:=packE_len (fun e he=>hW e (List.mem_of_mem_take he)) (by rw [dC])
    by_cases hlt:i<E.length
    · obtain ⟨e,he⟩:∃ e,E[i]? = some e:=⟨_,cW hlt⟩
      obtain ⟨⟨b,N⟩,hv⟩:∃ v,ns[i]? = some v:=⟨_,cW (by omega)⟩
      obtain ⟨hN,blk,off,arr,el,fr,rfl,hX,hsz,hcells⟩:=hns.at hv
      have hio:off+Int.toNat (i:Int)*3=off+i*3:=by simp
      have hie:0+Int.toNat (i:Int)*2=i*2:=by simp
      have hc:=elVs_row he
      have hbf:=elVs_fit he
      obtain ⟨g1,g2,g3⟩:=fitAll_at hfit he hv
      have hP:=Put_q X e.1 (zv b N) g2 g3
      rw [← LI_q hN g1] at hP
      have hnext:packE (E.take (i+1)) (ns.take (i+1)) (List.replicate T 0)=setAt (packE (E.take i) (ns.take i) (List.replicate T 0)) e.2 (numB e.1 (b,N)):=by
        rw [take_snoc he,take_snoc hv,packE_snoc]
        rw [cY,cY];omega
      have hWe:=(hW e (dB he)).2
      have hw1:1≤kW e.1:=by rcases kW_in g2 with x|x|x|x<;>omega
      have hsl:(leB (kW e.1) (wdK e.1 (zv b N))).length=kW e.1:=leB_length _ _
      have hnb2:numB e.1 (b,N)=leB (kW e.1) (wdK e.1 (zv b N)):=rfl
      rw [hnb2] at hnext
      have hw8:=(kfacts e.1).2.2.2.2
      have hspl:=splice_bc (packE (E.take i) (ns.take i) (List.replicate T 0)) (leB (kW e.1) (wdK e.1 (zv b N))) e.2
      rw [← hnext] at hspl
      generalize leB (kW e.1) (wdK e.1 (zv b N))=s at *
      generalize packE (E.take i) (ns.take i) (List.replicate T 0)=B at *
      (refine aA<|rgN<|klt O O (cN (by omega))<|aB<|aA<|aE O ?_;refine aH ?_;refine aA<|aG<|aA<|rgN<|kmv O<|K.indexSlc O O (by omega) hie dP ?_;refine bJ O O hbf hc dP ?_;refine aP O dP ?_;refine kas O<|aM O O O O O O dP ?_;refine aB<|aA<|rgD mixed<|kfa O O ?_;refine kl1 O O O<|kmv O<|kmv O<|aR O O bY (by omega) hio dP<|aY O hX (by kernel_rfl) hsz hcells dP<|kca O O (hP)<|kmv O<|kex O O<|kex O O<|kas O<|kas O<|aB<|rgA ?_;refine rgN<|kmv O<|kfa O O ?_;refine kl1 O O O<|K.fromSlc (l:=e.2) (kh:=.i64) (off':=e.2) O O bY (by omega) (by omega) O dP ?_;refine kmv O<|K.copyStr (e:=5) O O O (by kernel_rfl) (by kernel_rfl) (by omega) (by rw [cV];omega) O hspl dP ?_;refine aB<|rgN<|kad O O (cF (by omega))<|kmv O<|aB ?_)
      exact ⟨_,_,by omega,Le.of (by exact ⟨O,O,O,O,O,trivial⟩) (by exact ⟨O,O,trivial⟩) (by exact O) (by exact O) (by repeat' (first|refine bR ?_ ?_|rfl|exact bT|exact bS|exact bU O)),i+1,by omega,O,O⟩
    · have e:i=E.length:=by omega
      subst e
      rw [dD,List.take_of_length_le (Nat.le_of_eq hn.symm)] at *
      generalize packE E ns (List.replicate T 0)=B at *
      have hlen:0+T≤(B.map bc).length:=by rw [cV];omega
      have hcut:((B.map bc).drop 0).take T=B.map bc:=by rw [List.drop_zero,List.take_of_length_le (by rw [cV];omega)]
      (refine aA<|rgN<|klt O O (cL (by omega))<|aB<|aA<|aF O ?_;refine aJ<|aA<|rgN<|kmv O<|bQ O O (by kernel_rfl) StrT.u hlen hcut dP<|kas O<|kas O<|aB<|aI ?_)
      exact ⟨[_,_],⟨O,O,trivial⟩,O⟩
  · rw [if_neg h]
    generalize fitErr fs ns=e at *
    (refine aA<|rgN<|kas O<|kas O<|aB<|aA<|aA<|rgN<|kmv O<|kmv O<|kca O O (hFit)<|kas O<|aB<|aA ?_;refine rgN<|kmv O<|kne O O (cR (by omega))<|aB<|aE O ?_;refine aA<|rgN<|kmv O<|kas O<|kas O<|aB<|aI ?_)
    exact ⟨[_,_],⟨O,O,trivial⟩,O⟩
end Go.Proofs.YtjifibloagkeeaaGreat
end
