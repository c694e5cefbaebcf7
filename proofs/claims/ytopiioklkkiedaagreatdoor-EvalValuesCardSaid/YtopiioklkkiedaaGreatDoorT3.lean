/- A piece of a proof over this program: contracts of its functions, and a logic to prove them by. -/
import Derived.Test.YtopiioklkkiedaaGreatDoorT1
import Derived.Test.YtopiioklkkiedaaGreatDoorT2
import Derived.StringKeys
import Derived.WideMake
import Derived.ProofKit
import Derived.OpenShut
import Derived.Stop.Joined
import Derived.Lib.SmallJoins
import Derived.Deep.Slices
import Derived.Carry
import Derived.ChangeMaps5
import Derived.JoinedOf
import Derived.Deep.Strs
import Derived.SizedLaws
import Derived.Test.YtopiioklkkiedaaGreatDoorRows
import Derived.Lib.Strings
section
namespace Go.Lg
open Go Go.RowKit
section
variable {P:Program} {n:Nat} {ops os:List Oper} {acc:List Eff} {K:List Eff→St→Prop} {s:List (Nat×LV)} {bx:List (Nat×Option Box)} {X:Nat→Option Obj} {σ:St}
theorem LOK.cutLoX {d b off len cap sz l:Nat} {t:TypeId} {x y:Operand} {ty:TypeId} {pos:String} {after_:Array Edge} {g:Option (Nat×Bool)} {kh:IntKind} (hx:σ.ev x=some (.sv (.one (.val (.slice (some ⟨b,off,none⟩) len cap))))) (hy:σ.ev y=some (.sv (.one (.val (.int kh (l:Nat))))))
  (ht:sliceOf P t=some sz) (hl:l≤len):LOK P n ops ⟨some d,.slice t x (some y) none none,ty,pos,after_,g⟩ σ ⟨[(d,.sv (.one (.val (.slice (some ⟨b,if cap=l then off else off+l*sz,none⟩) (len-l) (cap-l)))))],[],[]⟩:=
 LOK.value fun σ' ha C ι a w hr=>by
  have h1:a.eval x=_:=hr.ev ((ha.ev (x:=x) (by simp [Op.operands])).trans hx)
  have h2:a.eval y = .int kh (l:Nat):=hr.ev ((ha.ev (x:=y) (by simp [Op.operands])).trans hy)
  obtain ⟨e,hu,hsz⟩:=sliceOf_spec ht
  have hrun:(Instr.sliceAt t (.slice (some ⟨b,off,none⟩) len cap) (some (.int kh (l:Nat))) none none).run P w = .ok (.slice (some ⟨b,if cap=l then off else off+l*sz,none⟩) (len-l) (cap-l)) w:=by
   have ha0:(⟨b,off,none⟩:Addr).add (l*sz)=⟨b,off+l*sz,none⟩:=addr_add _ _ _
   simp [Instr.sliceAt,Instr.slice,run_underlying hu,Instr.sliceBounds,Instr.sliceBound,asIntOf,hsz,ha0]
   rw [if_pos hl]
   by_cases e:cap=l
   ·simp [e]
   ·simp [e]
  exact ⟨_,by simp only [execOp,h1,h2,Option.map_none,Option.map_some,Sem.run_bind,hrun,Result.andThen_ok,Sem.run_pure],rfl⟩
theorem K.cutLoX {d b off len cap sz l off' len' cap':Nat} {t:TypeId} {x y:Operand} {ty:TypeId} {pos:String} {after_:Array Edge} {g:Option (Nat×Bool)} {kh:IntKind} (hx:(⟨s,bx,X⟩:St).ev x=some (.sv (.one (.val (.slice (some ⟨b,off,none⟩) len cap))))) (hy:(⟨s,bx,X⟩:St).ev y=some (.sv (.one (.val (.int kh (l:Nat))))))
  (ht:sliceOf P t=some sz) (hl:l≤len) (ho:(if cap=l then off else off+l*sz)=off') (hn:len-l=len') (hc:cap-l=cap') (hw:Want ops s g) (kont:RunK P n ops os ⟨(d,.sv (.one (.val (.slice (some ⟨b,off',none⟩) len' cap'))))::s,bx,X⟩ (⟨[(d,.sv (.one (.val (.slice (some ⟨b,off',none⟩) len' cap'))))],[],[]⟩::acc) K):
  RunK P n ops (⟨some d,.slice t x (some y) none none,ty,pos,after_,g⟩::os) ⟨s,bx,X⟩ acc K:=by
 subst ho hn hc
 exact RunK.g1 (LOK.cutLoX hx hy ht hl) hw kont
end
end Go.Lg
end
section
namespace Go.Lg
open Go Go.RowKit
section
variable {P:Program} {n:Nat} {C:Ctx} {c:Code} {Q:Exit→St→Prop} {X H:Nat→Option Obj} {s:List (Nat×LV)} {bx:List (Nat×Option Box)}
theorem Rel.rebox2 {ι:Nat→Nat×Nat} {a:Act} {w:World} {j:Nat} {e:TypeId} {cs cs':List CV} {r r':Bool}
  (himp:∀ vs,(∃ (arr:Array Value) (fr:Nat×Nat),w.heap[(ι j).1]? = some (.cells arr e fr)∧arr.toList=vs)→Box.rel (⟨s,(j,some ⟨e,cs',r'⟩)::bx,X⟩:St).stat ι ⟨e,cs,r⟩ vs→Box.rel (⟨s,(j,some ⟨e,cs',r'⟩)::bx,X⟩:St).stat ι ⟨e,cs',r'⟩ vs)
  (hr:Rel n C ι ⟨s,(j,some ⟨e,cs,r⟩)::bx,X⟩ a w):Rel n C ι ⟨s,(j,some ⟨e,cs',r'⟩)::bx,X⟩ a w:=by
 have hlater:=later_hd (s:=s) (bx:=bx) (k:=j) ι ⟨e,cs,r⟩ ⟨e,cs',r'⟩ X X
 have live:∀ i b,(⟨s,(j,some ⟨e,cs',r'⟩)::bx,X⟩:St).stat i=some (some b)→∃ b0,(⟨s,(j,some ⟨e,cs,r⟩)::bx,X⟩:St).stat i=some (some b0)∧(i≠j→b=b0):=fun i b hi=>by
  rw [stat_hd] at hi ⊢
  by_cases e:i=j
  ·rw [if_pos e];exact ⟨_,rfl,fun h=>absurd e h⟩
  ·rw [if_neg e] at hi ⊢;exact ⟨b,hi,fun _=>rfl⟩
 exact {
  defers:=hr.defers,size:=hr.size
  slots:=fun d lv hd=>by
   obtain ⟨v,hv,hvr⟩:=hr.slots d lv hd
   exact ⟨v,hv,LV.rel_later hlater hvr⟩
  boxes:=fun i b hi hbk=>by
   by_cases ei:i=j
   ·subst ei
    rw [stat_hd,if_pos rfl] at hi
    simp only [Option.some.injEq] at hi
    subst hi
    obtain ⟨arr,fr,g1,g2,g3,g4⟩:=hr.boxes i ⟨e,cs,r⟩ (by rw [stat_hd,if_pos rfl]) rfl
    exact ⟨arr,fr,g1,g2,g3,himp _ ⟨arr,fr,g1,rfl⟩ (Box.rel_later hlater g4)⟩
   ·obtain ⟨b0,h0,h1⟩:=live i b hi
    have:=h1 ei
    subst this
    obtain ⟨arr,fr,g1,g2,g3,g4⟩:=hr.boxes i b h0 hbk
    exact ⟨arr,fr,g1,g2,g3,Box.rel_later hlater g4⟩
  own:=fun i b hi=>by obtain ⟨b0,h0,_⟩:=live i b hi;exact hr.own i b0 h0
  inj:=fun i i' bi bj hi hj he=>by
   obtain ⟨b1,h1,_⟩:=live i bi hi
   obtain ⟨b2,h2,_⟩:=live i' bj hj
   exact hr.inj i i' b1 b2 h1 h2 he
  keep:=fun i b hi hge=>by obtain ⟨b0,h0,_⟩:=live i b hi;exact hr.keep i b0 h0 hge
  ext:=hr.ext
  res:=by
   obtain ⟨F,hG⟩:=hr.res
   refine hG.keep (fun i e cs R hi => ?_) (fun _ _ _ _ _ hi=>hi) (fun _ _ ho=>ho) (fun b _ hx _ _=>hx) (fun i bi hi => ?_)
   ·rw [stat_hd] at hi ⊢
    by_cases e:i=j
    ·rw [if_pos e] at hi;cases hi
    ·rw [if_neg e] at hi ⊢;exact ⟨hi,rfl⟩
   ·obtain ⟨b0,h0,_⟩:=live i bi hi
    exact .inl ⟨b0,h0,rfl⟩
  frame:=hr.frame,big:=hr.big,os:=hr.os,tape:=hr.tape,output:=hr.output }
theorem Rel.spare {ι:Nat→Nat×Nat} {a:Act} {w:World} {j:Nat} {e:TypeId} {vals:List Value} (hr:Rel n C ι ⟨s,(j,some ⟨e,vals.map .val,true⟩)::bx,X⟩ a w):∃ sp:List Value,Rel n C ι ⟨s,(j,some ⟨e,(vals++sp).map .val,false⟩)::bx,X⟩ a w:=by
 obtain ⟨arr,fr,g1,_,_,g4⟩:=hr.boxes j ⟨e,vals.map .val,true⟩ (by rw [stat_hd,if_pos rfl]) rfl
 obtain ⟨us,sp,e1,hl⟩:=g4
 have hu:=rel_vals hl
 subst hu
 refine ⟨sp,hr.rebox2 fun vs hv _ => ?_⟩
 obtain ⟨arr',fr',h1,h2⟩:=hv
 rw [g1] at h1
 simp only [Option.some.injEq,Obj.cells.injEq] at h1
 obtain ⟨rfl,_⟩:=h1
 rw [← h2,e1]
 exact CVs.rel_map_val (us++sp)
theorem Leads.spare {Mid:St→Prop} {j:Nat} {e:TypeId} {vals:List Value} (h:∀ sp:List Value,Leads n C Mid ⟨s,(j,some ⟨e,(vals++sp).map .val,false⟩)::bx,X⟩):Leads n C Mid ⟨s,(j,some ⟨e,vals.map .val,true⟩)::bx,X⟩:=⟨fun ι a w hr=>by
 obtain ⟨sp,hr'⟩:=hr.spare
 exact (h sp).out ι a w hr'⟩
end
section
variable {H:Nat→Option Obj} {el:TypeId} {sz:Nat} {cells:List Value} {chs:List (List Value)}
end
end Go.Lg
end
section
namespace Go.Lg
open Go Go.RowKit
section
variable {n:Nat} {C:Ctx} {σ:St} {ι:Nat→Nat×Nat} {a:Act} {w:World}
end
structure KL (P:Program) (k:TypeId):Prop where
 check:∀ (w:World) (em:Bool) {v:Value} {l:Lit},Go.keyOf P k v=some l→(Instr.checkKey em 10000 k v).run P w = .ok () w
 find:∀ (w:World) {x:Value} {lx:Lit},Go.keyOf P k x=some lx→∀ es:List MapEntry,(∀ e∈es,∃ l,Go.keyOf P k e.key=some l) →
  ((Instr.findKey k x es).run P w = .ok none w∧∀ e∈es,e.key≠x)∨∃ j e,(Instr.findKey k x es).run P w = .ok (some (j,e.val)) w∧es[j]? = some e∧e.key=x
 stays:∀ (w:World) {v:Value} {l:Lit},Go.keyOf P k v=some l→(Instr.keyThatStays v v).run P w = .ok v w
theorem int_of_keyOf {P:Program} {k:TypeId} {q:IntKind} (hk:P.underlying k=some (.int q)) {v:Value} {l:Lit} (h:Go.keyOf P k v=some l):∃ n,v = .int q n:=by
 rw [keyOf_int hk] at h
 unfold mapKey at h
 cases v<;>simp [hk] at h
 rename_i q' n
 exact ⟨n,by rw [h.1.1]⟩
open Go.MapKept Go.WideShapes Go.WideMaps in
theorem KL.int {P:Program} {k:TypeId} {q:IntKind} (hk:P.underlying k=some (.int q)):KL P k where
 check w em _ _ h:=by
  obtain ⟨n,rfl⟩:=int_of_keyOf hk h
  exact run_checkKey hk (d:=.int q) (k:=.int q n) rfl em 9999
 find w _ _ hx es hes:=by
  obtain ⟨n,rfl⟩:=int_of_keyOf hk hx
  have hks:∀ x∈es,IsKey (.int q) x.key:=fun x hxm=>by
   obtain ⟨l,hl⟩:=hes x hxm
   obtain ⟨n',e⟩:=int_of_keyOf hk hl
   rw [e]
   exact rfl
  rcases findNow_spec (d:=.int q) (k:=.int q n) rfl es 0 hks with ⟨h1,h2⟩|⟨j,e0,h1,h2,h3⟩
  ·exact Or.inl ⟨run_findKey hk h1,h2⟩
  ·exact Or.inr ⟨j,e0,by simpa using run_findKey hk h1,h2,h3⟩
 stays w _ _ h:=by
  obtain ⟨n,rfl⟩:=int_of_keyOf hk h
  exact run_keyThatStays (d:=.int q) (k:=.int q n) rfl
def mapR (P:Program) (kt:TypeId) (m:List (Value×Value)):Rsc:=⟨fun ρ H=>∃ es clock,H=withBlock (fun _=>none) ρ.1 (.map es clock)∧es.toList.map (fun x:MapEntry=>(x.key,x.val))=m∧(m.map (·.1)).Nodup∧∀ p∈m,∃ l,Go.keyOf P kt p.1=some l⟩
def At (m:List (Value×Value)) (key v z:Value):Prop:=(key,v)∈m∨((∀ p∈m,p.1≠key)∧v=z)
def Put (m:List (Value×Value)) (key v:Value) (m':List (Value×Value)):Prop:=(∃ i old,m[i]? = some (key,old)∧m'=m.set i (key,v))∨((∀ p∈m,p.1≠key)∧m'=m++[(key,v)])
def mapOf (P:Program) (t:TypeId):Option (TypeId×TypeId):=match P.underlying t with|some (.map k e)=>some (k,e)|_=>none
section
variable {P:Program} {n:Nat} {ops os:List Oper} {acc:List Eff} {K:List Eff→St→Prop} {s:List (Nat×LV)} {bx:List (Nat×Option Box)} {X:Nat→Option Obj} {σ:St}
end
end Go.Lg
end
section
namespace Go.Lg
open Go Go.RowKit
variable {ty:TypeId} {pos:String} {after:Array Edge} {after_:Array Edge} {g:Option (Nat×Bool)}
section
variable {P:Program} {n:Nat} {C:Ctx} {c:Code} {Q:Exit→St→Prop} {X:Nat→Option Obj}
theorem Rel.freezePtr {ι:Nat→Nat×Nat} {a:Act} {w:World} {s:List (Nat×LV)} {bx:List (Nat×Option Box)} {d k off:Nat} {el:TypeId} {vals:List Value} {row:Bool}
  (hs:s.all (fun p=>p.2.inUse bx)=true) (hb:bx.all (fun p=>match p.2 with|some b=>b.cells.all (CV.inUse bx)|none=>true)=true) (hk:look k bx=none)
  (hr:Rel n C ι ⟨(d,.sv (.one (.ptr k off)))::s,(k,some ⟨el,vals.map .val,row⟩)::bx,X⟩ a w):
  ∃ (blk:Nat) (arr:Array Value) (fr:Nat×Nat),X blk=none∧Frozen C blk arr fr∧(∃ sp,arr.toList=vals++sp) ∧
   Rel n C ι ⟨(d,.sv (.one (.val (.pointer (some ⟨blk,off,none⟩)))))::s,bx,withBlock X blk (.cells arr el fr)⟩ a w:=by
 have hst:(⟨(d,.sv (.one (.ptr k off)))::s,(k,some ⟨el,vals.map .val,row⟩)::bx,X⟩:St).stat k=some (some ⟨el,vals.map .val,row⟩):=by
  simp [St.stat,look]
 have hlk:∀ k' x,look k' bx=some x→k'≠k:=fun k' x h' e=>by rw [e,hk] at h';cases h'
 have hstb:∀ k' x,look k' bx=some x→(⟨(d,.sv (.one (.ptr k off)))::s,(k,some ⟨el,vals.map .val,row⟩)::bx,X⟩:St).stat k'=some x:=fun k' x h'=>by
  simp only [St.stat,look]
  cases e:Nat.beq k k' with
  | true=>exact absurd (Nat.eq_of_beq_eq_true e).symm (hlk k' x h')
  | false=>exact h'
 obtain ⟨arr,fr,harr,hth,hsz,hbr⟩:=hr.boxes k _ hst rfl
 obtain ⟨v,hv,hvr⟩:=hr.slots d (.sv (.one (.ptr k off))) (by simp [St.slot,look])
 simp only [LV.rel,SV.rel,CV.rel] at hvr
 rw [hst] at hvr
 subst hvr
 have hXn:X (ι k).1=none:=(hr.own k _ hst).2
 have hsp:∃ sp,arr.toList=vals++sp:=by
  unfold Box.rel at hbr
  cases hrow:row with
  | false =>
   rw [hrow] at hbr
   exact ⟨[],by rw [List.append_nil];exact rel_vals hbr⟩
  | true =>
   rw [hrow] at hbr
   obtain ⟨us,sp,e,hl⟩:=hbr
   exact ⟨sp,by rw [e,rel_vals hl]⟩
 refine ⟨(ι k).1,arr,fr,hXn,⟨(hr.own k _ hst).1,hth⟩,hsp,?_⟩
 have hon:SameOn bx (⟨(d,.sv (.one (.ptr k off)))::s,(k,some ⟨el,vals.map .val,row⟩)::bx,X⟩:St).stat (fun k=>look k bx):=fun k' x h'=>(hstb k' x h').trans h'.symm
 exact {
  defers:=hr.defers,size:=hr.size
  slots:=fun d' lv hd=>by
   simp only [St.slot,look] at hd
   cases e:Nat.beq d d' with
   | true =>
    rw [e] at hd
    simp at hd
    subst hd
    have:=Nat.eq_of_beq_eq_true e
    subst this
    exact ⟨_,hv,rfl⟩
   | false =>
    rw [e] at hd
    have hd:look d' s=some lv:=by simpa using hd
    obtain ⟨v',hv',hr'⟩:=hr.slots d' lv (by simp only [St.slot,look,e];exact hd)
    exact ⟨v',hv',LV.rel_on hon (List.all_eq_true.1 hs _ (look_mem hd)) hr'⟩
  res:=by
   obtain ⟨F,hF⟩:=hr.res
   refine hF.keep (fun j e cs R hj=>⟨hstb j _ hj,rfl⟩) (fun _ _ _ _ _ hj=>hj) (fun _ _ ho=>ho) (fun b _ hx hne _ => ?_) (fun j bj hj=>.inl ⟨bj,hstb j _ hj,rfl⟩)
   show withBlock X (ι k).1 _ b=none
   unfold withBlock
   rw [if_neg (fun e=>hne k _ hst rfl e.symm)]
   exact hx
  boxes:=fun k' b hb' hbk=>by
   have hb':look k' bx=some (some b):=hb'
   obtain ⟨arr',fr',h1,h2,h3,h4⟩:=hr.boxes k' b (hstb k' _ hb') hbk
   exact ⟨arr',fr',h1,h2,h3,Box.rel_on hon (by simpa using List.all_eq_true.1 hb _ (look_mem hb')) h4⟩
  own:=fun k' b hb'=>by
   have hb':look k' bx=some (some b):=hb'
   obtain ⟨h1,h2⟩:=hr.own k' b (hstb k' _ hb')
   refine ⟨h1,?_⟩
   show withBlock X (ι k).1 _ (ι k').1=none
   unfold withBlock
   rw [if_neg (fun e=>hlk k' _ hb' (hr.inj k' k b _ (hstb k' _ hb') hst e))]
   exact h2
  inj:=fun k1 k2 b1 b2 h1 h2 he=>hr.inj k1 k2 b1 b2 (hstb k1 _ h1) (hstb k2 _ h2) he
  keep:=fun k' b hb' hge=>hr.keep k' b (hstb k' _ hb') hge
  ext:=fun b o hbo=>by
   have hbo:withBlock X (ι k).1 (.cells arr el fr) b=some o:=hbo
   unfold withBlock at hbo
   by_cases e:b=(ι k).1
   ·rw [if_pos e] at hbo
    rw [e,harr];exact hbo
   ·rw [if_neg e] at hbo
    exact hr.ext b o hbo
  frame:=hr.frame,big:=hr.big,os:=hr.os,tape:=hr.tape,output:=hr.output }
theorem LWP.freezePtr {s:List (Nat×LV)} {bx:List (Nat×Option Box)} {d k off:Nat} {el:TypeId} {vals:List Value} {row:Bool}
  (hs:s.all (fun p=>p.2.inUse bx)=true) (hb:bx.all (fun p=>match p.2 with|some b=>b.cells.all (CV.inUse bx)|none=>true)=true) (hk:look k bx=none)
  (h:∀ (blk:Nat) (arr:Array Value) (fr:Nat×Nat),X blk=none→Frozen C blk arr fr→(∃ sp,arr.toList=vals++sp) →
   LWP P n C c Q ⟨(d,.sv (.one (.val (.pointer (some ⟨blk,off,none⟩)))))::s,bx,withBlock X blk (.cells arr el fr)⟩):
  LWP P n C c Q ⟨(d,.sv (.one (.ptr k off)))::s,(k,some ⟨el,vals.map .val,row⟩)::bx,X⟩:=by
 refine ⟨fun ι a w hr => ?_⟩
 obtain ⟨blk,arr,fr,h1,h2,h5,h6⟩:=hr.freezePtr hs hb hk
 exact (h blk arr fr h1 h2 h5).out ι a w h6
end
section
variable {P:Program} {n:Nat} {ops os:List Oper} {acc:List Eff} {K:List Eff→St→Prop} {s:List (Nat×LV)} {bx:List (Nat×Option Box)} {X:Nat→Option Obj} {σ:St}
theorem LOK.makeFunc {d:Nat} {fn:Fn} {caps:List Operand} {us:List Value} {lvs:List LV} (hc:evs σ caps=some lvs) (hu:plainLVs lvs=some us):
  LOK P n ops ⟨some d,.makeFunc fn #[] caps.toArray,ty,pos,after_,g⟩ σ ⟨[(d,.sv (.one (.val (.func fn #[] us.toArray))))],[],[]⟩:=
 LOK.value fun σ' ha C ι a w hr=>by
  have hc':evs σ' caps=some lvs:=by
   rw [evs_agree fun x hx=>ha.ev (by simp [Op.operands,hx])]
   exact hc
  have e:caps.map a.eval=us:=plainLVs_rel hu (evs_rel hr hc')
  exact ⟨.func fn #[] us.toArray,by rw [← e];simp [execOp,Instr.makeFunc],rfl⟩
theorem K.makeFunc {d:Nat} {fn:Fn} {caps:List Operand} {us:List Value} {lvs:List LV} (hc:evs ⟨s,bx,X⟩ caps=some lvs) (hu:plainLVs lvs=some us) (hw:Want ops s g)
  (kont:RunK P n ops os ⟨(d,.sv (.one (.val (.func fn #[] us.toArray))))::s,bx,X⟩ (⟨[(d,.sv (.one (.val (.func fn #[] us.toArray))))],[],[]⟩::acc) K):
  RunK P n ops (⟨some d,.makeFunc fn #[] caps.toArray,ty,pos,after_,g⟩::os) ⟨s,bx,X⟩ acc K:=RunK.g1 (LOK.makeFunc hc hu) hw kont
theorem LOK.callF {d:Nat} {x:Operand} {f:FuncId} {caps:List Value} {args:List Operand} {tys:Array TypeId} {lvs:List LV} {r:LV} (hx:σ.ev x=some (.sv (.one (.val (.func (.func f) #[] caps.toArray))))) (hargs:evs σ args=some lvs) (hcl:lvs.all LV.closed=true) (hs:PSpec P σ.X f (lvs++caps.map fun v=>.sv (.one (.val v))) r):
  LOK P n ops ⟨some d,.call ⟨.value x,args.toArray,tys⟩,ty,pos,after_,g⟩ σ ⟨[(d,r)],[],[]⟩:=by
 refine ⟨fun σ' ha C ι a w hr hd next Q hn => ?_⟩
 have hargs':evs σ' args=some lvs:=by
  rw [evs_agree fun y hy=>ha.ev (by simp [Op.operands,Call.operands,hy])]
  exact hargs
 have hv:a.eval x = .func (.func f) #[] caps.toArray:=hr.ev ((ha.ev (x:=x) (by simp [Op.operands,Call.operands])).trans hx)
 have hrel:=LVs.rel_closed (S':=noS) (ι':=fun _=>(0,0)) hcl (evs_rel hr hargs')
 have happ:∀ {l:List LV} {us:List Value},LVs.rel noS (fun _=>(0,0)) l us→LVs.rel noS (fun _=>(0,0)) (l++caps.map fun v=>.sv (.one (.val v))) (us++caps):=fun {l}=>by
  induction l with
  | nil =>
   intro us h
   cases us with
   | cons=>exact h.elim
   | nil =>
    simp only [List.nil_append]
    have key:∀ cs:List Value,LVs.rel noS (fun _=>(0,0)) (cs.map fun v=>LV.sv (.one (.val v))) cs:=fun cs=>by
     induction cs with
     | nil=>trivial
     | cons c cs ih=>exact ⟨rfl,ih⟩
    exact key caps
  | cons a l ih =>
   intro us h
   cases us with
   | nil=>exact h.elim
   | cons u us=>exact ⟨h.1,ih h.2⟩
 have hc:=hs.out w (args.toArray.map a.eval++caps.toArray) (fun b o hb=>hr.ext b o (by rw [ha.X];exact hb)) (by simpa using happ hrel)
 unfold Oper.wp
 have hrun:(execOp a.eval ⟨some d,.call ⟨.value x,args.toArray,tys⟩,ty,pos,after_,g⟩).run P w = .ok (.enter f (args.toArray.map a.eval++caps.toArray)) w:=by
  simp only [execOp,resolve,hv,Deferred.ofValue,invoke,Sem.run_bind,Sem.run_pure,Result.andThen_ok]
  simp [run_enter hs.enters]
 rw [hrun]
 refine hc.mono ?_
 rintro e w' ⟨v,rfl,hv,hb⟩
 exact hn ι _ w' ((hr.below hb).put (hd d rfl) (LV.rel_later (later_noS _ _ _) hv))
theorem K.callF {d:Nat} {x:Operand} {f:FuncId} {caps:List Value} {args:List Operand} {tys:Array TypeId} {lvs:List LV} {r:LV} (hx:(⟨s,bx,X⟩:St).ev x=some (.sv (.one (.val (.func (.func f) #[] caps.toArray))))) (hargs:evs ⟨s,bx,X⟩ args=some lvs) (hcl:lvs.all LV.closed=true) (hs:PSpec P X f (lvs++caps.map fun v=>.sv (.one (.val v))) r) (hw:Want ops s g)
  (kont:RunK P n ops os ⟨(d,r)::s,bx,X⟩ (⟨[(d,r)],[],[]⟩::acc) K):
  RunK P n ops (⟨some d,.call ⟨.value x,args.toArray,tys⟩,ty,pos,after_,g⟩::os) ⟨s,bx,X⟩ acc K:=RunK.g1 (LOK.callF hx hargs hcl hs) hw kont
end
end Go.Lg
end
section
namespace Go.Lg
open Go Go.RowKit
section
variable {P:Program} {n:Nat} {ops os:List Oper} {acc:List Eff} {K:List Eff→St→Prop} {s:List (Nat×LV)} {bx:List (Nat×Option Box)} {X:Nat→Option Obj} {σ:St}
end
section
variable {P:Program} {n:Nat} {C:Ctx} {c:Code} {Q:Exit→St→Prop} {X:Nat→Option Obj}
theorem Rel.fixRes {ι:Nat→Nat×Nat} {a:Act} {w:World} {s:List (Nat×LV)} {bx:List (Nat×Option Box)} {d k off len sz:Nat} {e:TypeId} {cs:List CV} {R:Rsc}
  (hs:s.all (fun p=>p.2.inUse bx)=true) (hb:bx.all (fun p=>match p.2 with|some b=>b.cells.all (CV.inUse bx)|none=>true)=true) (hk:look k bx=none)
  (hr:Rel n C ι ⟨(d,.sv (.one (.slc k off len sz)))::s,(k,some ⟨e,cs,.res R⟩)::bx,X⟩ a w):
  ∃ (ρ:Nat×Nat) (H:Nat→Option Obj) (cap:Nat),R.holds ρ H∧OwnedM C X H∧len≤cap∧off+cap*sz≤ρ.2 ∧
   Rel n C ι ⟨(d,.sv (.one (.val (.slice (some ⟨ρ.1,off,none⟩) len cap))))::s,bx,joinM X H⟩ a w:=by
 have hst:(⟨(d,.sv (.one (.slc k off len sz)))::s,(k,some ⟨e,cs,.res R⟩)::bx,X⟩:St).stat k=some (some ⟨e,cs,.res R⟩):=by simp [St.stat,look]
 have hlk:∀ k' x,look k' bx=some x→k'≠k:=fun k' x h' e=>by rw [e,hk] at h';cases h'
 have hstb:∀ k' x,look k' bx=some x→(⟨(d,.sv (.one (.slc k off len sz)))::s,(k,some ⟨e,cs,.res R⟩)::bx,X⟩:St).stat k'=some x:=fun k' x h'=>by
  simp only [St.stat,look]
  cases e:Nat.beq k k' with
  | true=>exact absurd (Nat.eq_of_beq_eq_true e).symm (hlk k' x h')
  | false=>exact h'
 have hback:∀ j x,j≠k→(⟨(d,.sv (.one (.slc k off len sz)))::s,(k,some ⟨e,cs,.res R⟩)::bx,X⟩:St).stat j=some x→look j bx=some x:=fun j x hj h'=>by
  simp only [St.stat,look] at h'
  cases e:Nat.beq k j with
  | true=>exact absurd (Nat.eq_of_beq_eq_true e).symm hj
  | false=>rw [e] at h';exact h'
 obtain ⟨F,hF⟩:=hr.res
 obtain ⟨hR,_⟩:=hF.holds k _ _ _ hst
 obtain ⟨v,hv,hvr⟩:=hr.slots d (.sv (.one (.slc k off len sz))) (by simp [St.slot,look])
 simp only [LV.rel,SV.rel,CV.rel] at hvr
 rw [hst] at hvr
 obtain ⟨cap,rfl,hcap,hfit⟩:=hvr
 refine ⟨ι k,F k,cap,hR,⟨fun b o hb=>let h:=hF.mem k b o hb;⟨h.2.2.2.1,h.2.2.1,h.2.2.2.2.1⟩⟩,hcap,hfit,?_⟩
 have hon:SameOn bx (⟨(d,.sv (.one (.slc k off len sz)))::s,(k,some ⟨e,cs,.res R⟩)::bx,X⟩:St).stat (fun k=>look k bx):=fun k' x h'=>(hstb k' x h').trans h'.symm
 have hnot:∀ j b,look j bx=some (some b)→F k (ι j).1=none:=fun j b hj=>by
  cases hc:F k (ι j).1 with
  | none=>rfl
  | some o=>exact absurd ((hF.mem k _ o hc).2.2.2.2.2 j b (hstb j _ hj) rfl) (hlk j _ hj)
 exact {
  defers:=hr.defers,size:=hr.size
  slots:=fun d' lv hd=>by
   simp only [St.slot,look] at hd
   cases e:Nat.beq d d' with
   | true =>
    rw [e] at hd
    simp at hd
    subst hd
    have:=Nat.eq_of_beq_eq_true e
    subst this
    exact ⟨_,hv,rfl⟩
   | false =>
    rw [e] at hd
    have hd:look d' s=some lv:=by simpa using hd
    obtain ⟨v',hv',hr'⟩:=hr.slots d' lv (by simp only [St.slot,look,e];exact hd)
    exact ⟨v',hv',LV.rel_on hon (List.all_eq_true.1 hs _ (look_mem hd)) hr'⟩
  boxes:=fun k' b hb' hbk=>by
   have hb':look k' bx=some (some b):=hb'
   obtain ⟨arr',fr',h1,h2,h3,h4⟩:=hr.boxes k' b (hstb k' _ hb') hbk
   exact ⟨arr',fr',h1,h2,h3,Box.rel_on hon (by simpa using List.all_eq_true.1 hb _ (look_mem hb')) h4⟩
  own:=fun k' b hb'=>by
   have hb':look k' bx=some (some b):=hb'
   obtain ⟨h1,h2⟩:=hr.own k' b (hstb k' _ hb')
   exact ⟨h1,(joinM_out (hnot k' b hb')).trans h2⟩
  inj:=fun k1 k2 b1 b2 h1 h2 he=>hr.inj k1 k2 b1 b2 (hstb k1 _ h1) (hstb k2 _ h2) he
  keep:=fun k' b hb' hge=>hr.keep k' b (hstb k' _ hb') hge
  ext:=fun b o hbo=>by
   have hbo:joinM X (F k) b=some o:=hbo
   cases hc:F k b with
   | none=>rw [joinM_out hc] at hbo;exact hr.ext b o hbo
   | some o' =>
    rw [joinM_in hc] at hbo
    cases hbo
    exact (hF.mem k b o hc).2.1
  res:=by
   refine ⟨fun j=>open Classical in if j=k then fun _=>none else F j,fun j e' cs' R' hj => ?_,fun j b o ho => ?_,fun i j b h1 h2 => ?_⟩
   ·have hj:look j bx=some (some ⟨e',cs',.res R'⟩):=hj
    rw [if_neg (hlk j _ hj)]
    exact hF.holds j e' cs' R' (hstb j _ hj)
   ·by_cases ej:j=k
    ·rw [if_pos ej] at ho;cases ho
    ·rw [if_neg ej] at ho
     obtain ⟨⟨e1,cs1,R1,h1⟩,h2,h3,h4,h5,h6⟩:=hF.mem j b o ho
     refine ⟨⟨e1,cs1,R1,hback j _ ej h1⟩,h2,h3,h4,?_,fun i bi hi ei=>h6 i bi (hstb i _ hi) ei⟩
     have hc:F k b=none:=by
      cases hc:F k b with
      | none=>rfl
      | some o'=>exact absurd (hF.apart j k b (by rw [ho];simp) (by rw [hc];simp)) ej
     exact (joinM_out hc).trans h5
   ·by_cases ei:i=k
    ·rw [if_pos ei] at h1;exact absurd rfl h1
    ·by_cases ej:j=k
     ·rw [if_pos ej] at h2;exact absurd rfl h2
     ·rw [if_neg ei] at h1
      rw [if_neg ej] at h2
      exact hF.apart i j b h1 h2
  frame:=hr.frame,big:=hr.big,os:=hr.os,tape:=hr.tape,output:=hr.output }
theorem LWP.fixRes {s:List (Nat×LV)} {bx:List (Nat×Option Box)} {d k off len sz:Nat} {e:TypeId} {cs:List CV} {R:Rsc}
  (hs:s.all (fun p=>p.2.inUse bx)=true) (hb:bx.all (fun p=>match p.2 with|some b=>b.cells.all (CV.inUse bx)|none=>true)=true) (hk:look k bx=none)
  (h:∀ (ρ:Nat×Nat) (H:Nat→Option Obj) (cap:Nat),R.holds ρ H→OwnedM C X H→len≤cap→off+cap*sz≤ρ.2→LWP P n C c Q ⟨(d,.sv (.one (.val (.slice (some ⟨ρ.1,off,none⟩) len cap))))::s,bx,joinM X H⟩):
  LWP P n C c Q ⟨(d,.sv (.one (.slc k off len sz)))::s,(k,some ⟨e,cs,.res R⟩)::bx,X⟩:=by
 refine ⟨fun ι a w hr => ?_⟩
 obtain ⟨ρ,H,cap,h1,h2,h3,h4,h5⟩:=hr.fixRes hs hb hk
 exact (h ρ H cap h1 h2 h3 h4).out ι a w h5
end
theorem Le.loose {n:Nat} {C:Ctx} {s:List (Nat×LV)} {bx:List (Nat×Option Box)} {X:Nat→Option Obj} {j:Nat} {e:TypeId} {A:List CV} {r:Bool}:Le n C ⟨s,(j,some ⟨e,A,r⟩)::bx,X⟩ ⟨s,(j,some ⟨e,A,true⟩)::bx,X⟩:=by
 have h:=Le.trim (n:=n) (C:=C) (s:=s) (bx:=bx) (X:=X) (j:=j) (e:=e) (A:=A) (B:=[]) (r:=r)
 rw [List.append_nil] at h
 exact h
end Go.Lg
end
section
namespace Go.Lg
open Go Go.RowKit
section
variable {P:Program} {n:Nat} {ops os:List Oper} {acc:List Eff} {K:List Eff→St→Prop} {s:List (Nat×LV)} {bx:List (Nat×Option Box)} {X:Nat→Option Obj} {σ:St}
theorem LOK.makeSlc0 {d m:Nat} {t e:TypeId} {x y:Operand} {ty:TypeId} {pos:String} {after_:Array Edge} {g:Option (Nat×Bool)} {kl kc:IntKind} {zs:List Value} {sz:Nat} {bytes:Nat}
  (hx:σ.ev x=some (.sv (.one (.val (.int kl 0))))) (hy:σ.ev y=some (.sv (.one (.val (.int kc (m:Nat)))))) (hst:slcBuild P t m=some (zs,sz,e)) (hby:(P.info? e).map (·.bytes)=some bytes) (hfit:bytes*m≤281474976710656∧m<9223372036854775808)
  (hk:σ.fresh d=true):LOK P n ops ⟨some d,.makeSlice t x y,ty,pos,after_,g⟩ σ ⟨[(d,.sv (.one (.slc d 0 0 sz)))],[],[(d,some ⟨e,[],true⟩)]⟩:=
 LOK.make fun σ' ha C ι a w hr=>by
  have hk':σ'.stat d=none:=(ha.stat d (.inr (by simp))).trans (St.fresh_none hk)
  have hlt:=St.fresh_lt hk
  have h1:a.eval x = .int kl 0:=hr.ev ((ha.ev (x:=x) (by simp [Op.operands])).trans hx)
  have h2:a.eval y = .int kc (m:Nat):=hr.ev ((ha.ev (x:=y) (by simp [Op.operands])).trans hy)
  unfold slcBuild at hst
  cases hu:P.underlying t with
  | none=>simp [hu] at hst
  | some dd =>
   cases dd<;>simp only [hu] at hst<;>try (simp at hst;done)
   rename_i e'
   cases hie:P.info? e' with
   | none=>simp [hie] at hst
   | some ie =>
    cases hz:ie.zero with
    | none=>simp [hie,hz] at hst
    | some z =>
     simp only [hie,hz] at hst
     by_cases hbig:m*ie.size>2^24
     ·rw [if_pos hbig] at hst;cases hst
     ·rw [if_neg hbig] at hst
      simp only [Option.some.injEq,Prod.mk.injEq] at hst
      obtain ⟨e1,e2,e3⟩:=hst
      subst e3
      rw [hie] at hby
      simp only [Option.map_some,Option.some.injEq] at hby
      have hbb:(ie.bytes:Int)*((m:Nat):Int)≤281474976710656:=by
       rw [hby,← Int.natCast_mul]
       have:=hfit.1
       omega
      have hrun:=run_make (P:=P) w t e' ie z hu hie hz kl kc 0 (m:Nat) (Int.le_refl _) (by omega) hbb (by have:=hfit.2;omega)
      simp only [Int.toNat_natCast,Int.toNat_zero] at hrun
      have hmc:madeCells z.cells (m*ie.size)=zs.toArray:=by
       unfold madeCells
       rw [range_map,← e1]
      rw [hmc] at hrun
      refine ⟨.slice (some ⟨w.heap.size,0,none⟩) 0 m,w.alloc (.cells zs.toArray e'),put1 ι d (w.heap.size,zs.toArray.size),?_,?_,?_⟩
      ·simp only [execOp,h1,h2,Sem.run_bind,hrun,Result.andThen_ok,Sem.run_pure]
      ·exact hr.new hlt hk' (b:=⟨e',[],true⟩) ⟨[],zs,by simp,trivial⟩
      ·have hl:zs.length=m*sz:=by rw [← e1,← e2];simp
       simp [LV.rel,SV.rel,CV.rel,stat_cons,put1,hl]
theorem K.makeSlc0 {d m:Nat} {t e:TypeId} {x y:Operand} {ty:TypeId} {pos:String} {after_:Array Edge} {g:Option (Nat×Bool)} {kl kc:IntKind} {zs:List Value} {sz:Nat} {bytes:Nat}
  (hx:(⟨s,bx,X⟩:St).ev x=some (.sv (.one (.val (.int kl 0))))) (hy:(⟨s,bx,X⟩:St).ev y=some (.sv (.one (.val (.int kc (m:Nat)))))) (hst:slcBuild P t m=some (zs,sz,e)) (hby:(P.info? e).map (·.bytes)=some bytes) (hfit:bytes*m≤281474976710656∧m<9223372036854775808)
  (hk:(⟨s,bx,X⟩:St).fresh d=true) (hw:Want ops s g) (kont:RunK P n ops os ⟨(d,.sv (.one (.slc d 0 0 sz)))::s,(d,some ⟨e,[],true⟩)::bx,X⟩ (⟨[(d,.sv (.one (.slc d 0 0 sz)))],[],[(d,some ⟨e,[],true⟩)]⟩::acc) K):
  RunK P n ops (⟨some d,.makeSlice t x y,ty,pos,after_,g⟩::os) ⟨s,bx,X⟩ acc K:=RunK.gen hw (LOK.makeSlc0 hx hy hst hby hfit hk) kont
end
theorem LWP.meetB {P:Program} {n:Nat} {C:Ctx} {c y:Code} {id:Nat} {Q Q2:Exit→St→Prop} {σ:St} (Mid:St→Prop)
  (h:LWP P n C c (blockQ id (thenQ (Leads n C Mid) (fun _ _=>False))) σ) (hm:∀ σ,Mid σ→LWP P n C y Q σ):LWP P n C c (blockQ id (thenQ (LWP P n C y Q) Q2)) σ:=by
 refine h.mono ?_
 intro e σ' hq
 cases e with
 | exit id' =>
  simp only [blockQ] at hq ⊢
  cases hb:Nat.beq id' id with
  | true =>
   rw [hb] at hq
   exact LWP.ofLeads hq hm
  | false=>rw [hb] at hq;exact hq.elim
 | normal=>exact LWP.ofLeads hq hm
 | goto l=>exact hq.elim
 | ret=>exact hq.elim
 | panic c=>exact hq.elim
 | outgrown=>exact hq.elim
end Go.Lg
end
section
namespace Go.Lg
open Go Go.RowKit
variable {ty:TypeId} {pos:String} {after:Array Edge} {after_:Array Edge} {g:Option (Nat×Bool)}
def CV.fix (k b:Nat):CV→CV
 | .ptr k' off=>cond (Nat.beq k' k) (.val (.pointer (some ⟨b,off,none⟩))) (.ptr k' off)
 | .fn fi gi k'=>cond (Nat.beq k' k) (.val (.func fi #[] (gi b).toArray)) (.fn fi gi k')
 | .hang g h k'=>cond (Nat.beq k' k) (.val (g b)) (.hang g h k')
 | c=>c
def SV.fix (k b:Nat):SV→SV
 | .one c=>.one (c.fix k b)
 | .agg l=>.agg (l.map (CV.fix k b))
def LV.fix (k b:Nat):LV→LV
 | .sv s=>.sv (s.fix k b)
 | .tup l=>.tup (l.map (SV.fix k b))
def Box.fix (k b:Nat) (x:Box):Box:=⟨x.elem,x.cells.map (CV.fix k b),x.row⟩
def CV.fixIn (k:Nat) (B:List (Nat×Option Box)):CV→Bool
 | .ptr k' _=>Nat.beq k' k||(look k' B).isSome
 | .fn _ _ k'=>Nat.beq k' k||(look k' B).isSome
 | .hang _ _ k'=>Nat.beq k' k||(look k' B).isSome
 | c=>c.inUse B
def SV.fixIn (k:Nat) (B:List (Nat×Option Box)):SV→Bool
 | .one c=>c.fixIn k B
 | .agg l=>l.all (CV.fixIn k B)
def LV.fixIn (k:Nat) (B:List (Nat×Option Box)):LV→Bool
 | .sv s=>s.fixIn k B
 | .tup l=>l.all (SV.fixIn k B)
def fixS (k b:Nat) (s:List (Nat×LV)):List (Nat×LV):=s.map fun p=>(p.1,p.2.fix k b)
def fixB (k b:Nat) (s:List (Nat×Option Box)):List (Nat×Option Box):=s.map fun p=>(p.1,p.2.map (Box.fix k b))
section
variable {S T:Nat→Option (Option Box)} {ι:Nat→Nat×Nat} {B:List (Nat×Option Box)} {k:Nat}
def Stay (B:List (Nat×Option Box)) (S T:Nat→Option (Option Box)):Prop := ∀ k',(look k' B).isSome=true→∃ x y,T k'=some x∧S k'=some y∧x.isSome=y.isSome
theorem CV.rel_stay (hT:Stay B S T) {c:CV} (hu:c.inUse B=true) {v:Value} (hr:c.rel S ι v):c.rel T ι v:=by
 cases c with
 | val u=>exact hr
 | junk=>trivial
 | ptr k' off =>
  obtain ⟨x,y,h1,h2,h3⟩:=hT k' hu
  simp only [CV.rel,h1,h2] at hr ⊢
  cases x<;>cases y<;>first|exact hr|cases h3
 | slc k' off n sz =>
  obtain ⟨x,y,h1,h2,h3⟩:=hT k' hu
  simp only [CV.rel,h1,h2] at hr ⊢
  cases x<;>cases y<;>first|exact hr|cases h3
 | mp k' =>
  obtain ⟨x,y,h1,h2,h3⟩:=hT k' hu
  simp only [CV.rel,h1,h2] at hr ⊢
  cases x<;>cases y<;>first|exact hr|cases h3
 | fn fi gi k' =>
  obtain ⟨x,y,h1,h2,h3⟩:=hT k' hu
  simp only [CV.rel,h1,h2] at hr ⊢
  cases x<;>cases y<;>first|exact hr|cases h3
 | hang g hg k' =>
  obtain ⟨x,y,h1,h2,h3⟩:=hT k' hu
  simp only [CV.rel,h1,h2] at hr ⊢
  cases x<;>cases y<;>first|exact hr|cases h3
theorem CV.rel_fix (hT:Stay B S T) (hk:∃ b,S k=some (some b)) {c:CV} (hu:c.fixIn k B=true) {v:Value} (hr:c.rel S ι v):(c.fix k (ι k).1).rel T ι v:=by
 obtain ⟨b,hb⟩:=hk
 cases c with
 | val u=>exact hr
 | junk=>trivial
 | ptr k' off =>
  simp only [CV.fixIn,Bool.or_eq_true] at hu
  cases e:Nat.beq k' k with
  | true =>
   have e':=Nat.eq_of_beq_eq_true e
   subst e'
   simp only [CV.fix,e,cond_true]
   simp only [CV.rel,hb] at hr
   exact hr
  | false =>
   simp only [CV.fix,e,cond_false]
   rw [e] at hu
   exact CV.rel_stay (c:=.ptr k' off) hT (hu.resolve_left (by decide)) hr
 | slc k' off n sz=>exact CV.rel_stay (c:=.slc k' off n sz) hT hu hr
 | mp k'=>exact CV.rel_stay (c:=.mp k') hT hu hr
 | fn fi gi k' =>
  simp only [CV.fixIn,Bool.or_eq_true] at hu
  cases e:Nat.beq k' k with
  | true =>
   have e':=Nat.eq_of_beq_eq_true e
   subst e'
   simp only [CV.fix,e,cond_true]
   simp only [CV.rel,hb] at hr
   exact hr
  | false =>
   simp only [CV.fix,e,cond_false]
   rw [e] at hu
   exact CV.rel_stay (c:=.fn fi gi k') hT (hu.resolve_left (by decide)) hr
 | hang g hg k' =>
  simp only [CV.fixIn,Bool.or_eq_true] at hu
  cases e:Nat.beq k' k with
  | true =>
   have e':=Nat.eq_of_beq_eq_true e
   subst e'
   simp only [CV.fix,e,cond_true]
   simp only [CV.rel,hb] at hr
   exact hr
  | false =>
   simp only [CV.fix,e,cond_false]
   rw [e] at hu
   exact CV.rel_stay (c:=.hang g hg k') hT (hu.resolve_left (by decide)) hr
theorem CVs.rel_stay (hT:Stay B S T):∀ {l:List CV} {vs:List Value},l.all (CV.inUse B)=true→CVs.rel S ι l vs→CVs.rel T ι l vs
 | [],[],_,_=>trivial
 | _::_,_::_,hu,hr=>by
  simp only [List.all_cons,Bool.and_eq_true] at hu
  exact ⟨CV.rel_stay hT hu.1 hr.1,CVs.rel_stay hT hu.2 hr.2⟩
 | [],_::_,_,hr=>hr.elim
 | _::_,[],_,hr=>hr.elim
theorem CVs.rel_fix (hT:Stay B S T) (hk:∃ b,S k=some (some b)):∀ {l:List CV} {vs:List Value},l.all (CV.fixIn k B)=true→CVs.rel S ι l vs→CVs.rel T ι (l.map (CV.fix k (ι k).1)) vs
 | [],[],_,_=>trivial
 | _::_,_::_,hu,hr=>by
  simp only [List.all_cons,Bool.and_eq_true] at hu
  exact ⟨CV.rel_fix hT hk hu.1 hr.1,CVs.rel_fix hT hk hu.2 hr.2⟩
 | [],_::_,_,hr=>hr.elim
 | _::_,[],_,hr=>hr.elim
theorem SV.rel_stay (hT:Stay B S T) {s:SV} (hu:s.inUse B=true) {v:Value} (hr:s.rel S ι v):s.rel T ι v:=by
 cases s with
 | one c=>exact CV.rel_stay hT hu hr
 | agg l=>obtain ⟨arr,e,hl⟩:=hr;exact ⟨arr,e,CVs.rel_stay hT hu hl⟩
theorem SV.rel_fix (hT:Stay B S T) (hk:∃ b,S k=some (some b)) {s:SV} (hu:s.fixIn k B=true) {v:Value} (hr:s.rel S ι v):(s.fix k (ι k).1).rel T ι v:=by
 cases s with
 | one c=>exact CV.rel_fix hT hk hu hr
 | agg l=>obtain ⟨arr,e,hl⟩:=hr;exact ⟨arr,e,CVs.rel_fix hT hk hu hl⟩
theorem SVs.rel_stay (hT:Stay B S T):∀ {l:List SV} {vs:List Value},l.all (SV.inUse B)=true→SVs.rel S ι l vs→SVs.rel T ι l vs
 | [],[],_,_=>trivial
 | _::_,_::_,hu,hr=>by
  simp only [List.all_cons,Bool.and_eq_true] at hu
  exact ⟨SV.rel_stay hT hu.1 hr.1,SVs.rel_stay hT hu.2 hr.2⟩
 | [],_::_,_,hr=>hr.elim
 | _::_,[],_,hr=>hr.elim
theorem SVs.rel_fix (hT:Stay B S T) (hk:∃ b,S k=some (some b)):∀ {l:List SV} {vs:List Value},l.all (SV.fixIn k B)=true→SVs.rel S ι l vs→SVs.rel T ι (l.map (SV.fix k (ι k).1)) vs
 | [],[],_,_=>trivial
 | _::_,_::_,hu,hr=>by
  simp only [List.all_cons,Bool.and_eq_true] at hu
  exact ⟨SV.rel_fix hT hk hu.1 hr.1,SVs.rel_fix hT hk hu.2 hr.2⟩
 | [],_::_,_,hr=>hr.elim
 | _::_,[],_,hr=>hr.elim
theorem LV.rel_stay (hT:Stay B S T) {s:LV} (hu:s.inUse B=true) {v:Value} (hr:s.rel S ι v):s.rel T ι v:=by
 cases s with
 | sv s=>exact SV.rel_stay hT hu hr
 | tup l=>obtain ⟨arr,e,hl⟩:=hr;exact ⟨arr,e,SVs.rel_stay hT hu hl⟩
theorem LV.rel_fix (hT:Stay B S T) (hk:∃ b,S k=some (some b)) {s:LV} (hu:s.fixIn k B=true) {v:Value} (hr:s.rel S ι v):(s.fix k (ι k).1).rel T ι v:=by
 cases s with
 | sv s=>exact SV.rel_fix hT hk hu hr
 | tup l=>obtain ⟨arr,e,hl⟩:=hr;exact ⟨arr,e,SVs.rel_fix hT hk hu hl⟩
theorem Box.rel_stay (hT:Stay B S T) {b:Box} (hu:b.cells.all (CV.inUse B)=true) {vs:List Value} (hr:b.rel S ι vs):b.rel T ι vs:=by
 unfold Box.rel at hr ⊢
 cases hb:b.row with
 | res R=>rw [hb] at hr;exact hr.elim
 | bool r =>
  cases r with
  | false=>rw [hb] at hr;exact CVs.rel_stay hT hu hr
  | true=>rw [hb] at hr;obtain ⟨us,sp,e,hl⟩:=hr;exact ⟨us,sp,e,CVs.rel_stay hT hu hl⟩
theorem Box.rel_fix (hT:Stay B S T) (hk:∃ b,S k=some (some b)) {b:Box} (hu:b.cells.all (CV.fixIn k B)=true) {vs:List Value} (hr:b.rel S ι vs):(b.fix k (ι k).1).rel T ι vs:=by
 obtain ⟨e,cs,r⟩:=b
 unfold Box.rel at hr ⊢
 simp only [Box.fix] at hu hr ⊢
 cases r with
 | res R=>exact hr.elim
 | bool r =>
  cases r with
  | false=>exact CVs.rel_fix hT hk hu hr
  | true=>obtain ⟨us,sp,e,hl⟩:=hr;exact ⟨us,sp,e,CVs.rel_fix hT hk hu hl⟩
end
theorem look_fixS (k b d:Nat) (s:List (Nat×LV)):look d (fixS k b s)=(look d s).map (LV.fix k b):=by
 induction s with
 | nil=>rfl
 | cons p s ih =>
  obtain ⟨d',lv⟩:=p
  show cond (Nat.beq d' d) _ (look d (fixS k b s))=(cond (Nat.beq d' d) _ (look d s)).map _
  cases Nat.beq d' d with
  | true=>rfl
  | false=>exact ih
theorem look_fixB (k b d:Nat) (s:List (Nat×Option Box)):look d (fixB k b s)=(look d s).map (fun x=>x.map (Box.fix k b)):=by
 induction s with
 | nil=>rfl
 | cons p s ih =>
  obtain ⟨d',lv⟩:=p
  show cond (Nat.beq d' d) _ (look d (fixB k b s))=(cond (Nat.beq d' d) _ (look d s)).map _
  cases Nat.beq d' d with
  | true=>rfl
  | false=>exact ih
section
variable {P:Program} {n:Nat} {C:Ctx} {c:Code} {Q:Exit→St→Prop} {X:Nat→Option Obj}
theorem Rel.fixN {ι:Nat→Nat×Nat} {a:Act} {w:World} {s0 s:List (Nat×LV)} {b0 bx:List (Nat×Option Box)} {k:Nat} {b:Box} {H:Nat→Option Obj} {F:Nat→Nat→Option Obj}
  (hk:look k (b0++bx)=none) (hs:s.all (fun p=>p.2.inUse (b0++bx))=true) (hb:bx.all (fun p=>match p.2 with|some b=>b.cells.all (CV.inUse (b0++bx))|none=>true)=true)
  (hs0:s0.all (fun p=>p.2.fixIn k (b0++bx))=true) (hb0:b0.all (fun p=>match p.2 with|some b=>b.cells.all (CV.fixIn k (b0++bx))|none=>true)=true)
  (hr:Rel n C ι ⟨s0++s,b0++(k,some b)::bx,X⟩ a w)
  (hH:∀ i o,H i=some o→w.heap[i]? = some o∧X i=none∧∀ j bj,(⟨s0++s,b0++(k,some b)::bx,X⟩:St).stat j=some (some bj)→(ι j).1=i→j=k)
  (hF:ResAt (fun b=>C.own b∨C.w0.heap.size≤b) ι F (⟨s0++s,b0++(k,some b)::bx,X⟩:St).stat X w) (hFH:∀ j,j≠k→∀ i,F j i≠none→H i=none):
  Rel n C ι ⟨fixS k (ι k).1 s0++s,fixB k (ι k).1 b0++bx,joinM X H⟩ a w:=by
 have hk1:look k b0=none∧look k bx=none:=by
  rw [look_append] at hk
  cases h:look k b0 with
  | none=>rw [h] at hk;exact ⟨rfl,hk⟩
  | some x=>rw [h] at hk;cases hk
 have hstat:∀ j,(⟨s0++s,b0++(k,some b)::bx,X⟩:St).stat j=(look j b0).or (if j=k then some (some b) else look j bx):=fun j=>by
  show look j (b0++(k,some b)::bx)=_
  rw [look_append]
  have:=stat_cons [] bx X k j (some b)
  simp only [St.stat] at this
  rw [this]
 have hnew:∀ j,(⟨fixS k (ι k).1 s0++s,fixB k (ι k).1 b0++bx,joinM X H⟩:St).stat j=((look j b0).map (fun x=>x.map (Box.fix k (ι k).1))).or (look j bx):=fun j=>by
  show look j (fixB k (ι k).1 b0++bx)=_
  rw [look_append,look_fixB]
 have hst:(⟨s0++s,b0++(k,some b)::bx,X⟩:St).stat k=some (some b):=by rw [hstat,hk1.1,if_pos rfl];rfl
 have live:∀ j x,(⟨fixS k (ι k).1 s0++s,fixB k (ι k).1 b0++bx,joinM X H⟩:St).stat j=some x→j≠k∧((∃ y,look j b0=some y∧x=y.map (Box.fix k (ι k).1)∧(⟨s0++s,b0++(k,some b)::bx,X⟩:St).stat j=some y)∨(look j b0=none∧look j bx=some x∧(⟨s0++s,b0++(k,some b)::bx,X⟩:St).stat j=some x)):=fun j x hj=>by
  rw [hnew] at hj
  cases h0:look j b0 with
  | some y =>
   rw [h0] at hj
   have hj:some (y.map (Box.fix k (ι k).1))=some x:=hj
   cases hj
   exact ⟨fun e=>(by rw [e,hk1.1] at h0;cases h0),.inl ⟨y,rfl,rfl,by rw [hstat,h0];rfl⟩⟩
  | none =>
   rw [h0] at hj
   have hj:look j bx=some x:=hj
   have hne:j≠k:=fun e=>by rw [e,hk1.2] at hj;cases hj
   exact ⟨hne,.inr ⟨rfl,hj,by rw [hstat,h0,if_neg hne];exact hj⟩⟩
 have hT:Stay (b0++bx) (⟨s0++s,b0++(k,some b)::bx,X⟩:St).stat (⟨fixS k (ι k).1 s0++s,fixB k (ι k).1 b0++bx,joinM X H⟩:St).stat:=fun j hj=>by
  rw [look_append] at hj
  rw [hnew,hstat]
  cases h0:look j b0 with
  | some y =>
   refine ⟨y.map (Box.fix k (ι k).1),y,rfl,rfl,?_⟩
   cases y<;>rfl
  | none =>
   rw [h0] at hj
   have hj:(look j bx).isSome=true:=hj
   obtain ⟨x,hx⟩:=Option.isSome_iff_exists.1 hj
   have hne:j≠k:=fun e=>by rw [e,hk1.2] at hx;cases hx
   rw [if_neg hne,hx]
   exact ⟨x,x,rfl,rfl,rfl⟩
 have live2:∀ j bj,(⟨fixS k (ι k).1 s0++s,fixB k (ι k).1 b0++bx,joinM X H⟩:St).stat j=some (some bj)→j≠k∧∃ bj0,(⟨s0++s,b0++(k,some b)::bx,X⟩:St).stat j=some (some bj0)∧bj.row=bj0.row:=fun j bj hj=>by
  obtain ⟨hne,h⟩:=live j _ hj
  rcases h with ⟨y,_,h2,h3⟩|⟨_,_,h3⟩
  ·cases y with
   | none=>cases h2
   | some y =>
    have h2:some bj=some (y.fix k (ι k).1):=h2
    cases h2
    exact ⟨hne,y,h3,rfl⟩
  ·exact ⟨hne,bj,h3,rfl⟩
 have hHk:∀ j bj,(⟨fixS k (ι k).1 s0++s,fixB k (ι k).1 b0++bx,joinM X H⟩:St).stat j=some (some bj)→H (ι j).1=none:=fun j bj hj=>by
  obtain ⟨hne,bj0,h1,_⟩:=live2 j bj hj
  cases hc:H (ι j).1 with
  | none=>rfl
  | some o=>exact absurd ((hH _ o hc).2.2 j bj0 h1 rfl) hne
 exact {
  defers:=hr.defers,size:=hr.size
  slots:=fun d lv hd=>by
   have hd:look d (fixS k (ι k).1 s0++s)=some lv:=hd
   rw [look_append,look_fixS] at hd
   cases h0:look d s0 with
   | some lv0 =>
    rw [h0] at hd
    have hd:some (lv0.fix k (ι k).1)=some lv:=hd
    cases hd
    obtain ⟨v,hv,hvr⟩:=hr.slots d lv0 (by show look d (s0++s)=_;rw [look_append,h0];rfl)
    exact ⟨v,hv,LV.rel_fix hT ⟨b,hst⟩ (List.all_eq_true.1 hs0 _ (look_mem h0)) hvr⟩
   | none =>
    rw [h0] at hd
    have hd:look d s=some lv:=hd
    obtain ⟨v,hv,hvr⟩:=hr.slots d lv (by show look d (s0++s)=_;rw [look_append,h0];exact hd)
    exact ⟨v,hv,LV.rel_stay hT (List.all_eq_true.1 hs _ (look_mem hd)) hvr⟩
  boxes:=fun j bj hj hbk=>by
   obtain ⟨hne,h⟩:=live j _ hj
   rcases h with ⟨y,h1,h2,h3⟩|⟨h1,h2,h3⟩
   ·cases y with
    | none=>cases h2
    | some y =>
     have h2:some bj=some (y.fix k (ι k).1):=h2
     cases h2
     obtain ⟨arr,fr,g1,g2,g3,g4⟩:=hr.boxes j y h3 hbk
     exact ⟨arr,fr,g1,g2,g3,Box.rel_fix hT ⟨b,hst⟩ (by simpa using List.all_eq_true.1 hb0 _ (look_mem h1)) g4⟩
   ·obtain ⟨arr,fr,g1,g2,g3,g4⟩:=hr.boxes j bj h3 hbk
    exact ⟨arr,fr,g1,g2,g3,Box.rel_stay hT (by simpa using List.all_eq_true.1 hb _ (look_mem h2)) g4⟩
  own:=fun j bj hj=>by
   obtain ⟨hne,bj0,h1,_⟩:=live2 j bj hj
   obtain ⟨h2,h3⟩:=hr.own j bj0 h1
   exact ⟨h2,(joinM_out (hHk j bj hj)).trans h3⟩
  inj:=fun i j bi bj hi hj he=>by
   obtain ⟨_,bi0,h1,_⟩:=live2 i bi hi
   obtain ⟨_,bj0,h2,_⟩:=live2 j bj hj
   exact hr.inj i j bi0 bj0 h1 h2 he
  keep:=fun j bj hj hge=>by
   obtain ⟨_,bj0,h1,_⟩:=live2 j bj hj
   exact hr.keep j bj0 h1 hge
  ext:=fun i o hi=>by
   have hi:joinM X H i=some o:=hi
   cases hc:H i with
   | none=>rw [joinM_out hc] at hi;exact hr.ext i o hi
   | some o' =>
    rw [joinM_in hc] at hi
    cases hi
    exact (hH i o hc).1
  res:=by
   refine ⟨fun j=>open Classical in if j=k then fun _=>none else F j,fun j e' cs' R' hj => ?_,fun j i o ho => ?_,fun i j i' h1 h2 => ?_⟩
   ·obtain ⟨hne,h⟩:=live j _ hj
    rw [if_neg hne]
    rcases h with ⟨y,h1,h2,h3⟩|⟨h1,h2,h3⟩
    ·cases y with
     | none=>cases h2
     | some y =>
      obtain ⟨ye,yc,yr⟩:=y
      have h2:some (⟨e',cs',.res R'⟩:Box)=some (Box.fix k (ι k).1 ⟨ye,yc,yr⟩):=h2
      simp only [Box.fix,Option.some.injEq,Box.mk.injEq] at h2
      obtain ⟨_,_,e3⟩:=h2
      subst e3
      exact hF.holds j _ _ R' h3
    ·exact hF.holds j _ _ R' h3
   ·by_cases ej:j=k
    ·rw [if_pos ej] at ho;cases ho
    ·rw [if_neg ej] at ho
     obtain ⟨⟨e1,cs1,R1,h1⟩,h2,h3,h4,h5,h6⟩:=hF.mem j i o ho
     refine ⟨?_,h2,h3,h4,(joinM_out (hFH j ej i (by rw [ho];simp))).trans h5,fun i2 bi hi ei => ?_⟩
     ·rw [hstat,if_neg ej] at h1
      unfold isRes
      rw [hnew]
      cases h0:look j b0 with
      | some y =>
       rw [h0] at h1
       have h1:some y=some (some ⟨e1,cs1,.res R1⟩):=h1
       cases h1
       exact ⟨_,_,_,rfl⟩
      | none =>
       rw [h0] at h1
       have h1:look j bx=some (some ⟨e1,cs1,.res R1⟩):=h1
       exact ⟨_,_,_,h1⟩
     ·obtain ⟨_,bi0,h7,_⟩:=live2 i2 bi hi
      exact h6 i2 bi0 h7 ei
   ·by_cases ei:i=k
    ·rw [if_pos ei] at h1;exact absurd rfl h1
    ·by_cases ej:j=k
     ·rw [if_pos ej] at h2;exact absurd rfl h2
     ·rw [if_neg ei] at h1
      rw [if_neg ej] at h2
      exact hF.apart i j i' h1 h2
  frame:=hr.frame,big:=hr.big,os:=hr.os,tape:=hr.tape,output:=hr.output }
def oneM (blk:Nat) (o:Obj):Nat→Option Obj:=fun i=>if i=blk then some o else none
theorem joinM_one (X:Nat→Option Obj) (blk:Nat) (o:Obj):joinM X (oneM blk o)=withBlock X blk o:=by
 funext i
 unfold joinM oneM withBlock
 by_cases e:i=blk<;>simp [e]
theorem Rel.fixBox {ι:Nat→Nat×Nat} {a:Act} {w:World} {s0 s:List (Nat×LV)} {b0 bx:List (Nat×Option Box)} {k:Nat} {el:TypeId} {vals:List Value} {row:Bool}
  (hk:look k (b0++bx)=none) (hs:s.all (fun p=>p.2.inUse (b0++bx))=true) (hb:bx.all (fun p=>match p.2 with|some b=>b.cells.all (CV.inUse (b0++bx))|none=>true)=true)
  (hs0:s0.all (fun p=>p.2.fixIn k (b0++bx))=true) (hb0:b0.all (fun p=>match p.2 with|some b=>b.cells.all (CV.fixIn k (b0++bx))|none=>true)=true)
  (hr:Rel n C ι ⟨s0++s,b0++(k,some ⟨el,vals.map .val,row⟩)::bx,X⟩ a w):
  ∃ (blk:Nat) (arr:Array Value) (fr:Nat×Nat),X blk=none∧Frozen C blk arr fr∧(∃ sp,arr.toList=vals++sp) ∧
   Rel n C ι ⟨fixS k blk s0++s,fixB k blk b0++bx,withBlock X blk (.cells arr el fr)⟩ a w:=by
 have hst:(⟨s0++s,b0++(k,some ⟨el,vals.map .val,row⟩)::bx,X⟩:St).stat k=some (some ⟨el,vals.map .val,row⟩):=by
  show look k (b0++(k,some ⟨el,vals.map .val,row⟩)::bx)=_
  rw [look_append] at hk ⊢
  cases h:look k b0 with
  | none=>simp [look]
  | some x=>rw [h] at hk;cases hk
 obtain ⟨arr,fr,harr,hth,hsz,hbr⟩:=hr.boxes k _ hst rfl
 obtain ⟨F,hF⟩:=hr.res
 obtain ⟨hown,hX⟩:=hr.own k _ hst
 have hsp:∃ sp,arr.toList=vals++sp:=by
  unfold Box.rel at hbr
  cases row with
  | false=>exact ⟨[],by rw [List.append_nil];exact rel_vals hbr⟩
  | true =>
   obtain ⟨us,sp,e,hl⟩:=hbr
   exact ⟨sp,by rw [e,rel_vals hl]⟩
 refine ⟨(ι k).1,arr,fr,hX,⟨hown,hth⟩,hsp,?_⟩
 rw [← joinM_one]
 refine hr.fixN hk hs hb hs0 hb0 (fun i o hi => ?_) hF (fun j hj i hi => ?_)
 ·unfold oneM at hi
  split at hi
  ·rename_i e
   subst e
   cases hi
   exact ⟨harr,hX,fun j bj hj he=>hr.inj j k bj _ hj hst he⟩
  ·cases hi
 ·unfold oneM
  split
  ·rename_i e
   subst e
   cases hc:F j (ι k).1 with
   | none=>exact absurd hc hi
   | some o =>
    obtain ⟨_,_,_,_,_,h6⟩:=hF.mem j _ o hc
    exact absurd (h6 k _ hst rfl).symm hj
  ·rfl
theorem Rel.fixRsc {ι:Nat→Nat×Nat} {a:Act} {w:World} {s0 s:List (Nat×LV)} {b0 bx:List (Nat×Option Box)} {k:Nat} {e:TypeId} {cs:List CV} {R:Rsc}
  (hk:look k (b0++bx)=none) (hs:s.all (fun p=>p.2.inUse (b0++bx))=true) (hb:bx.all (fun p=>match p.2 with|some b=>b.cells.all (CV.inUse (b0++bx))|none=>true)=true)
  (hs0:s0.all (fun p=>p.2.fixIn k (b0++bx))=true) (hb0:b0.all (fun p=>match p.2 with|some b=>b.cells.all (CV.fixIn k (b0++bx))|none=>true)=true)
  (hr:Rel n C ι ⟨s0++s,b0++(k,some ⟨e,cs,.res R⟩)::bx,X⟩ a w):
  ∃ (ρ:Nat×Nat) (H:Nat→Option Obj),R.holds ρ H∧OwnedM C X H ∧
   Rel n C ι ⟨fixS k ρ.1 s0++s,fixB k ρ.1 b0++bx,joinM X H⟩ a w:=by
 have hst:(⟨s0++s,b0++(k,some ⟨e,cs,.res R⟩)::bx,X⟩:St).stat k=some (some ⟨e,cs,.res R⟩):=by
  show look k (b0++(k,some ⟨e,cs,.res R⟩)::bx)=_
  rw [look_append] at hk ⊢
  cases h:look k b0 with
  | none=>simp [look]
  | some x=>rw [h] at hk;cases hk
 obtain ⟨F,hF⟩:=hr.res
 refine ⟨ι k,F k,(hF.holds k _ _ _ hst).1,⟨fun b o hb=>let h:=hF.mem k b o hb;⟨h.2.2.2.1,h.2.2.1,h.2.2.2.2.1⟩⟩,?_⟩
 refine hr.fixN hk hs hb hs0 hb0 (fun i o hi => ?_) hF (fun j hj i hi => ?_)
 ·obtain ⟨_,h2,_,_,h5,h6⟩:=hF.mem k i o hi
  exact ⟨h2,h5,fun j bj hj he=>h6 j bj hj he⟩
 ·cases hc:F k i with
  | none=>rfl
  | some o=>exact absurd (hF.apart j k i hi (by rw [hc];simp)) hj
theorem Leads.fixBox {Mid:St→Prop} (s0:List (Nat×LV)) (b0:List (Nat×Option Box)) {s:List (Nat×LV)} {bx:List (Nat×Option Box)} {k:Nat} {el:TypeId} {vals:List Value} {row:Bool}
  (hk:look k (b0++bx)=none) (hs:s.all (fun p=>p.2.inUse (b0++bx))=true) (hb:bx.all (fun p=>match p.2 with|some b=>b.cells.all (CV.inUse (b0++bx))|none=>true)=true)
  (hs0:s0.all (fun p=>p.2.fixIn k (b0++bx))=true) (hb0:b0.all (fun p=>match p.2 with|some b=>b.cells.all (CV.fixIn k (b0++bx))|none=>true)=true)
  (h:∀ (blk:Nat) (arr:Array Value) (fr:Nat×Nat),X blk=none→Frozen C blk arr fr→(∃ sp,arr.toList=vals++sp) →
   Leads n C Mid ⟨fixS k blk s0++s,fixB k blk b0++bx,withBlock X blk (.cells arr el fr)⟩):
  Leads n C Mid ⟨s0++s,b0++(k,some ⟨el,vals.map .val,row⟩)::bx,X⟩:=by
 refine ⟨fun ι a w hr => ?_⟩
 obtain ⟨blk,arr,fr,h1,h2,h5,h6⟩:=hr.fixBox hk hs hb hs0 hb0
 exact (h blk arr fr h1 h2 h5).out ι a w h6
theorem Leads.fixRsc {Mid:St→Prop} (s0:List (Nat×LV)) (b0:List (Nat×Option Box)) {s:List (Nat×LV)} {bx:List (Nat×Option Box)} {k:Nat} {e:TypeId} {cs:List CV} {R:Rsc}
  (hk:look k (b0++bx)=none) (hs:s.all (fun p=>p.2.inUse (b0++bx))=true) (hb:bx.all (fun p=>match p.2 with|some b=>b.cells.all (CV.inUse (b0++bx))|none=>true)=true)
  (hs0:s0.all (fun p=>p.2.fixIn k (b0++bx))=true) (hb0:b0.all (fun p=>match p.2 with|some b=>b.cells.all (CV.fixIn k (b0++bx))|none=>true)=true)
  (h:∀ (ρ:Nat×Nat) (H:Nat→Option Obj),R.holds ρ H→OwnedM C X H→Leads n C Mid ⟨fixS k ρ.1 s0++s,fixB k ρ.1 b0++bx,joinM X H⟩):
  Leads n C Mid ⟨s0++s,b0++(k,some ⟨e,cs,.res R⟩)::bx,X⟩:=by
 refine ⟨fun ι a w hr => ?_⟩
 obtain ⟨ρ,H,h1,h2,h3⟩:=hr.fixRsc hk hs hb hs0 hb0
 exact (h ρ H h1 h2).out ι a w h3
end
section
variable {P:Program} {n:Nat} {ops os:List Oper} {acc:List Eff} {K:List Eff→St→Prop} {s:List (Nat×LV)} {bx:List (Nat×Option Box)} {X:Nat→Option Obj} {σ:St}
theorem LOK.makeFuncP {d k off:Nat} {fn:Fn} {x:Operand} {b:Box} (hx:σ.ev x=some (.sv (.one (.ptr k off)))) (hk:σ.stat k=some (some b)):
  LOK P n ops ⟨some d,.makeFunc fn #[] #[x],ty,pos,after_,g⟩ σ ⟨[(d,.sv (.one (.fn fn (fun i=>[.pointer (some ⟨i,off,none⟩)]) k)))],[k],[]⟩:=
 LOK.value fun σ' ha C ι a w hr=>by
  have hk':=(ha.stat k (.inl (by simp))).trans hk
  have hv:=hr.ev ((ha.ev (x:=x) (by simp [Op.operands])).trans hx)
  simp only [LV.rel,SV.rel,CV.rel,hk'] at hv
  refine ⟨.func fn #[] #[.pointer (some ⟨(ι k).1,off,none⟩)],by simp [execOp,Instr.makeFunc,hv],?_⟩
  simp only [LV.rel,SV.rel,CV.rel,hk']
theorem K.makeFuncP {d k off:Nat} {fn:Fn} {x:Operand} {b:Box} (hx:(⟨s,bx,X⟩:St).ev x=some (.sv (.one (.ptr k off)))) (hk:(⟨s,bx,X⟩:St).stat k=some (some b)) (hw:Want ops s g)
  (kont:RunK P n ops os ⟨(d,.sv (.one (.fn fn (fun i=>[.pointer (some ⟨i,off,none⟩)]) k)))::s,bx,X⟩ (⟨[(d,.sv (.one (.fn fn (fun i=>[.pointer (some ⟨i,off,none⟩)]) k)))],[k],[]⟩::acc) K):
  RunK P n ops (⟨some d,.makeFunc fn #[] #[x],ty,pos,after_,g⟩::os) ⟨s,bx,X⟩ acc K:=RunK.g1 (LOK.makeFuncP hx hk) hw kont
end
section
variable {P:Program} {n:Nat} {ops os:List Oper} {acc:List Eff} {K:List Eff→St→Prop} {s:List (Nat×LV)} {bx:List (Nat×Option Box)} {X:Nat→Option Obj} {σ:St}
def isFunc (P:Program) (t:TypeId):Bool:=match P.underlying t with|some (.func _ _ _)=>true|_=>false
theorem isFunc_spec {t:TypeId} (h:isFunc P t=true):∃ a b c,P.underlying t=some (.func a b c):=by
 unfold isFunc at h
 split at h
 ·rename_i a b c e;exact ⟨a,b,c,e⟩
 ·cases h
theorem run_equal_func (w:World) (t:TypeId) (f:Fn) (ns:Array Value) (cs:Array Value) (h:isFunc P t=true):(Op.equal t (.func f ns cs) .nilFunc).run P w = .ok false w:=by
 obtain ⟨a,b,c,hu⟩:=isFunc_spec h
 have key:∀ d,(Op.equalIn (d+1) t (.func f ns cs) .nilFunc).run P w = .ok false w:=fun d=>by simp [Op.equalIn,run_underlying hu]
 exact key 9999
theorem run_equal_nilFunc (w:World) (t:TypeId) (h:isFunc P t=true):(Op.equal t .nilFunc .nilFunc).run P w = .ok true w:=by
 obtain ⟨a,b,c,hu⟩:=isFunc_spec h
 have key:∀ d,(Op.equalIn (d+1) t .nilFunc .nilFunc).run P w = .ok true w:=fun d=>by simp [Op.equalIn,run_underlying hu]
 exact key 9999
theorem LOK.funcNil {d:Nat} {t t':TypeId} {x:Operand} {r:Bool} {v:Value} (hx:σ.ev x=some (.sv (.one (.val v)))) (ht:isFunc P t=true)
  (hv:(v = .nilFunc∧r=true)∨((∃ f ns cs,v = .func f ns cs)∧r=false)):
  LOK P n ops ⟨some d,.binOp .eql t x (.const .nilFunc) t',ty,pos,after_,g⟩ σ ⟨[(d,.sv (.one (.val (.bool r))))],[],[]⟩:=
 LOK.value fun σ' ha C ι a w hr=>by
  have hv':a.eval x=v:=hr.ev ((ha.ev (x:=x) (by simp [Op.operands])).trans hx)
  have hc:a.eval (.const .nilFunc) = .nilFunc:=rfl
  rcases hv with ⟨rfl,rfl⟩|⟨⟨f,ns,cs,rfl⟩,rfl⟩
  ·exact ⟨_,by simp only [execOp,hv',hc,eqGuard,Sem.run_bind];simp [binOp,run_equal_nilFunc w t ht],rfl⟩
  ·exact ⟨_,by simp only [execOp,hv',hc,eqGuard,Sem.run_bind];simp [binOp,run_equal_func w t f ns cs ht],rfl⟩
theorem K.funcNil {d:Nat} {t t':TypeId} {x:Operand} {r:Bool} {v:Value} (hx:(⟨s,bx,X⟩:St).ev x=some (.sv (.one (.val v)))) (ht:isFunc P t=true)
  (hv:(v = .nilFunc∧r=true)∨((∃ f ns cs,v = .func f ns cs)∧r=false)) (hw:Want ops s g)
  (kont:RunK P n ops os ⟨(d,.sv (.one (.val (.bool r))))::s,bx,X⟩ (⟨[(d,.sv (.one (.val (.bool r))))],[],[]⟩::acc) K):
  RunK P n ops (⟨some d,.binOp .eql t x (.const .nilFunc) t',ty,pos,after_,g⟩::os) ⟨s,bx,X⟩ acc K:=RunK.g1 (LOK.funcNil hx ht hv) hw kont
end
end Go.Lg
end
section
namespace Go.Lg
open Go Go.RowKit
section
variable {P:Program} {n:Nat} {C:Ctx} {c:Code} {Q:Exit→St→Prop} {X:Nat→Option Obj}
theorem rel_unslc {S:Nat→Option (Option Box)} {ι:Nat→Nat×Nat} {A B:List CV} {k off len sz:Nat} {x:Box} (hsk:S k=some (some x)) {vs:List Value} (h:CVs.rel S ι (A ++ .slc k off len sz::B) vs):∃ cap:Nat,len≤cap∧off+cap*sz≤(ι k).2∧CVs.rel S ι (A ++ .val (.slice (some ⟨(ι k).1,off,none⟩) len cap)::B) vs:=by
 obtain ⟨va,v,vb,rfl,h1,h2,h3⟩:=rel_mid h
 simp only [CV.rel] at h2
 rw [hsk] at h2
 obtain ⟨cap,rfl,hc,hf⟩:=h2
 exact ⟨cap,hc,hf,CVs.rel_append h1 ⟨rfl,h3⟩⟩
theorem Rel.unslc {ι:Nat→Nat×Nat} {a:Act} {w:World} {s:List (Nat×LV)} {bx:List (Nat×Option Box)} {j k off len sz:Nat} {e:TypeId} {A B:List CV} {row:Bool} {x:Box}
  (hj:Nat.beq j k=false) (hkx:look k bx=some (some x))
  (hr:Rel n C ι ⟨s,(j,some ⟨e,A ++ .slc k off len sz::B,row⟩)::bx,X⟩ a w):
  ∃ cap:Nat,len≤cap∧off+cap*sz≤(ι k).2∧Rel n C ι ⟨s,(j,some ⟨e,A ++ .val (.slice (some ⟨(ι k).1,off,none⟩) len cap)::B,row⟩)::bx,X⟩ a w:=by
 have hkj:k≠j:=fun h=>by rw [h,Nat.beq_refl] at hj;cases hj
 obtain ⟨arr,fr,g1,g2,g3,g4⟩:=hr.boxes j ⟨e,A ++ .slc k off len sz::B,row⟩ (by rw [stat_hd,if_pos rfl]) rfl
 have hsk:(⟨s,(j,some ⟨e,A ++ .slc k off len sz::B,row⟩)::bx,X⟩:St).stat k=some (some x):=by rw [stat_hd,if_neg hkj];exact hkx
 have key:∃ cap:Nat,len≤cap∧off+cap*sz≤(ι k).2∧Box.rel (⟨s,(j,some ⟨e,A ++ .slc k off len sz::B,row⟩)::bx,X⟩:St).stat ι ⟨e,A ++ .val (.slice (some ⟨(ι k).1,off,none⟩) len cap)::B,row⟩ arr.toList:=by
  unfold Box.rel at g4 ⊢
  cases row with
  | false=>exact rel_unslc hsk g4
  | true =>
   obtain ⟨us,sp,e1,h1⟩:=g4
   obtain ⟨cap,hc,hf,h2⟩:=rel_unslc hsk h1
   exact ⟨cap,hc,hf,us,sp,e1,h2⟩
 obtain ⟨cap,hc,hf,g5⟩:=key
 refine ⟨cap,hc,hf,?_⟩
 generalize hcs:A ++ .slc k off len sz::B=cs at *
 generalize hcs':A ++ .val (.slice (some ⟨(ι k).1,off,none⟩) len cap)::B=cs' at *
 have hlater:=later_hd (s:=s) (bx:=bx) (k:=j) ι ⟨e,cs,row⟩ ⟨e,cs',row⟩ X X
 have live:∀ i b,(⟨s,(j,some ⟨e,cs',row⟩)::bx,X⟩:St).stat i=some (some b)→∃ b0,(⟨s,(j,some ⟨e,cs,row⟩)::bx,X⟩:St).stat i=some (some b0)∧(i≠j→b=b0):=fun i b hi=>by
  rw [stat_hd] at hi ⊢
  by_cases e:i=j
  ·rw [if_pos e];exact ⟨_,rfl,fun h=>absurd e h⟩
  ·rw [if_neg e] at hi ⊢;exact ⟨b,hi,fun _=>rfl⟩
 exact {
  defers:=hr.defers,size:=hr.size
  slots:=fun d lv hd=>by
   obtain ⟨v,hv,hvr⟩:=hr.slots d lv hd
   exact ⟨v,hv,LV.rel_later hlater hvr⟩
  boxes:=fun i b hi hbk=>by
   by_cases ei:i=j
   ·subst ei
    rw [stat_hd,if_pos rfl] at hi
    simp only [Option.some.injEq] at hi
    subst hi
    exact ⟨arr,fr,g1,g2,g3,Box.rel_later hlater g5⟩
   ·obtain ⟨b0,h0,h1⟩:=live i b hi
    have:=h1 ei
    subst this
    obtain ⟨arr,fr,g1,g2,g3,g4⟩:=hr.boxes i b h0 hbk
    exact ⟨arr,fr,g1,g2,g3,Box.rel_later hlater g4⟩
  own:=fun i b hi=>by obtain ⟨b0,h0,_⟩:=live i b hi;exact hr.own i b0 h0
  inj:=fun i i' bi bj hi hj he=>by
   obtain ⟨b1,h1,_⟩:=live i bi hi
   obtain ⟨b2,h2,_⟩:=live i' bj hj
   exact hr.inj i i' b1 b2 h1 h2 he
  keep:=fun i b hi hge=>by obtain ⟨b0,h0,_⟩:=live i b hi;exact hr.keep i b0 h0 hge
  ext:=hr.ext
  res:=by
   obtain ⟨F,hG⟩:=hr.res
   refine hG.keep (fun i e cs R hi => ?_) (fun _ _ _ _ _ hi=>hi) (fun _ _ ho=>ho) (fun b _ hx _ _=>hx) (fun i bi hi => ?_)
   ·rw [stat_hd] at hi ⊢
    by_cases e:i=j
    ·rw [if_pos e] at hi;cases hi
    ·rw [if_neg e] at hi ⊢;exact ⟨hi,rfl⟩
   ·obtain ⟨b0,h0,_⟩:=live i bi hi
    exact .inl ⟨b0,h0,rfl⟩
  frame:=hr.frame,big:=hr.big,os:=hr.os,tape:=hr.tape,output:=hr.output }
theorem Rel.fixAlone {ι:Nat→Nat×Nat} {a:Act} {w:World} {s:List (Nat×LV)} {bx:List (Nat×Option Box)} {k:Nat} {e:TypeId} {cs:List CV} {R:Rsc}
  (hs:s.all (fun p=>p.2.inUse bx)=true) (hb:bx.all (fun p=>match p.2 with|some b=>b.cells.all (CV.inUse bx)|none=>true)=true) (hk:look k bx=none)
  (hr:Rel n C ι ⟨s,(k,some ⟨e,cs,.res R⟩)::bx,X⟩ a w):
  ∃ (H:Nat→Option Obj),R.holds (ι k) H∧OwnedM C X H∧Rel n C ι ⟨s,bx,joinM X H⟩ a w:=by
 have hst:(⟨s,(k,some ⟨e,cs,.res R⟩)::bx,X⟩:St).stat k=some (some ⟨e,cs,.res R⟩):=by simp [St.stat,look]
 have hlk:∀ k' x,look k' bx=some x→k'≠k:=fun k' x h' e=>by rw [e,hk] at h';cases h'
 have hstb:∀ k' x,look k' bx=some x→(⟨s,(k,some ⟨e,cs,.res R⟩)::bx,X⟩:St).stat k'=some x:=fun k' x h'=>by
  simp only [St.stat,look]
  cases e:Nat.beq k k' with
  | true=>exact absurd (Nat.eq_of_beq_eq_true e).symm (hlk k' x h')
  | false=>exact h'
 have hback:∀ j x,j≠k→(⟨s,(k,some ⟨e,cs,.res R⟩)::bx,X⟩:St).stat j=some x→look j bx=some x:=fun j x hj h'=>by
  simp only [St.stat,look] at h'
  cases e:Nat.beq k j with
  | true=>exact absurd (Nat.eq_of_beq_eq_true e).symm hj
  | false=>rw [e] at h';exact h'
 obtain ⟨F,hF⟩:=hr.res
 obtain ⟨hR,_⟩:=hF.holds k _ _ _ hst
 refine ⟨F k,hR,⟨fun b o hb=>let h:=hF.mem k b o hb;⟨h.2.2.2.1,h.2.2.1,h.2.2.2.2.1⟩⟩,?_⟩
 have hon:SameOn bx (⟨s,(k,some ⟨e,cs,.res R⟩)::bx,X⟩:St).stat (fun k=>look k bx):=fun k' x h'=>(hstb k' x h').trans h'.symm
 have hnot:∀ j b,look j bx=some (some b)→F k (ι j).1=none:=fun j b hj=>by
  cases hc:F k (ι j).1 with
  | none=>rfl
  | some o=>exact absurd ((hF.mem k _ o hc).2.2.2.2.2 j b (hstb j _ hj) rfl) (hlk j _ hj)
 exact {
  defers:=hr.defers,size:=hr.size
  slots:=fun d' lv hd=>by
   obtain ⟨v',hv',hr'⟩:=hr.slots d' lv hd
   exact ⟨v',hv',LV.rel_on hon (List.all_eq_true.1 hs _ (look_mem hd)) hr'⟩
  boxes:=fun k' b hb' hbk=>by
   have hb':look k' bx=some (some b):=hb'
   obtain ⟨arr',fr',h1,h2,h3,h4⟩:=hr.boxes k' b (hstb k' _ hb') hbk
   exact ⟨arr',fr',h1,h2,h3,Box.rel_on hon (by simpa using List.all_eq_true.1 hb _ (look_mem hb')) h4⟩
  own:=fun k' b hb'=>by
   have hb':look k' bx=some (some b):=hb'
   obtain ⟨h1,h2⟩:=hr.own k' b (hstb k' _ hb')
   exact ⟨h1,(joinM_out (hnot k' b hb')).trans h2⟩
  inj:=fun k1 k2 b1 b2 h1 h2 he=>hr.inj k1 k2 b1 b2 (hstb k1 _ h1) (hstb k2 _ h2) he
  keep:=fun k' b hb' hge=>hr.keep k' b (hstb k' _ hb') hge
  ext:=fun b o hbo=>by
   have hbo:joinM X (F k) b=some o:=hbo
   cases hc:F k b with
   | none=>rw [joinM_out hc] at hbo;exact hr.ext b o hbo
   | some o' =>
    rw [joinM_in hc] at hbo
    cases hbo
    exact (hF.mem k b _ hc).2.1
  res:=by
   refine ⟨fun j=>open Classical in if j=k then fun _=>none else F j,fun j e' cs' R' hj => ?_,fun j b o ho => ?_,fun i j b h1 h2 => ?_⟩
   ·have hj:look j bx=some (some ⟨e',cs',.res R'⟩):=hj
    rw [if_neg (hlk j _ hj)]
    exact hF.holds j e' cs' R' (hstb j _ hj)
   ·by_cases ej:j=k
    ·rw [if_pos ej] at ho;cases ho
    ·rw [if_neg ej] at ho
     obtain ⟨⟨e1,cs1,R1,h1⟩,h2,h3,h4,h5,h6⟩:=hF.mem j b o ho
     refine ⟨⟨e1,cs1,R1,hback j _ ej h1⟩,h2,h3,h4,?_,fun i bi hi ei=>h6 i bi (hstb i _ hi) ei⟩
     have hc:F k b=none:=by
      cases hc:F k b with
      | none=>rfl
      | some o'=>exact absurd (hF.apart j k b (by rw [ho];simp) (by rw [hc];simp)) ej
     exact (joinM_out hc).trans h5
   ·by_cases ei:i=k
    ·rw [if_pos ei] at h1;exact absurd rfl h1
    ·by_cases ej:j=k
     ·rw [if_pos ej] at h2;exact absurd rfl h2
     ·rw [if_neg ei] at h1
      rw [if_neg ej] at h2
      exact hF.apart i j b h1 h2
  frame:=hr.frame,big:=hr.big,os:=hr.os,tape:=hr.tape,output:=hr.output }
theorem Rel.fixCell {ι:Nat→Nat×Nat} {a:Act} {w:World} {s:List (Nat×LV)} {bx:List (Nat×Option Box)} {j k off len sz:Nat} {e e2:TypeId} {A B cs:List CV} {row:Bool} {R:Rsc}
  (hs:s.all (fun p=>p.2.inUse ((j,none)::bx))=true) (hA:A.all (CV.inUse ((j,none)::bx))=true) (hB:B.all (CV.inUse ((j,none)::bx))=true) (hb:bx.all (fun p=>match p.2 with|some b=>b.cells.all (CV.inUse ((j,none)::bx))|none=>true)=true) (hk:look k bx=none) (hjk:Nat.beq j k=false)
  (hr:Rel n C ι ⟨s,(j,some ⟨e2,A ++ .slc k off len sz::B,row⟩)::(k,some ⟨e,cs,.res R⟩)::bx,X⟩ a w):
  ∃ (ρ:Nat×Nat) (H:Nat→Option Obj) (cap:Nat),R.holds ρ H∧OwnedM C X H∧len≤cap∧off+cap*sz≤ρ.2 ∧
   Rel n C ι ⟨s,(j,some ⟨e2,A ++ .val (.slice (some ⟨ρ.1,off,none⟩) len cap)::B,row⟩)::bx,joinM X H⟩ a w:=by
 have hlk:look k ((k,some (⟨e,cs,.res R⟩:Box))::bx)=some (some ⟨e,cs,.res R⟩):=by simp [look]
 obtain ⟨cap,hc,hf,hr2⟩:=hr.unslc hjk hlk
 have hr3:Rel n C ι ⟨s,(k,some ⟨e,cs,.res R⟩)::(j,some ⟨e2,A ++ .val (.slice (some ⟨(ι k).1,off,none⟩) len cap)::B,row⟩)::bx,X⟩ a w:=
  hr2.same ⟨fun _=>rfl,fun i=>look_swap hjk,rfl⟩
 have any:∀ (y:Option Box) {c:CV},c.inUse ((j,none)::bx)=true→c.inUse ((j,y)::bx)=true:=fun y c h=>by
  cases c<;>first|rfl|(simp only [CV.inUse,look] at h ⊢;cases hjj:Nat.beq j _<;>simp_all)
 have anyS:∀ (y:Option Box) {c:SV},c.inUse ((j,none)::bx)=true→c.inUse ((j,y)::bx)=true:=fun y c h=>by
  cases c with
  | one c=>exact any y h
  | agg l=>exact List.all_eq_true.2 fun c hc=>any y (List.all_eq_true.1 h c hc)
 have anyL:∀ (y:Option Box) {c:LV},c.inUse ((j,none)::bx)=true→c.inUse ((j,y)::bx)=true:=fun y c h=>by
  cases c with
  | sv c=>exact anyS y h
  | tup l=>exact List.all_eq_true.2 fun c hc=>anyS y (List.all_eq_true.1 h c hc)
 obtain ⟨H,hR,hO,hr4⟩:=hr3.fixAlone (List.all_eq_true.2 fun p hp=>anyL _ (List.all_eq_true.1 hs p hp)) (by
  rw [List.all_cons,Bool.and_eq_true]
  refine ⟨?_,List.all_eq_true.2 fun p hp => ?_⟩
  ·show (A ++ .val _::B).all _=true
   rw [List.all_append,List.all_cons,Bool.and_eq_true,Bool.and_eq_true]
   exact ⟨List.all_eq_true.2 fun c hc=>any _ (List.all_eq_true.1 hA c hc),rfl,List.all_eq_true.2 fun c hc=>any _ (List.all_eq_true.1 hB c hc)⟩
  ·have:=List.all_eq_true.1 hb p hp
   cases hp2:p.2 with
   | none=>rfl
   | some b =>
    rw [hp2] at this
    exact List.all_eq_true.2 fun c hc=>any _ (List.all_eq_true.1 this c hc)) (by
  simp only [look,hjk]
  exact hk)
 exact ⟨ι k,H,cap,hR,hO,hc,hf,hr4⟩
theorem Leads.fixCell {Mid:St→Prop} {s:List (Nat×LV)} {bx:List (Nat×Option Box)} {j k off len sz:Nat} {e e2:TypeId} {A B cs:List CV} {row:Bool} {R:Rsc}
  (hs:s.all (fun p=>p.2.inUse ((j,none)::bx))=true) (hA:A.all (CV.inUse ((j,none)::bx))=true) (hB:B.all (CV.inUse ((j,none)::bx))=true) (hb:bx.all (fun p=>match p.2 with|some b=>b.cells.all (CV.inUse ((j,none)::bx))|none=>true)=true) (hk:look k bx=none) (hjk:Nat.beq j k=false)
  (h:∀ (ρ:Nat×Nat) (H:Nat→Option Obj) (cap:Nat),R.holds ρ H→OwnedM C X H→len≤cap→off+cap*sz≤ρ.2→Leads n C Mid ⟨s,(j,some ⟨e2,A ++ .val (.slice (some ⟨ρ.1,off,none⟩) len cap)::B,row⟩)::bx,joinM X H⟩):
  Leads n C Mid ⟨s,(j,some ⟨e2,A ++ .slc k off len sz::B,row⟩)::(k,some ⟨e,cs,.res R⟩)::bx,X⟩:=⟨fun ι a w hr=>by
 obtain ⟨ρ,H,cap,h1,h2,h3,h4,h5⟩:=hr.fixCell hs hA hB hb hk hjk
 exact (h ρ H cap h1 h2 h3 h4).out ι a w h5⟩
end
end Go.Lg
end
section
namespace Go.Lg
open Go Go.RowKit
section
variable {P:Program} {X:Nat→Option Obj} {pre:List (Nat×Option Box)} {ι:Nat→Nat×Nat} {H:Nat→Nat→Option Obj} {w:World}
theorem lentBox_mem (hM:MemOf X ι H pre w) {k:Nat} {b:Box} (hst:stOf pre k=some (some b)):LentBox (fun i=>w.heap[i]?) b (ι k).1 (ι k).2:=by
 obtain ⟨e,cs,row⟩:=b
 cases row with
 | bool r =>
  obtain ⟨arr,fr,harr,_,hsz,hbr⟩:=hM.boxes k _ hst rfl
  unfold Box.rel at hbr
  cases r with
  | false=>exact ⟨arr,fr,arr.toList,[],harr,hsz,by simp,fun vals e=>by simp only at e hbr;rw [e] at hbr;exact rel_vals hbr⟩
  | true =>
   obtain ⟨us,sp,e,hl⟩:=hbr
   exact ⟨arr,fr,us,sp,harr,hsz,e,fun vals e=>by simp only at e hl;rw [e] at hl;exact rel_vals hl⟩
 | res R=>exact ⟨H k,(hM.res.holds k _ _ _ hst).1,fun i o h=>(hM.res.mem k i o h).2.1⟩
theorem lentC_mem (hM:MemOf X ι H pre w) (ks:List Nat) {c:CV} {u:Value} (hl:lendC (stOf pre) ks c=true) (h:c.rel (stOf pre) ι u):LentC (stOf pre) (fun i=>w.heap[i]?) c u:=by
 cases c with
 | val v=>exact h
 | slc k off len sz =>
  simp only [lendC,Bool.and_eq_true] at hl
  cases hs:stOf pre k with
  | none=>rw [hs] at hl;exact absurd hl.2 (by simp)
  | some x =>
   cases x with
   | none=>rw [hs] at hl;exact absurd hl.2 (by simp)
   | some b =>
    simp only [CV.rel,hs] at h
    obtain ⟨cap,rfl,h3,h4⟩:=h
    exact ⟨b,_,cap,_,hs,rfl,h3,h4,lentBox_mem hM hs⟩
 | ptr _ _=>cases hl
 | mp _=>cases hl
 | fn _ _ _=>cases hl
 | hang _ _ _=>cases hl
 | junk=>cases hl
theorem lentCs_mem (hM:MemOf X ι H pre w) (ks:List Nat):∀ {cs:List CV} {us:List Value},cs.all (lendC (stOf pre) ks)=true→CVs.rel (stOf pre) ι cs us→LentCs (stOf pre) (fun i=>w.heap[i]?) cs us
 | [],[],_,_=>rfl
 | [],_::_,_,h=>h.elim
 | _::_,[],_,h=>h.elim
 | c::l,u::us,hl,h=>by
  simp only [List.all_cons,Bool.and_eq_true] at hl
  exact ⟨u,us,rfl,lentC_mem hM ks hl.1 h.1,lentCs_mem hM ks hl.2 h.2⟩
theorem lentLs_mem (hM:MemOf X ι H pre w) (ks:List Nat):∀ {lvs:List LV} {us:List Value},lvs.all (lendL (stOf pre) ks)=true→LVs.rel (stOf pre) ι lvs us→LentLs (stOf pre) (fun i=>w.heap[i]?) lvs us
 | [],[],_,_=>rfl
 | [],_::_,_,h=>h.elim
 | _::_,[],_,h=>h.elim
 | lv::l,u::us,hl,h=>by
  simp only [List.all_cons,Bool.and_eq_true] at hl
  refine ⟨u,us,rfl,?_,lentLs_mem hM ks hl.2 h.2⟩
  have h1:=h.1
  have h2:=hl.1
  match lv with
  | .sv (.one c)=>exact lentC_mem hM ks h2 h1
  | .sv (.agg cs) =>
   obtain ⟨arr,rfl,hl'⟩:=h1
   exact ⟨arr.toList,by simp,lentCs_mem hM ks h2 hl'⟩
  | .tup _=>cases h2
theorem Box.rel_means {bx:List (Nat×Option Box)} {S:Nat→Option (Option Box)} {κ:Nat→Nat×Nat} (h:∀ k,(look k bx).isSome=true→κ k=ι k) {b:Box} (hu:b.cells.all (CV.inUse bx)=true) {vs:List Value} (hr:b.rel S ι vs):b.rel S κ vs:=by
 unfold Box.rel at hr ⊢
 cases hb:b.row with
 | res R=>rw [hb] at hr;exact hr.elim
 | bool r =>
  cases r with
  | false=>rw [hb] at hr;exact CVs.rel_means h hu hr
  | true =>
   rw [hb] at hr
   obtain ⟨us,sp,e,hl⟩:=hr
   exact ⟨us,sp,e,CVs.rel_means h hu hl⟩
theorem MSpec.lend {f:FuncId} {lvs:List LV} {r:LV} {post:List (Nat×Option Box)} (hent:Program.enters P f=true) (hl:lvs.all (lendL (stOf pre) (pre.map (·.1)))=true)
  (hub:pre.all (fun p=>match p.2 with|some b=>b.cells.all (CV.inUse pre)|none=>true)=true) (hup:post.all (fun p=>match p.2 with|some b=>b.cells.all (CV.inUse post)|none=>true)=true) (hur:r.inUse post=true) (hdis:post.all (fun p=>(look p.1 pre).isNone)=true)
  (hs:∀ (Y:Nat→Option Obj) (us:List Value),(∀ b o,X b=some o→Y b=some o)→LentLs (stOf pre) Y lvs us→MSpec P Y f (us.map toLV) [] r post):MSpec P X f lvs pre r (pre++post):=by
 refine ⟨hent,fun w vals ι H hM hargs => ?_⟩
 have hlent:=lentLs_mem hM (pre.map (·.1)) hl hargs
 have hM0:MemOf (fun b=>w.heap[b]?) (fun _=>(0,0)) (fun _ _=>none) [] w:=⟨fun k b h=>(by cases h),fun k b h=>(by cases h),fun k k' b b' h=>(by cases h),fun b o h=>h,⟨fun k e cs R h=>(by cases h),fun k b o h=>(by cases h),fun k k' b h=>absurd rfl h⟩⟩
 have hc:=(hs _ _ hM.ext hlent).out w vals (fun _=>(0,0)) (fun _ _=>none) hM0 (args_rel _)
 refine hc.mono ?_
 rintro e w' ⟨v,ι',H',rfl,hv,hM',hP⟩
 have hno:∀ b,¬ LentB [] (fun _=>(0,0)) (fun _ _=>none) b:=fun b h=>by
  rcases h with ⟨k,b0,h,_⟩|⟨k,h⟩
  ·cases h
  ·exact h rfl
 have hst:∀ k,stOf (pre++post) k=(look k pre).or (look k post):=fun k=>look_append _ _ _
 have hp1:∀ k x,look k pre=some x→stOf (pre++post) k=some x:=fun k x h=>by rw [hst,h];rfl
 have hdj:∀ k x,look k post=some x→look k pre=none:=fun k x h=>by
  have:=List.all_eq_true.1 hdis _ (look_mem h)
  simpa using this
 have hp2:∀ k x,look k post=some x→stOf (pre++post) k=some x:=fun k x h=>by rw [hst,hdj k x h,h];rfl
 have hback:∀ k x,stOf (pre++post) k=some x→look k pre=some x∨(look k pre=none∧look k post=some x):=fun k x h=>by
  rw [hst] at h
  cases hp:look k pre with
  | none=>rw [hp] at h;exact .inr ⟨rfl,h⟩
  | some y=>rw [hp] at h;exact .inl h
 have hgrow:∀ b o,w.heap[b]? = some o→w'.heap[b]? = some o:=fun b o h=>hM'.ext b o h
 have hin:∀ k b,look k pre=some (some b)→∃ o,w.heap[(ι k).1]? = some o:=fun k b h=>by
  cases hb:b.blk with
  | true =>
   obtain ⟨arr,fr,h1,_⟩:=hM.boxes k b h hb
   exact ⟨_,h1⟩
  | false =>
   obtain ⟨e,cs,R,rfl⟩:=Box.res_of hb
   have h1:=(hM.res.holds k _ _ _ h).2
   cases ho:H k (ι k).1 with
   | none=>exact absurd ho h1
   | some o=>exact ⟨o,(hM.res.mem k _ o ho).2.1⟩
 have hout:∀ k b,look k post=some (some b)→w.heap[(ι' k).1]? = none:=fun k b h=>hM'.apart k b h
 have hX:∀ b,w.heap[b]? = none→X b=none:=fun b h=>by
  cases hx:X b with
  | none=>rfl
  | some o=>rw [hM.ext b o hx] at h;cases h
 generalize hκ:(fun k=>if (look k pre).isSome=true then ι k else ι' k)=κ
 generalize hG:(fun k=>if (look k pre).isSome=true then H k else H' k)=G
 have k1:∀ k x,look k pre=some x→κ k=ι k:=fun k x h=>by rw [← hκ];exact if_pos (by rw [h];rfl)
 have k2:∀ k,look k pre=none→κ k=ι' k:=fun k h=>by rw [← hκ];exact if_neg (by rw [h];decide)
 have g1:∀ k x,look k pre=some x→G k=H k:=fun k x h=>by rw [← hG];exact if_pos (by rw [h];rfl)
 have g2:∀ k,look k pre=none→G k=H' k:=fun k h=>by rw [← hG];exact if_neg (by rw [h];decide)
 have on1:SameOn pre (stOf pre) (stOf (pre++post)):=fun k x h=>h.trans (hp1 k x h).symm
 have on2:SameOn post (stOf post) (stOf (pre++post)):=fun k x h=>h.trans (hp2 k x h).symm
 have mn1:∀ k,(look k pre).isSome=true→κ k=ι k:=fun k h=>by
  obtain ⟨x,hx⟩:=Option.isSome_iff_exists.1 h
  exact k1 k x hx
 have mn2:∀ k,(look k post).isSome=true→κ k=ι' k:=fun k h=>by
  obtain ⟨x,hx⟩:=Option.isSome_iff_exists.1 h
  exact k2 k (hdj k x hx)
 have hcp:∀ k b,look k pre=some (some b)→b.cells.all (CV.inUse pre)=true:=fun k b h=>by simpa using List.all_eq_true.1 hub _ (look_mem h)
 have hcq:∀ k b,look k post=some (some b)→b.cells.all (CV.inUse post)=true:=fun k b h=>by simpa using List.all_eq_true.1 hup _ (look_mem h)
 have hHin:∀ k b,H k b≠none→(∃ x,look k pre=some x)∧∃ o,w.heap[b]? = some o:=fun k b h=>by
  cases ho:H k b with
  | none=>exact absurd ho h
  | some o =>
   obtain ⟨⟨_,_,_,h1⟩,h2,_⟩:=hM.res.mem k b o ho
   exact ⟨⟨_,h1⟩,o,h2⟩
 have hHout:∀ k b,H' k b≠none→w.heap[b]? = none:=fun k b h=>by
  cases ho:H' k b with
  | none=>exact absurd ho h
  | some o=>exact (hM'.res.mem k b o ho).2.2.2.2.1
 refine ⟨v,κ,G,rfl,LV.rel_means mn2 hur (LV.rel_on on2 hur hv),?_,?_⟩
 ·refine ⟨fun k b hk hb => ?_,fun k b hk => ?_,fun k k' b b' hk hk' he => ?_,fun b o hb=>hgrow b o (hM.ext b o hb),?_⟩
  ·rcases hback k _ hk with h|⟨h,h'⟩
   ·obtain ⟨arr,fr,q1,q2,q3,q4⟩:=hM.boxes k b h hb
    rw [k1 k _ h]
    exact ⟨arr,fr,hgrow _ _ q1,q2,q3,Box.rel_means mn1 (hcp k b h) (Box.rel_on on1 (hcp k b h) q4)⟩
   ·obtain ⟨arr,fr,q1,q2,q3,q4⟩:=hM'.boxes k b h' hb
    rw [k2 k h]
    exact ⟨arr,fr,q1,q2,q3,Box.rel_means mn2 (hcq k b h') (Box.rel_on on2 (hcq k b h') q4)⟩
  ·rcases hback k _ hk with h|⟨h,h'⟩
   ·rw [k1 k _ h];exact hM.apart k b h
   ·rw [k2 k h];exact hX _ (hout k b h')
  ·rcases hback k _ hk with h|⟨h,h'⟩
   ·rcases hback k' _ hk' with i|⟨i,i'⟩
    ·rw [k1 k _ h,k1 k' _ i] at he
     exact hM.inj k k' b b' h i he
    ·rw [k1 k _ h,k2 k' i] at he
     obtain ⟨o,ho⟩:=hin k b h
     rw [he,hout k' b' i'] at ho
     cases ho
   ·rcases hback k' _ hk' with i|⟨i,i'⟩
    ·rw [k2 k h,k1 k' _ i] at he
     obtain ⟨o,ho⟩:=hin k' b' i
     rw [← he,hout k b h'] at ho
     cases ho
    ·rw [k2 k h,k2 k' i] at he
     exact hM'.inj k k' b b' h' i' he
  ·refine ⟨fun k e cs R hk => ?_,fun k b o ho => ?_,fun k k' b q1 q2 => ?_⟩
   ·rcases hback k _ hk with h|⟨h,h'⟩
    ·rw [k1 k _ h,g1 k _ h];exact hM.res.holds k e cs R h
    ·rw [k2 k h,g2 k h];exact hM'.res.holds k e cs R h'
   ·cases h:look k pre with
    | some x =>
     rw [g1 k x h] at ho
     obtain ⟨⟨e1,cs1,R1,q0⟩,q1,q2,q3,q4,q5⟩:=hM.res.mem k b o ho
     refine ⟨⟨e1,cs1,R1,hp1 k _ q0⟩,hgrow _ _ q1,q2,trivial,q4,fun j bj hj e2 => ?_⟩
     rcases hback j _ hj with i|⟨i,i'⟩
     ·rw [k1 j _ i] at e2;exact q5 j bj i e2
     ·rw [k2 j i] at e2
      have:=hout j bj i'
      rw [e2,q1] at this
      cases this
    | none =>
     rw [g2 k h] at ho
     obtain ⟨⟨e1,cs1,R1,q0⟩,q1,q2,q3,q4,q5⟩:=hM'.res.mem k b o ho
     refine ⟨⟨e1,cs1,R1,hp2 k _ q0⟩,q1,q2,trivial,hX b q4,fun j bj hj e2 => ?_⟩
     rcases hback j _ hj with i|⟨i,i'⟩
     ·rw [k1 j _ i] at e2
      obtain ⟨o2,ho2⟩:=hin j bj i
      rw [e2] at ho2
      rw [show w.heap[b]? = none from q4] at ho2
      cases ho2
     ·rw [k2 j i] at e2;exact q5 j bj i' e2
   ·cases h:look k pre with
    | some x =>
     rw [g1 k x h] at q1
     cases h2:look k' pre with
     | some y=>rw [g1 k' y h2] at q2;exact hM.res.apart k k' b q1 q2
     | none =>
      rw [g2 k' h2] at q2
      obtain ⟨_,o,ho⟩:=hHin k b q1
      rw [hHout k' b q2] at ho
      cases ho
    | none =>
     rw [g2 k h] at q1
     cases h2:look k' pre with
     | some y =>
      rw [g1 k' y h2] at q2
      obtain ⟨_,o,ho⟩:=hHin k' b q2
      rw [hHout k b q1] at ho
      cases ho
     | none=>rw [g2 k' h2] at q2;exact hM'.res.apart k k' b q1 q2
 ·refine ⟨fun k b hk hn => ?_,fun k b hk hn => ?_,fun k b h => ?_,fun b hb _=>hP.frame b hb (hno b),hP.big,hP.os,hP.tape,hP.output⟩
  ·rcases hback k _ hk with h|⟨h,_⟩
   ·exact ⟨⟨b,h⟩,k1 k _ h⟩
   ·exact absurd h hn
  ·rcases hback k _ hk with h|⟨h,h'⟩
   ·have h2:look k pre=none:=hn
    rw [h] at h2;cases h2
   ·rw [k2 k h]
    rcases hP.new k b h' rfl with q|q
    ·exact .inl q
    ·exact absurd q (hno _)
  ·cases hp:look k pre with
   | some x=>rw [g1 k x hp] at h;exact .inr (.inr ⟨k,h⟩)
   | none =>
    rw [g2 k hp] at h
    rcases hP.newH k b h with q|q
    ·exact .inl q
    ·exact absurd q (hno _)
end
end Go.Lg
end
section
namespace Go.Lg
open Go Go.RowKit
section
variable {P:Program} {n:Nat} {ops os:List Oper} {acc:List Eff} {K:List Eff→St→Prop} {s:List (Nat×LV)} {bx:List (Nat×Option Box)} {X:Nat→Option Obj} {σ:St}
structure MadeOf (P:Program) (t:TypeId) (e:TypeId) (sz bytes:Nat) (z:List Value):Prop where
 under:P.underlying t=some (.slice e)
 info:(P.info? e).map (fun i=>(i.size,i.zero.map (fun z=>z.cells),i.bytes))=some (sz,some z.toArray,bytes)
 len:z.length=sz
end
end Go.Lg
end
section
namespace Go.Lg
open Go
def RowsIn (X:Nat→Option Obj) (ad:Option Addr) (sz:Nat) (rows:List (List Value)):Prop:=
 ∀ i r,rows[i]? = some r→∃ (blk off:Nat) (arr:Array Value) (el:TypeId) (fr:Nat×Nat),ad=some ⟨blk,off,none⟩∧X blk=some (.cells arr el fr)∧off+i*sz+sz≤arr.size∧(arr.toList.drop (off+i*sz)).take sz=r
theorem RowsIn.mono {X Y:Nat→Option Obj} {ad:Option Addr} {sz:Nat} {rows:List (List Value)} (h:RowsIn X ad sz rows) (hm:∀ b o,X b=some o→Y b=some o):RowsIn Y ad sz rows:=fun i r hi=>by
 obtain ⟨blk,off,arr,el,fr,h1,h2,h3,h4⟩:=h i r hi
 exact ⟨blk,off,arr,el,fr,h1,hm _ _ h2,h3,h4⟩
theorem flat_row {sz:Nat}:∀ {rows:List (List Value)} (_:∀ r∈rows,r.length=sz) {sp:List Value} {i:Nat} {r:List Value} (_:rows[i]? = some r),i*sz+sz≤(rows.flatten++sp).length∧((rows.flatten++sp).drop (i*sz)).take sz=r
 | [],_,_,i,r,h=>by simp at h
 | r0::rows,hl,sp,0,r,h=>by
  simp only [List.getElem?_cons_zero,Option.some.injEq] at h
  subst h
  have h0:=hl r0 (by simp)
  simp only [List.flatten_cons,List.append_assoc,List.length_append,Nat.zero_mul,List.drop_zero]
  refine ⟨by omega,?_⟩
  rw [← h0,List.take_left]
 | r0::rows,hl,sp,i+1,r,h=>by
  have h0:=hl r0 (by simp)
  obtain ⟨h1,h2⟩:=flat_row (rows:=rows) (fun x hx=>hl x (by simp [hx])) (sp:=sp) (i:=i) (r:=r) (by simpa using h)
  simp only [List.flatten_cons,List.append_assoc,List.length_append] at h1 ⊢
  have e:(i+1)*sz=i*sz+sz:=by rw [Nat.add_mul,Nat.one_mul]
  refine ⟨by omega,?_⟩
  rw [e,Nat.add_comm,← List.drop_drop,← h0,List.drop_left,h0]
  exact h2
end Go.Lg
namespace Go.Lg.Fld
open Go Go.Lg
end Go.Lg.Fld
end
section
namespace Go.Lg
open Go Go.RowKit
section
variable {P:Program} {n:Nat} {ops os:List Oper} {acc:List Eff} {K:List Eff→St→Prop} {s:List (Nat×LV)} {bx:List (Nat×Option Box)} {X:Nat→Option Obj}
theorem kmv {d:Nat} {x:Operand} {ty:TypeId} {pos:String} {after:Array Edge} {lv:LV} (hx:(⟨s,bx,X⟩:St).ev x=some lv) (kont:RunK P n ops os ⟨(d,lv)::s,bx,X⟩ (⟨[(d,lv)],[],[]⟩::acc) K):
  RunK P n ops (⟨some d,.move x,ty,pos,after,none⟩::os) ⟨s,bx,X⟩ acc K:=Go.Lg.K.move hx .plain kont
theorem gmv {d:Nat} {x:Operand} {ty:TypeId} {pos:String} {after:Array Edge} {lv:LV} (hx:(⟨s,bx,X⟩:St).ev x=some lv) {gj gt:Nat} {gb:Bool} (g1:(ops[gj]?).bind (·.dst)=some gt) (g2:look gt s=some (.sv (.one (.val (.bool gb))))) (kont:RunK P n ops os ⟨(d,lv)::s,bx,X⟩ (⟨[(d,lv)],[],[]⟩::acc) K):
  RunK P n ops (⟨some d,.move x,ty,pos,after,some (gj,gb)⟩::os) ⟨s,bx,X⟩ acc K:=Go.Lg.K.move hx (.taken g1 g2) kont
theorem kas {d:Nat} {x:Operand} {ty:TypeId} {pos:String} {after:Array Edge} {lv:LV} (hx:(⟨s,bx,X⟩:St).ev x=some lv) (kont:RunK P n ops os ⟨(d,lv)::s,bx,X⟩ (⟨[(d,lv)],[],[]⟩::acc) K):
  RunK P n ops (⟨some d,.assign x,ty,pos,after,none⟩::os) ⟨s,bx,X⟩ acc K:=Go.Lg.K.assign hx .plain kont
theorem kpt {d:Nat} {c x y:Operand} {ty:TypeId} {pos:String} {after:Array Edge} {lv:LV} (hc:(⟨s,bx,X⟩:St).ev c=some (.sv (.one (.val (.bool true))))) (hx:(⟨s,bx,X⟩:St).ev x=some lv) (kont:RunK P n ops os ⟨(d,lv)::s,bx,X⟩ (⟨[(d,lv)],[],[]⟩::acc) K):
  RunK P n ops (⟨some d,.pick c x y,ty,pos,after,none⟩::os) ⟨s,bx,X⟩ acc K:=Go.Lg.K.pickT hc hx .plain kont
theorem kpf {d:Nat} {c x y:Operand} {ty:TypeId} {pos:String} {after:Array Edge} {lv:LV} (hc:(⟨s,bx,X⟩:St).ev c=some (.sv (.one (.val (.bool false))))) (hy:(⟨s,bx,X⟩:St).ev y=some lv) (kont:RunK P n ops os ⟨(d,lv)::s,bx,X⟩ (⟨[(d,lv)],[],[]⟩::acc) K):
  RunK P n ops (⟨some d,.pick c x y,ty,pos,after,none⟩::os) ⟨s,bx,X⟩ acc K:=Go.Lg.K.pickF hc hy .plain kont
theorem kex {s0:List (Nat×LV)} {d:Nat} {x:Operand} {i:Nat} {ty:TypeId} {pos:String} {after:Array Edge} {l:List SV} {s:SV} (hx:(⟨s0,bx,X⟩:St).ev x=some (.tup l)) (hi:l[i]? = some s) (kont:RunK P n ops os ⟨(d,.sv s)::s0,bx,X⟩ (⟨[(d,.sv s)],[],[]⟩::acc) K):
  RunK P n ops (⟨some d,.extract x i,ty,pos,after,none⟩::os) ⟨s0,bx,X⟩ acc K:=Go.Lg.K.extract hx hi .plain kont
theorem kad {d:Nat} {t:TypeId} {t':TypeId} {x:Operand} {y:Operand} {ty:TypeId} {pos:String} {after:Array Edge} {k:IntKind} {a:Int} {b:Int} {c:Int} (hx:(⟨s,bx,X⟩:St).ev x=some (.sv (.one (.val (.int k a))))) (hy:(⟨s,bx,X⟩:St).ev y=some (.sv (.one (.val (.int k b))))) (hc:k.wrap (a+b)=c) (kont:RunK P n ops os ⟨(d,.sv (.one (.val (.int k c))))::s,bx,X⟩ (⟨[(d,.sv (.one (.val (.int k c))))],[],[]⟩::acc) K):
  RunK P n ops (⟨some d,.binOp .add t x y t',ty,pos,after,none⟩::os) ⟨s,bx,X⟩ acc K:=Go.Lg.K.add hx hy hc .plain kont
theorem keq {d:Nat} {t:TypeId} {t':TypeId} {x:Operand} {y:Operand} {ty:TypeId} {pos:String} {after:Array Edge} {k:IntKind} {a:Int} {b:Int} {r:Bool} (hx:(⟨s,bx,X⟩:St).ev x=some (.sv (.one (.val (.int k a))))) (hy:(⟨s,bx,X⟩:St).ev y=some (.sv (.one (.val (.int k b))))) (hc:(a==b)=r) (kont:RunK P n ops os ⟨(d,.sv (.one (.val (.bool r))))::s,bx,X⟩ (⟨[(d,.sv (.one (.val (.bool r))))],[],[]⟩::acc) K):
  RunK P n ops (⟨some d,.binOp .eql t x y t',ty,pos,after,none⟩::os) ⟨s,bx,X⟩ acc K:=Go.Lg.K.eql hx hy hc .plain kont
theorem kne {d:Nat} {t:TypeId} {t':TypeId} {x:Operand} {y:Operand} {ty:TypeId} {pos:String} {after:Array Edge} {k:IntKind} {a:Int} {b:Int} {r:Bool} (hx:(⟨s,bx,X⟩:St).ev x=some (.sv (.one (.val (.int k a))))) (hy:(⟨s,bx,X⟩:St).ev y=some (.sv (.one (.val (.int k b))))) (hc:(a != b)=r) (kont:RunK P n ops os ⟨(d,.sv (.one (.val (.bool r))))::s,bx,X⟩ (⟨[(d,.sv (.one (.val (.bool r))))],[],[]⟩::acc) K):
  RunK P n ops (⟨some d,.binOp .neq t x y t',ty,pos,after,none⟩::os) ⟨s,bx,X⟩ acc K:=Go.Lg.K.neq hx hy hc .plain kont
theorem klt {d:Nat} {t:TypeId} {t':TypeId} {x:Operand} {y:Operand} {ty:TypeId} {pos:String} {after:Array Edge} {k:IntKind} {a:Int} {b:Int} {r:Bool} (hx:(⟨s,bx,X⟩:St).ev x=some (.sv (.one (.val (.int k a))))) (hy:(⟨s,bx,X⟩:St).ev y=some (.sv (.one (.val (.int k b))))) (hc:decide (a<b)=r) (kont:RunK P n ops os ⟨(d,.sv (.one (.val (.bool r))))::s,bx,X⟩ (⟨[(d,.sv (.one (.val (.bool r))))],[],[]⟩::acc) K):
  RunK P n ops (⟨some d,.binOp .lss t x y t',ty,pos,after,none⟩::os) ⟨s,bx,X⟩ acc K:=Go.Lg.K.lss hx hy hc .plain kont
theorem kse {d:Nat} {t:TypeId} {t':TypeId} {x:Operand} {y:Operand} {ty:TypeId} {pos:String} {after:Array Edge} {r:Bool} {p q:ByteArray} (hx:(⟨s,bx,X⟩:St).ev x=some (.sv (.one (.val (.string p))))) (hy:(⟨s,bx,X⟩:St).ev y=some (.sv (.one (.val (.string q))))) (hc:(p.toList==q.toList)=r) (kont:RunK P n ops os ⟨(d,.sv (.one (.val (.bool r))))::s,bx,X⟩ (⟨[(d,.sv (.one (.val (.bool r))))],[],[]⟩::acc) K):
  RunK P n ops (⟨some d,.binOp .eql t x y t',ty,pos,after,none⟩::os) ⟨s,bx,X⟩ acc K:=Go.Lg.K.strEq hx hy hc .plain kont
theorem kca {d:Nat} {f:FuncId} {args:List Operand} {tys:Array TypeId} {ty:TypeId} {pos:String} {after:Array Edge} {lvs:List LV} {r:LV} (hargs:evs ⟨s,bx,X⟩ args=some lvs) (hcl:lvs.all LV.closed=true) (hs:PSpec P X f lvs r) (kont:RunK P n ops os ⟨(d,r)::s,bx,X⟩ (⟨[(d,r)],[],[]⟩::acc) K):
  RunK P n ops (⟨some d,.call ⟨.value (.func f),args.toArray,tys⟩,ty,pos,after,none⟩::os) ⟨s,bx,X⟩ acc K:=Go.Lg.K.call hargs hcl hs .plain kont
theorem gca {d:Nat} {f:FuncId} {args:List Operand} {tys:Array TypeId} {ty:TypeId} {pos:String} {after:Array Edge} {lvs:List LV} {r:LV} (hargs:evs ⟨s,bx,X⟩ args=some lvs) (hcl:lvs.all LV.closed=true) (hs:PSpec P X f lvs r) {gj gt:Nat} {gb:Bool} (g1:(ops[gj]?).bind (·.dst)=some gt) (g2:look gt s=some (.sv (.one (.val (.bool gb))))) (kont:RunK P n ops os ⟨(d,r)::s,bx,X⟩ (⟨[(d,r)],[],[]⟩::acc) K):
  RunK P n ops (⟨some d,.call ⟨.value (.func f),args.toArray,tys⟩,ty,pos,after,some (gj,gb)⟩::os) ⟨s,bx,X⟩ acc K:=Go.Lg.K.call hargs hcl hs (.taken g1 g2) kont
theorem kl1 {d:Nat} {t:TypeId} {x:Operand} {ty:TypeId} {pos:String} {after:Array Edge} {k off:Nat} {e:TypeId} {cs:List CV} {row:Bool} {c:CV} [i:OneT P t] (hx:(⟨s,bx,X⟩:St).ev x=some (.sv (.one (.ptr k off)))) (hk:(⟨s,bx,X⟩:St).stat k=some (some ⟨e,cs,row⟩)) (hc:cs[off]? = some c) (kont:RunK P n ops os ⟨(d,.sv (.one c))::s,bx,X⟩ (⟨[(d,.sv (.one c))],[k],[]⟩::acc) K):
  RunK P n ops (⟨some d,.load t x,ty,pos,after,none⟩::os) ⟨s,bx,X⟩ acc K:=Go.Lg.K.loadOne hx hk hc .plain kont
theorem kfa {d:Nat} {t:TypeId} {x:Operand} {ty:TypeId} {pos:String} {after:Array Edge} {i k off o m:Nat} [f:FieldT P t i o m] (hx:(⟨s,bx,X⟩:St).ev x=some (.sv (.one (.ptr k off)))) {off':Nat} (ho:Nat.add off o=off') (kont:RunK P n ops os ⟨(d,.sv (.one (.ptr k off')))::s,bx,X⟩ (⟨[(d,.sv (.one (.ptr k off')))],[],[]⟩::acc) K):
  RunK P n ops (⟨some d,.fieldAddr t x i,ty,pos,after,none⟩::os) ⟨s,bx,X⟩ acc K:=Go.Lg.K.fieldAddr hx ho .plain kont
theorem kln {d:Nat} {t:TypeId} {x:Operand} {ty:TypeId} {pos:String} {after:Array Edge} {s0:List (Nat×LV)} {s:ByteArray} [StrT P t] (hx:(⟨s0,bx,X⟩:St).ev x=some (.sv (.one (.val (.string s))))) (kont:RunK P n ops os ⟨(d,.sv (.one (.val (.int .i64 s.size))))::s0,bx,X⟩ (⟨[(d,.sv (.one (.val (.int .i64 s.size))))],[],[]⟩::acc) K):
  RunK P n ops (⟨some d,.call ⟨.builtin .len,#[x],#[t]⟩,ty,pos,after,none⟩::os) ⟨s0,bx,X⟩ acc K:=Go.Lg.K.lenStr hx .plain kont
theorem kcv {d:Nat} {t:TypeId} {t':TypeId} {x:Operand} {ty:TypeId} {pos:String} {after:Array Edge} {k k':IntKind} {a c:Int} {ks:IntKind} [i:IntT P t ks] [i':IntT P t' k'] (hx:(⟨s,bx,X⟩:St).ev x=some (.sv (.one (.val (.int k a))))) (hc:k'.wrap a=c) (kont:RunK P n ops os ⟨(d,.sv (.one (.val (.int k' c))))::s,bx,X⟩ (⟨[(d,.sv (.one (.val (.int k' c))))],[],[]⟩::acc) K):
  RunK P n ops (⟨some d,.convert t t' x,ty,pos,after,none⟩::os) ⟨s,bx,X⟩ acc K:=Go.Lg.K.conv hx hc .plain kont
end
section
variable {P:Program} {n:Nat} {C:Ctx} {Q:Exit→St→Prop} {σ:St} {id:Nat} {ops:List Oper}
theorem rgN (h:RunK P n ops ops σ [] fun _ σ'=>Q .normal σ') (hd:dstsOK n ops=true:=by kernel_rfl):LWP P n C (.region id ops.toArray false) Q σ:=LWP.region hd h
theorem rgD (hm:P.follows .mixedOrders=true) (h:RunK P n ops ops σ [] fun es σ'=>check ops es=true∧Q .normal σ') (hd:dstsOK n ops=true:=by kernel_rfl):LWP P n C (.region id ops.toArray true) Q σ:=LWP.draws hm hd h
theorem rgA {a b:Prop} (h:b) (ha:a:=by kernel_rfl):a∧b:=⟨ha,h⟩
end
end Go.Lg
end
section
namespace Go.Lg
open Go Go.RowKit
structure Wr (B:Prop):Prop where w:B
theorem wg {α:Type} {l:List α} {i:Nat} (h:i<l.length):∃ x,l[i]? = some x:=⟨_,List.getElem?_eq_getElem h⟩
theorem wl {α:Type} {l:List α} {i:Nat} {x:α} (h:l[i]? = some x):i<l.length:=(List.getElem?_eq_some_iff.1 h).1
theorem wo (o i k:Nat):o+Int.toNat (i:Int)*k=o+i*k:=by simp
theorem wi (i:Nat) (h:i<9223372036854775807):IntKind.i64.wrap (((i:Nat):Int)+1)=((i+1:Nat):Int):=by rw [wrap_i64 (by omega)];omega
theorem st {A B:Prop} (k:B) (h:B→A:=by first
  | exact fun k=>LWP.seq k
  | exact fun k=>RunK.nil k
  | exact fun k=>rgN k
  | exact fun k=>kmv rfl k
  | exact fun k=>kas rfl k
  | exact fun k=>RunK.passed rfl rfl rfl k
  | exact fun k=>kfa rfl rfl k
  | exact fun k=>kl1 rfl rfl rfl k
  | exact fun k=>LWP.condF rfl k
  | exact fun k=>LWP.skip k
  | exact fun k=>LWP.ret k
  | exact fun k=>LWP.condT rfl k
  | exact fun k=>K.loadAll rfl rfl rfl .plain k
  | exact fun k=>K.box rfl rfl rfl .plain k
  | exact fun k=>K.storeAll rfl rfl rfl rfl rfl rfl .plain k
  | exact fun k=>kca rfl rfl (by assumption) k
  | exact fun k=>K.alloc rfl .plain k
  | exact fun k=>gmv rfl rfl rfl k
  | exact fun k=>LWP.block k
  | exact fun k=>kpf rfl rfl k
  | exact fun k=>kex rfl rfl k
  | exact fun k=>K.fieldAddr rfl rfl (.taken rfl rfl) k
  | exact fun k=>K.loadOne rfl rfl rfl (.taken rfl rfl) k
  | exact fun k=>kpt rfl rfl k
  | exact fun k=>K.indexX rfl rfl SliceT.h (by omega) (by assumption) .plain k
  | exact fun k=>K.lenX rfl SliceT.h rfl .plain k
  | exact fun k=>RunK.passedU rfl rfl k
  | exact fun k=>K.loadXagg rfl (by assumption) (by kernel_rfl) (by assumption) (by assumption) .plain k
  | exact fun k=>klt rfl rfl (decide_eq_true (by omega)) k
  | exact fun k=>K.not rfl rfl .plain k
  | exact fun k=>K.loadX rfl (by assumption) rfl (by assumption) .plain k
  | exact fun k=>klt rfl rfl (decide_eq_false (by omega)) k
  | exact fun k=>rgA k
  | exact fun k=>LWP.exit k
  | exact fun k=>K.fieldAddrX rfl rfl .plain k
  | exact fun k=>keq rfl rfl (beq_eq_false_iff_ne.2 (by omega)) k
  | exact fun k=>K.build rfl rfl (by exact rfl) (by exact nl3 rfl rfl rfl rfl) .plain k
  | exact fun k=>kad rfl rfl (by assumption) k
  | exact fun k=>K.indexX rfl rfl SliceT.h (by assumption) (by assumption) .plain k
  | exact fun k=>gca rfl rfl (by assumption) rfl rfl k
  | exact fun k=>K.not rfl rfl (.taken rfl rfl) k
  | exact fun k=>K.pickT rfl rfl (.taken rfl rfl) k
  | exact fun k=>kne rfl rfl (r:=false) rfl k
  | exact fun k=>keq rfl rfl (r:=false) rfl k
  | exact fun k=>K.gtr rfl rfl (decide_eq_false (by omega)) (.taken rfl rfl) k
  | exact fun k=>kad rfl rfl (wrap_i64 (by omega)) k
  | exact fun k=>K.pickF rfl rfl (.taken rfl rfl) k
  | exact fun k=>K.loadAll rfl rfl rfl (.taken rfl rfl) k
  | exact fun k=>K.indexArr rfl rfl (by omega) rfl .plain k
  | exact fun k=>K.lenX rfl SliceT.h rfl (.taken rfl rfl) k
  | exact fun k=>keq rfl rfl (r:=true) rfl k
  | exact fun k=>K.geq rfl rfl (decide_eq_false (by omega)) .plain k
  | exact fun k=>K.geq rfl rfl (decide_eq_true (by omega)) .plain k
  | exact fun k=>kne rfl rfl ((bne_eq_false_iff_eq.2 (by omega))) k
  | exact fun k=>K.gtr rfl rfl (decide_eq_true (by omega)) (.taken rfl rfl) k
  | exact fun k=>keq rfl rfl (beq_iff_eq.2 (by omega)) k
  | exact fun k=>K.lss rfl rfl (decide_eq_false (by omega)) (.taken rfl rfl) k
  | exact fun k=>K.build rfl rfl (by exact rfl) (by exact nl2 rfl rfl rfl) .plain k
  | exact fun k=>K.gtr rfl rfl (decide_eq_false (by omega)) .plain k
  | exact fun k=>kln rfl k
  | exact fun k=>K.build rfl rfl (by exact rfl) (by exact nl6 rfl rfl rfl rfl rfl rfl rfl) .plain k
  | exact fun k=>K.geq rfl rfl (r:=true) rfl .plain k
  | exact fun k=>K.leq rfl rfl (r:=false) rfl (.taken rfl rfl) k
  | exact fun k=>K.nilCheck rfl .plain k
  | exact fun k=>K.lenSlc rfl SliceT.h rfl .plain k
  | exact fun k=>K.loadPart rfl rfl rfl (by exact nl3 rfl rfl rfl rfl) (.taken rfl rfl) k
  | exact fun k=>K.gtr rfl rfl (decide_eq_true (by omega)) .plain k
  | exact fun k=>K.indexSlc rfl rfl (by omega) (by assumption) .plain k
  | exact fun k=>K.loadX rfl (by assumption) rfl (by assumption) (.taken rfl rfl) k
  | exact fun k=>K.indexX rfl rfl SliceT.h (by omega) (by assumption) (.taken rfl rfl) k
  | exact fun k=>K.fieldAddrX rfl rfl (.taken rfl rfl) k
  | exact fun k=>K.sub rfl rfl (by assumption) .plain k
  | exact fun k=>kne rfl rfl (bne_iff_ne.2 (by omega)) k
  | exact fun k=>K.build rfl rfl (by exact rfl) (by exact nl3 rfl rfl rfl rfl) (.taken rfl rfl) k
  | exact fun k=>K.eql rfl rfl (by assumption) (.taken rfl rfl) k
  | exact fun k=>K.sub rfl rfl (wrap_u64 (by omega)) .plain k
  | exact fun k=>K.indexStr rfl rfl (by omega) (by assumption) .plain k
  | exact fun k=>K.eql rfl rfl (beq_iff_eq.2 (by omega)) (.taken rfl rfl) k
  | exact fun k=>K.build rfl rfl (by exact rfl) (by exact rfl) .plain k
  | exact fun k=>kcv rfl (by assumption) k
  | exact fun k=>K.storeOne rfl rfl rfl rfl rfl (nl3 rfl rfl rfl rfl) .plain k
  | exact fun k=>K.eql rfl rfl (beq_eq_false_iff_ne.2 (by omega)) (.taken rfl rfl) k
  | exact fun k=>K.neq rfl rfl (bne_iff_ne.2 hno2) (.taken rfl rfl) k
  | exact fun k=>K.box1 rfl rfl rfl .plain k
  | exact fun k=>K.eql rfl rfl (r:=true) rfl (.taken rfl rfl) k
  | exact fun k=>K.indexX rfl rfl SliceT.h (by assumption) (by assumption) (.taken rfl rfl) k
  | exact fun k=>K.geq rfl rfl (decide_eq_false (by omega)) (.taken rfl rfl) k
  | exact fun k=>K.loadXagg rfl (by assumption) (by kernel_rfl) (by assumption) (by assumption) (.taken rfl rfl) k
  | exact fun k=>keq rfl rfl (r:=false) (beq_eq_false_iff_ne.2 (by omega)) k
  | exact fun k=>K.leq rfl rfl (decide_eq_false (by omega)) .plain k
  | exact fun k=>K.mul rfl rfl (wrap_u64 (by omega)) (.taken rfl rfl) k
  | exact fun k=>kne rfl rfl (r:=true) (bne_iff_ne.2 (by omega)) k):A:=h k
theorem g1 {A B:Prop} (k:B) (h:Wr B→A:=by (intro q;iterate 1 refine st ?_);exact q.w):A:=h ⟨k⟩
theorem g2 {A B:Prop} (k:B) (h:Wr B→A:=by (intro q;iterate 2 refine st ?_);exact q.w):A:=h ⟨k⟩
theorem g3 {A B:Prop} (k:B) (h:Wr B→A:=by (intro q;iterate 3 refine st ?_);exact q.w):A:=h ⟨k⟩
theorem g4 {A B:Prop} (k:B) (h:Wr B→A:=by (intro q;iterate 4 refine st ?_);exact q.w):A:=h ⟨k⟩
theorem g5 {A B:Prop} (k:B) (h:Wr B→A:=by (intro q;iterate 5 refine st ?_);exact q.w):A:=h ⟨k⟩
theorem g6 {A B:Prop} (k:B) (h:Wr B→A:=by (intro q;iterate 6 refine st ?_);exact q.w):A:=h ⟨k⟩
theorem g7 {A B:Prop} (k:B) (h:Wr B→A:=by (intro q;iterate 7 refine st ?_);exact q.w):A:=h ⟨k⟩
theorem g8 {A B:Prop} (k:B) (h:Wr B→A:=by (intro q;iterate 8 refine st ?_);exact q.w):A:=h ⟨k⟩
theorem g9 {A B:Prop} (k:B) (h:Wr B→A:=by (intro q;iterate 9 refine st ?_);exact q.w):A:=h ⟨k⟩
theorem g10 {A B:Prop} (k:B) (h:Wr B→A:=by (intro q;iterate 10 refine st ?_);exact q.w):A:=h ⟨k⟩
theorem g11 {A B:Prop} (k:B) (h:Wr B→A:=by (intro q;iterate 11 refine st ?_);exact q.w):A:=h ⟨k⟩
theorem g12 {A B:Prop} (k:B) (h:Wr B→A:=by (intro q;iterate 12 refine st ?_);exact q.w):A:=h ⟨k⟩
theorem g13 {A B:Prop} (k:B) (h:Wr B→A:=by (intro q;iterate 13 refine st ?_);exact q.w):A:=h ⟨k⟩
theorem g14 {A B:Prop} (k:B) (h:Wr B→A:=by (intro q;iterate 14 refine st ?_);exact q.w):A:=h ⟨k⟩
theorem g15 {A B:Prop} (k:B) (h:Wr B→A:=by (intro q;iterate 15 refine st ?_);exact q.w):A:=h ⟨k⟩
theorem g16 {A B:Prop} (k:B) (h:Wr B→A:=by (intro q;iterate 16 refine st ?_);exact q.w):A:=h ⟨k⟩
theorem g17 {A B:Prop} (k:B) (h:Wr B→A:=by (intro q;iterate 17 refine st ?_);exact q.w):A:=h ⟨k⟩
theorem g18 {A B:Prop} (k:B) (h:Wr B→A:=by (intro q;iterate 18 refine st ?_);exact q.w):A:=h ⟨k⟩
theorem g19 {A B:Prop} (k:B) (h:Wr B→A:=by (intro q;iterate 19 refine st ?_);exact q.w):A:=h ⟨k⟩
theorem g20 {A B:Prop} (k:B) (h:Wr B→A:=by (intro q;iterate 20 refine st ?_);exact q.w):A:=h ⟨k⟩
theorem g21 {A B:Prop} (k:B) (h:Wr B→A:=by (intro q;iterate 21 refine st ?_);exact q.w):A:=h ⟨k⟩
theorem g22 {A B:Prop} (k:B) (h:Wr B→A:=by (intro q;iterate 22 refine st ?_);exact q.w):A:=h ⟨k⟩
theorem g23 {A B:Prop} (k:B) (h:Wr B→A:=by (intro q;iterate 23 refine st ?_);exact q.w):A:=h ⟨k⟩
theorem g24 {A B:Prop} (k:B) (h:Wr B→A:=by (intro q;iterate 24 refine st ?_);exact q.w):A:=h ⟨k⟩
theorem g25 {A B:Prop} (k:B) (h:Wr B→A:=by (intro q;iterate 25 refine st ?_);exact q.w):A:=h ⟨k⟩
theorem g26 {A B:Prop} (k:B) (h:Wr B→A:=by (intro q;iterate 26 refine st ?_);exact q.w):A:=h ⟨k⟩
theorem g27 {A B:Prop} (k:B) (h:Wr B→A:=by (intro q;iterate 27 refine st ?_);exact q.w):A:=h ⟨k⟩
theorem g28 {A B:Prop} (k:B) (h:Wr B→A:=by (intro q;iterate 28 refine st ?_);exact q.w):A:=h ⟨k⟩
theorem g29 {A B:Prop} (k:B) (h:Wr B→A:=by (intro q;iterate 29 refine st ?_);exact q.w):A:=h ⟨k⟩
theorem g30 {A B:Prop} (k:B) (h:Wr B→A:=by (intro q;iterate 30 refine st ?_);exact q.w):A:=h ⟨k⟩
theorem g31 {A B:Prop} (k:B) (h:Wr B→A:=by (intro q;iterate 31 refine st ?_);exact q.w):A:=h ⟨k⟩
theorem g32 {A B:Prop} (k:B) (h:Wr B→A:=by (intro q;iterate 32 refine st ?_);exact q.w):A:=h ⟨k⟩
theorem g33 {A B:Prop} (k:B) (h:Wr B→A:=by (intro q;iterate 33 refine st ?_);exact q.w):A:=h ⟨k⟩
theorem g34 {A B:Prop} (k:B) (h:Wr B→A:=by (intro q;iterate 34 refine st ?_);exact q.w):A:=h ⟨k⟩
theorem g35 {A B:Prop} (k:B) (h:Wr B→A:=by (intro q;iterate 35 refine st ?_);exact q.w):A:=h ⟨k⟩
theorem g36 {A B:Prop} (k:B) (h:Wr B→A:=by (intro q;iterate 36 refine st ?_);exact q.w):A:=h ⟨k⟩
theorem g37 {A B:Prop} (k:B) (h:Wr B→A:=by (intro q;iterate 37 refine st ?_);exact q.w):A:=h ⟨k⟩
theorem g38 {A B:Prop} (k:B) (h:Wr B→A:=by (intro q;iterate 38 refine st ?_);exact q.w):A:=h ⟨k⟩
theorem g39 {A B:Prop} (k:B) (h:Wr B→A:=by (intro q;iterate 39 refine st ?_);exact q.w):A:=h ⟨k⟩
theorem g40 {A B:Prop} (k:B) (h:Wr B→A:=by (intro q;iterate 40 refine st ?_);exact q.w):A:=h ⟨k⟩
theorem g41 {A B:Prop} (k:B) (h:Wr B→A:=by (intro q;iterate 41 refine st ?_);exact q.w):A:=h ⟨k⟩
theorem g42 {A B:Prop} (k:B) (h:Wr B→A:=by (intro q;iterate 42 refine st ?_);exact q.w):A:=h ⟨k⟩
theorem g43 {A B:Prop} (k:B) (h:Wr B→A:=by (intro q;iterate 43 refine st ?_);exact q.w):A:=h ⟨k⟩
theorem g44 {A B:Prop} (k:B) (h:Wr B→A:=by (intro q;iterate 44 refine st ?_);exact q.w):A:=h ⟨k⟩
theorem g45 {A B:Prop} (k:B) (h:Wr B→A:=by (intro q;iterate 45 refine st ?_);exact q.w):A:=h ⟨k⟩
theorem g46 {A B:Prop} (k:B) (h:Wr B→A:=by (intro q;iterate 46 refine st ?_);exact q.w):A:=h ⟨k⟩
theorem g47 {A B:Prop} (k:B) (h:Wr B→A:=by (intro q;iterate 47 refine st ?_);exact q.w):A:=h ⟨k⟩
theorem g48 {A B:Prop} (k:B) (h:Wr B→A:=by (intro q;iterate 48 refine st ?_);exact q.w):A:=h ⟨k⟩
theorem g49 {A B:Prop} (k:B) (h:Wr B→A:=by (intro q;iterate 49 refine st ?_);exact q.w):A:=h ⟨k⟩
theorem g50 {A B:Prop} (k:B) (h:Wr B→A:=by (intro q;iterate 50 refine st ?_);exact q.w):A:=h ⟨k⟩
theorem g51 {A B:Prop} (k:B) (h:Wr B→A:=by (intro q;iterate 51 refine st ?_);exact q.w):A:=h ⟨k⟩
theorem g52 {A B:Prop} (k:B) (h:Wr B→A:=by (intro q;iterate 52 refine st ?_);exact q.w):A:=h ⟨k⟩
theorem g53 {A B:Prop} (k:B) (h:Wr B→A:=by (intro q;iterate 53 refine st ?_);exact q.w):A:=h ⟨k⟩
theorem g54 {A B:Prop} (k:B) (h:Wr B→A:=by (intro q;iterate 54 refine st ?_);exact q.w):A:=h ⟨k⟩
theorem g55 {A B:Prop} (k:B) (h:Wr B→A:=by (intro q;iterate 55 refine st ?_);exact q.w):A:=h ⟨k⟩
theorem g56 {A B:Prop} (k:B) (h:Wr B→A:=by (intro q;iterate 56 refine st ?_);exact q.w):A:=h ⟨k⟩
theorem g57 {A B:Prop} (k:B) (h:Wr B→A:=by (intro q;iterate 57 refine st ?_);exact q.w):A:=h ⟨k⟩
theorem g58 {A B:Prop} (k:B) (h:Wr B→A:=by (intro q;iterate 58 refine st ?_);exact q.w):A:=h ⟨k⟩
theorem g59 {A B:Prop} (k:B) (h:Wr B→A:=by (intro q;iterate 59 refine st ?_);exact q.w):A:=h ⟨k⟩
theorem g60 {A B:Prop} (k:B) (h:Wr B→A:=by (intro q;iterate 60 refine st ?_);exact q.w):A:=h ⟨k⟩
theorem y0 {A:Prop} (h:A:=by repeat' (first|refine all_cons_true ?_ ?_|rfl|exact bytes_inUse|exact vals_inUse|exact mid_inUse rfl)):A:=h
theorem y1 {A:Prop} (h:A:=by repeat' (first|exact trivial|refine And.intro ⟨_,rfl,?_⟩ ?_|refine And.intro ⟨_,rfl⟩ ?_|rfl|exact Box.ren_bytes _ _ _ _|exact Box.ren_vals _ _ _ _|exact Box.ren_mid rfl)):A:=h
theorem y10 {A:Prop} (h:A:=by exact ⟨rfl,rfl,rfl,rfl,rfl,trivial⟩):A:=h
theorem y11 {A:Prop} (h:A:=by exact ⟨rfl,rfl,rfl,rfl,rfl,rfl,trivial⟩):A:=h
theorem y12 {A:Prop} (h:A:=by exact (.box rfl rfl (.box rfl rfl (.box rfl (Box.ren_bytes _ _ _ _) (.dead rfl .nil))))):A:=h
theorem y13 {A:Prop} (h:A:=by exact ⟨rfl,trivial⟩):A:=h
theorem y14 {A:Prop} (h:A:=by exact ⟨rfl,rfl,rfl,rfl,rfl,rfl,rfl,trivial⟩):A:=h
theorem y15 {A:Prop} (h:A:=by exact ⟨rfl,rfl,rfl,rfl,rfl,rfl,rfl,rfl,trivial⟩):A:=h
theorem y16 {A:Prop} (h:A:=by exact (all_cons_true (all_cons_true rfl (all_cons_true rfl rfl)) rfl)):A:=h
theorem y17 {A:Prop} (h:A:=by exact (And.intro ⟨_,rfl,rfl⟩ trivial)):A:=h
theorem y18 {A:Prop} (h:A:=by exact (.box rfl (Box.ren_vals _ _ _ _) .nil)):A:=h
theorem y19 {A:Prop} (h:A:=by exact (.box rfl rfl .nil)):A:=h
theorem y1A {A:Prop} (h:A:=by exact ⟨[_,_],⟨⟨_,_,rfl,rfl,rfl,.inl ⟨AggT.h,rfl⟩⟩,⟨_,_,rfl,rfl,rfl,.inl ⟨AggT.h,rfl⟩⟩,trivial⟩,rfl⟩):A:=h
theorem y1B {A:Prop} (h:A:=by exact ⟨rfl,rfl,rfl,rfl,rfl,rfl,rfl,rfl,rfl,trivial⟩):A:=h
theorem y1C {A:Prop} (h:A:=by exact ⟨[],⟨[_,_],⟨rfl,rfl,trivial⟩,rfl⟩,trivial,rfl,rfl⟩):A:=h
theorem y1D {A:Prop} (h:A:=by exact (.box rfl (Box.ren_vals _ _ _ _) (.box rfl (Box.ren_vals _ _ _ _) .nil))):A:=h
theorem y1E {A:Prop} (h:A:=by exact ⟨[_,_],⟨rfl,rfl,trivial⟩,rfl⟩):A:=h
theorem y1F {A:Prop} (h:A:=by repeat' (first|refine all_cons_true ?_ ?_|rfl|exact vals_inUse)):A:=h
theorem y2 {A:Prop} (h:A:=by exact rfl):A:=h
theorem y20 {A:Prop} (h:A:=by exact ⟨[],⟨[_],⟨rfl,trivial⟩,rfl⟩,⟨⟨_,rfl,rfl⟩,trivial⟩,rfl,rfl⟩):A:=h
theorem y21 {A:Prop} (h:A:=by simp):A:=h
theorem y22 {A:Prop} (h:A:=by rw [hlen];omega):A:=h
theorem y23 {A:Prop} (h:A:=by exact (.box rfl rfl (.box rfl rfl (.box rfl rfl .nil)))):A:=h
theorem y24 {A:Prop} (h:A:=by exact ⟨rfl,rfl,rfl,rfl,rfl,rfl,rfl,rfl,rfl,rfl,trivial⟩):A:=h
theorem y25 {A:Prop} (h:A:=by simp only [List.length_append,List.length_singleton];omega):A:=h
theorem y26 {A:Prop} (h:A:=by exact nl4 rfl rfl rfl rfl rfl):A:=h
theorem y27 {A:Prop} (h:A:=by exact (.box rfl rfl (.box rfl rfl .nil))):A:=h
theorem y28 {A:Prop} (h:A:=by exact nl3 rfl rfl rfl rfl):A:=h
theorem y29 {A:Prop} (h:A:=by rw [List.length_map];omega):A:=h
theorem y2A {A:Prop} (h:A:=by unfold R127;omega):A:=h
theorem y2B {A:Prop} (h:A:=by exact .nil):A:=h
theorem y2C {A:Prop} (h:A:=by exact wrap_u64 (by omega)):A:=h
theorem y2D {A:Prop} (h:A:=by have:=(wl hy);omega):A:=h
theorem y2E {A:Prop} (h:A:=by simpa using h):A:=h
theorem y2F {A:Prop} (h:A:=by show 0<2;omega):A:=h
theorem y3 {A:Prop} (h:A:=by omega):A:=h
theorem y30 {A:Prop} (h:A:=by exact ⟨rfl,rfl⟩):A:=h
theorem y31 {A:Prop} (h:A:=by rfl):A:=h
theorem y32 {A:Prop} (h:A:=by simp [Tr.flat,hy]):A:=h
theorem y33 {A:Prop} (h:A:=by simp [zv];omega):A:=h
theorem y34 {A:Prop} (h:A:=by rw [hc];decide):A:=h
theorem y35 {A:Prop} (h:A:=by exact nl6 rfl rfl rfl rfl rfl rfl rfl):A:=h
theorem y36 {A:Prop} (h:A:=by exact nl2 rfl rfl rfl):A:=h
theorem y4 {A:Prop} (h:A:=by exact ⟨[_,_],⟨⟨_,_,rfl,rfl,rfl,.inl ⟨AggT.h,rfl⟩⟩,rfl,trivial⟩,rfl⟩):A:=h
theorem y5 {A:Prop} (h:A:=by kernel_rfl):A:=h
theorem y6 {A:Prop} (h:A:=by exact ⟨[_],⟨rfl,trivial⟩,rfl⟩):A:=h
theorem y7 {A:Prop} (h:A:=by exact (by repeat' (first|refine all_cons_true ?_ ?_|rfl|exact bytes_inUse|exact vals_inUse|exact mid_inUse rfl))):A:=h
theorem y8 {A:Prop} (h:A:=by exact ⟨rfl,rfl,rfl,rfl,trivial⟩):A:=h
theorem y9 {A:Prop} (h:A:=by exact ⟨rfl,rfl,rfl,trivial⟩):A:=h
theorem yA {A:Prop} (h:A:=by decide):A:=h
theorem yB {A:Prop} (h:A:=by exact (all_cons_true (all_cons_true rfl (all_cons_true rfl rfl)) (all_cons_true (all_cons_true rfl rfl) (all_cons_true bytes_inUse rfl)))):A:=h
theorem yC {A:Prop} (h:A:=by exact trivial):A:=h
theorem yD {A:Prop} (h:A:=by exact (And.intro ⟨_,rfl,rfl⟩ (And.intro ⟨_,rfl,rfl⟩ (And.intro ⟨_,rfl,(Box.ren_bytes _ _ _ _)⟩ trivial)))):A:=h
theorem yE {A:Prop} (h:A:=by exact ⟨rfl,rfl,trivial⟩):A:=h
theorem yF {A:Prop} (h:A:=by exact ⟨[_],⟨⟨_,_,rfl,rfl,rfl,.inl ⟨AggT.h,rfl⟩⟩,trivial⟩,rfl⟩):A:=h
end Go.Lg
end
section
namespace Go.Lg
open Go Go.RowKit Go.ChangeShapes Go.WideShapes Go.Joins
section
variable {H:Type} {enc:TypeId×Value→H} {P:Program} {w:World}
theorem below_trodAll (hl:laidOutB P=true) {W W':World} (hb:Below W.heap.size W W'):∀ {ts:List TypeId} {vs:List Value} {ds:List (DataW H)} {ps:List MemPlace},
  (ts.all fun t=>P.readableRec t&&Nat.blt t P.types.size)=true→DataW.TrodAll enc P W 0 (fun _=>true) true ts vs ds ps→(∀ x∈ps,x.block<W.heap.size) →
  DataW.TrodAll enc P W' 0 (fun b=>decide (b<W.heap.size)) true ts vs ds ps
 | [],vs,ds,ps,_,h,_=>by
  obtain ⟨rfl,rfl,rfl⟩:=trodAll_nil h
  exact trodAll_mk0
 | t::ts,vs,ds,ps,ht,h,hlt=>by
  simp only [List.all_cons,Bool.and_eq_true,Nat.blt_eq] at ht
  obtain ⟨v,vs',d,ds',p,q,rfl,rfl,rfl,hd,hrest⟩:=trodAll_cons h
  have h1:=Below.trod hl ht.1.1 ht.1.2 hd hb (fun x hx=>hlt x (by simp [hx]))
  have h2:=below_trodAll hl hb (by simpa [Bool.and_eq_true,Nat.blt_eq] using ht.2) hrest (fun x hx=>hlt x (by simp [hx]))
  exact ⟨p,q,h1,h2,rfl⟩
def OneIn (X:Nat→Option Obj) (ad:Option Addr) (vs:List Value):Prop := ∀ i v,vs[i]? = some v→∃ (blk off:Nat) (arr:Array Value) (el:TypeId) (fr:Nat×Nat),ad=some ⟨blk,off,none⟩∧X blk=some (.cells arr el fr)∧arr[off+i]? = some v
theorem cell_at {a:Addr} {k:Nat} {c:Value} (hs:a.spot=none) (h:w.cell? (a.add k)=some c):∃ (arr:Array Value) (el:TypeId) (fr:Nat×Nat),w.heap[a.block]? = some (.cells arr el fr)∧arr[a.off+k]? = some c:=by
 obtain ⟨b,o,s⟩:=a
 simp only at hs
 subst hs
 rw [Addr.add_lit] at h
 unfold World.cell? at h
 split at h
 ·rename_i arr el fr he
  exact ⟨arr,el,fr,he,by simpa using h⟩
 ·cases h
theorem spot_none {a:Addr} {c:Value} (h:w.cell? (a.add 0)=some c):a.spot=none:=by
 have e1:a.add 0=a:=by unfold Addr.add;rw [if_pos rfl]
 rw [e1] at h
 unfold World.cell? at h
 split at h
 ·cases hs:a.spot with
  | none=>rfl
  | some _=>rw [hs] at h;simp at h
 ·cases h
theorem map_of {α β:Type} {f:β→α} {q:β→Prop}:∀ {vs:List α},(∀ u,u∈vs→∃ k,u=f k∧q k)→∃ ks:List β,vs=ks.map f∧∀ k,k∈ks→q k
 | [],_=>⟨[],rfl,fun k hk=>by simp at hk⟩
 | v::vs,h=>by
  obtain ⟨k,rfl,hq⟩:=h v (by simp)
  obtain ⟨ks,rfl,hqs⟩:=map_of (vs:=vs) (fun u hu=>h u (by simp [hu]))
  refine ⟨k::ks,rfl,fun j hj => ?_⟩
  rcases List.mem_cons.1 hj with rfl|h2
  ·exact hq
  ·exact hqs j h2
end
theorem rel_args:∀ (vals:List Value),LVs.rel noS (fun _=>(0,0)) (vals.map toLV) vals
 | []=>trivial
 | v::vs=>⟨toLV_rel _ _ v,rel_args vs⟩
theorem law_calls {P:Program} {f:FuncId} {W:World} (vals:List Value) (hp:PSpec P (fun b=>W.heap[b]?) f (vals.map toLV) (.sv (.one (.val (.bool true))))):
  Calls P f vals.toArray W (fun e W'=>e = .returned (.bool true)∧Below W.heap.size W W'):=by
 refine (hp.out W vals.toArray (fun _ _ h=>h) (by simpa using rel_args vals)).mono ?_
 rintro e W' ⟨v,rfl,hr,hb⟩
 simp only [LV.rel,SV.rel,CV.rel] at hr
 exact ⟨by rw [hr],hb⟩
end Go.Lg
end
section
namespace Go.Lg
open Go Go.RowKit
theorem O.{u} {α : Sort u} {a : α} : a = a := rfl
abbrev dO := @Want.plain
abbrev dP := @Want.taken
abbrev aA := @LWP.seq
abbrev aB := @RunK.nil
abbrev aC := @RunK.passed
abbrev aD := @RunK.passedU
abbrev aE := @LWP.condT
abbrev aF := @LWP.condF
abbrev aG := @LWP.block
abbrev aH := @LWP.skip
abbrev aI := @LWP.ret
abbrev aJ := @LWP.exit
abbrev aK := @K.loadAll
abbrev aL := @K.box
abbrev aM := @K.storeAll
abbrev aN := @K.fieldAddr
abbrev aO := @K.loadOne
abbrev aP := @K.alloc
abbrev aQ := @K.lenX
abbrev aR := @K.indexX
abbrev aS := @K.gtr
abbrev aT := @K.build
abbrev aU := @K.callM
abbrev aV := @K.not
abbrev aW := @K.loadX
abbrev aX := @K.neq
abbrev aY := @K.loadXagg
abbrev aZ := @K.buildSlc
abbrev bA := @K.sub
abbrev bB := @K.indexStr
abbrev bC := @K.eql
abbrev bD := @K.geq
abbrev bE := @K.callMp
abbrev bF := @K.pickT
abbrev bG := @K.storeOne
abbrev bH := @K.fieldAddrX
abbrev bI := @K.nilCheck
abbrev bJ := @K.loadPart
abbrev bK := @K.lss
abbrev bL := @K.mul
abbrev bM := @K.sliceStr
abbrev bN := @K.shr
abbrev bO := @K.pickF
abbrev bP := @K.appendSlc
abbrev bQ := @K.aggEq
abbrev bR := @K.convStr
abbrev bS := @all_cons_true
abbrev bT := @vals_inUse
abbrev bX := @Box.ren_vals
abbrev bZ := @SliceT.h
abbrev cA := @Leads.done
abbrev cB := @Leads.le
abbrev cC := @PSpec.intro
abbrev cD := @MSpec.intro
abbrev cE := @wrap_i64
abbrev cF := @withBlock_old
abbrev cG := @LWP.loop
abbrev cH := @LWP.loopL
abbrev cJ := @withBlock_at
abbrev cK := @decide_eq_false
abbrev cL := @decide_eq_true
abbrev cM := @And.intro
theorem cN {α : Type} [BEq α] [LawfulBEq α] {x y : α} (h : x ≠ y) : (x == y) = false := beq_eq_false_iff_ne.2 h
theorem cO {α : Type} [BEq α] [LawfulBEq α] {x y : α} (h : x = y) : (x != y) = false := bne_eq_false_iff_eq.2 h
theorem cP {α : Type} [BEq α] [LawfulBEq α] {x y : α} (h : x ≠ y) : (x != y) = true := bne_iff_ne.2 h
theorem cR {α : Type} [BEq α] [LawfulBEq α] {x y : α} (h : x = y) : (x == y) = true := beq_iff_eq.2 h
abbrev cS := @List.length_append
abbrev cT := @List.length_map
abbrev cU := @List.getElem?_eq_getElem
abbrev cW := @List.length_take
abbrev cX := @List.length_drop
abbrev cZ := @List.mem_of_getElem?
abbrev dA := @List.length_replicate
abbrev dC := @List.take_length
abbrev dD := @Int.toNat_natCast
abbrev dE := @List.map_append
abbrev dF := @List.length_cons
abbrev dG := @List.append_nil
abbrev dI := @List.getElem?_map
abbrev dJ := @List.append_assoc
abbrev dK := @Nat.le_refl
abbrev dL := @List.length_nil
abbrev dN := @List.getElem?_append_left
end Go.Lg
end
section
namespace Go.Lg
open Go Go.RowKit Go.ChangeShapes Go.WideShapes Go.Joins
section
variable {H:Type} {enc:TypeId×Value→H} {P:Program} {w:World}
theorem cells_row {a:Addr} {sz:Nat} {cs:List Value} (hs:a.spot=none) (hsz:1≤sz) {i:Nat} (hl:cs.length=sz) (h:∀ j,j<sz→w.cell? ((a.add (i*sz)).add j)=cs[j]?):
  ∃ (arr:Array Value) (el:TypeId) (fr:Nat×Nat),w.heap[a.block]? = some (.cells arr el fr)∧a.off+i*sz+sz≤arr.size∧(arr.toList.drop (a.off+i*sz)).take sz=cs:=by
 obtain ⟨b,o,sp⟩:=a
 simp only at hs
 subst hs
 have h2:∀ j,j<sz→∃ u,cs[j]? = some u∧w.cell? ((⟨b,o,none⟩:Addr).add (i*sz+j))=some u:=fun j hj=>by
  have h3:=h j hj
  rw [Deep.add_add] at h3
  rw [List.getElem?_eq_getElem (by omega)] at h3
  exact ⟨_,List.getElem?_eq_getElem (by omega),h3⟩
 obtain ⟨u0,_,h0⟩:=h2 0 (by omega)
 obtain ⟨arr,el,fr,hh,_⟩:=cell_at (a:=⟨b,o,none⟩) rfl h0
 have hall:∀ j,j<sz→arr[o+(i*sz+j)]? = cs[j]? := fun j hj=>by
  obtain ⟨u,hu,hc⟩:=h2 j hj
  obtain ⟨arr',el',fr',hh',hc'⟩:=cell_at (a:=⟨b,o,none⟩) rfl hc
  rw [hh] at hh'
  cases hh'
  rw [hu];exact hc'
 have hlast:o+(i*sz+(sz-1))<arr.size:=by
  have h3:=hall (sz-1) (by omega)
  rw [List.getElem?_eq_getElem (by omega)] at h3
  exact (Array.getElem?_eq_some_iff.1 h3).1
 refine ⟨arr,el,fr,hh,by show o+i*sz+sz≤arr.size;omega,?_⟩
 apply List.ext_getElem?
 intro j
 rw [List.getElem?_take]
 by_cases hj:j<sz
 ·rw [if_pos hj,List.getElem?_drop,Array.getElem?_toList,← hall j hj]
  show arr[o+i*sz+j]? = _
  rw [Nat.add_assoc]
 ·rw [if_neg hj,List.getElem?_eq_none (by omega)]
end
end Go.Lg
end
section
namespace Go.Lg
open Go Go.RowKit Go.ChangeShapes Go.WideShapes Go.Joins
section
variable {H:Type} {enc:TypeId×Value→H} {P:Program} {w:World}
theorem open_rows_l {t e:TypeId} {sz fuel:Nat} {l:List Value} {x:DataW H×List MemPlace} (ht:P.underlying t=some (.slice e)) (hc:P.cellsOf e=sz) (hsz:1≤sz) (hf:DataW.trod enc P w 0 (fun _=>true) true fuel t l=some x):
  ∃ (ad:Option Addr) (cap:Nat) (rows:List (List Value)),l=[.slice ad rows.length cap]∧rows.length≤cap∧cap≤maxLen∧RowsIn (fun b=>w.heap[b]?) ad sz rows ∧
   ∀ u,u∈rows→u.length=sz∧∃ (n:Nat) (x:DataW H×List MemPlace),DataW.trod enc P w 0 (fun _=>true) true n e u=some x:=by
 rcases Deep.open_slice ht hf with ⟨h0,_⟩|⟨a',len',cap',m,n,D,Pl,h0,hb,hl,hm,hmm,hd,hx⟩
 ·exact ⟨none,0,[],h0,Nat.le_refl _,Nat.zero_le _,fun i r h=>by simp at h,fun u hu=>by simp at hu⟩
 ·rw [if_pos rfl] at hmm
  subst hmm
  rw [hc] at hx
  have hch:∃ f:Nat→List Value,∀ i,i<m→w.cells? 0 (a'.add (i*sz)) sz=some (f i)∧DataW.trod enc P w 0 (fun _=>true) true n e (f i)=some (D i,Pl i):=by
   refine ⟨fun i=>if hi:i<m then (hx i hi).choose else [],fun i hi => ?_⟩
   simp only [dif_pos hi]
   exact (hx i hi).choose_spec
  obtain ⟨f,hf2⟩:=hch
  refine ⟨some a',m,(List.range len').map f,by rw [List.length_map,List.length_range];exact h0,by rw [List.length_map,List.length_range];exact hl,hm,?_,?_⟩
  ·intro i u hi
   have hi2:i<len':=by
    have:=(List.getElem?_eq_some_iff.1 hi).1
    simpa using this
   have e:u=f i:=by
    rw [List.getElem?_map,List.getElem?_range hi2] at hi
    simpa using hi.symm
   subst e
   have hspot:a'.spot=none:=by
    obtain ⟨h1,_⟩:=hf2 0 (by omega)
    obtain ⟨_,hlen,hcell⟩:=World.cells?_some h1
    have e0:=hcell 0 (by omega)
    rw [Deep.add_add,Nat.zero_mul,Nat.zero_add] at e0
    rw [List.getElem?_eq_getElem (by omega)] at e0
    exact spot_none e0
   obtain ⟨h1,_⟩:=hf2 i (by omega)
   obtain ⟨_,hlen,hcell⟩:=World.cells?_some h1
   obtain ⟨arr,el,fr,hh,hsz2,htk⟩:=cells_row hspot hsz hlen hcell
   refine ⟨a'.block,a'.off,arr,el,fr,?_,hh,hsz2,htk⟩
   obtain ⟨b,o,sp⟩:=a'
   simp only at hspot
   subst hspot
   rfl
  ·intro u hu
   obtain ⟨i,hi,rfl⟩:=List.mem_map.1 hu
   have hi:=List.mem_range.1 hi
   obtain ⟨h1,h2⟩:=hf2 i (by omega)
   exact ⟨(World.cells?_some h1).2.1,n,_,h2⟩
end
end Go.Lg
end
section
namespace Go.Lg
open Go Go.RowKit Go.ChangeShapes Go.WideShapes Go.Joins
section
variable {H:Type} {enc:TypeId×Value→H} {P:Program} {w:World}
def Light (P:Program) (t:TypeId) (d:DataW H):Prop := ∀ n∈d.weights P t,n≤reachBytes
theorem Light.all {P:Program} {e:TypeId}:∀ {l:List (DataW H)},(∀ n∈DataW.weightsAll P e l,n≤reachBytes)→∀ d∈l,Light P e d
 | x::t,h,d,hd=>by
  simp only [DataW.weightsAll,List.mem_append] at h
  rcases List.mem_cons.1 hd with rfl|hd
  ·exact fun n hn=>h n (.inl hn)
  ·exact Light.all (fun n hn=>h n (.inr hn)) d hd
 | [],_,d,hd=>by cases hd
theorem Light.slice {P:Program} {t e:TypeId} {elems spare:List (DataW H)} (ht:P.underlying t=some (.slice e)) (h:Light P t (.slice elems spare)):(elems.length+spare.length)*P.bytesOf e≤reachBytes∧∀ d∈elems,Light P e d:=by
 unfold Light at h
 simp only [DataW.weights,ht,List.mem_cons,List.mem_append] at h
 exact ⟨h _ (.inl rfl),Light.all fun n hn=>h n (.inr (.inl hn))⟩
theorem Light.struct3 {P:Program} {t:TypeId} {f0 f1 f2:Field} {a b c:DataW H} (ht:P.underlying t=some (.struct #[f0,f1,f2])) (h:Light P t (.agg [a,b,c])):Light P f0.type a∧Light P f1.type b∧Light P f2.type c:=by
 unfold Light at h
 simp only [DataW.weights,ht,List.map_cons,List.map_nil,DataW.weightsEach,List.append_nil,List.mem_append] at h
 exact ⟨fun n hn=>h n (.inl hn),fun n hn=>h n (.inr (.inl hn)),fun n hn=>h n (.inr (.inr hn))⟩
theorem Light.arg {ts:List TypeId} {ds:List (DataW H)} (h:(DataW.weightsEach P ts ds).all (· ≤ reachBytes)=true) {j:Nat} {t:TypeId} {d:DataW H} (ht:ts[j]? = some t) (hd:ds[j]? = some d):Light P t d:=fun n hn=>by
 have:=List.all_eq_true.1 h n (DataW.weights_mem_each ht hd n hn)
 simpa using this
theorem open_rows_w {t e:TypeId} {sz fuel:Nat} {l:List Value} {x:DataW H×List MemPlace} (ht:P.underlying t=some (.slice e)) (hc:P.cellsOf e=sz) (hsz:1≤sz) (hf:DataW.trod enc P w 0 (fun _=>true) true fuel t l=some x) (hw:Light P t x.1):
  ∃ (ad:Option Addr) (cap:Nat) (rows:List (List Value)),l=[.slice ad rows.length cap]∧rows.length*P.bytesOf e≤reachBytes∧rows.length≤cap∧cap≤maxLen∧RowsIn (fun b=>w.heap[b]?) ad sz rows ∧
   ∀ u,u∈rows→u.length=sz∧∃ (n:Nat) (x:DataW H×List MemPlace),DataW.trod enc P w 0 (fun _=>true) true n e u=some x∧Light P e x.1:=by
 rcases Deep.open_slice ht hf with ⟨h0,_⟩|⟨a',len',cap',m,n,D,Pl,h0,hb,hl,hm,hmm,hd,hx⟩
 ·exact ⟨none,0,[],h0,by simp,Nat.le_refl _,Nat.zero_le _,fun i r h=>by simp at h,fun u hu=>by simp at hu⟩
 ·rw [if_pos rfl] at hmm
  subst hmm
  rw [hd] at hw
  obtain ⟨hw1,hw2⟩:=Light.slice ht hw
  rw [hc] at hx
  have hch:∃ f:Nat→List Value,∀ i,i<m→w.cells? 0 (a'.add (i*sz)) sz=some (f i)∧DataW.trod enc P w 0 (fun _=>true) true n e (f i)=some (D i,Pl i):=by
   refine ⟨fun i=>if hi:i<m then (hx i hi).choose else [],fun i hi => ?_⟩
   simp only [dif_pos hi]
   exact (hx i hi).choose_spec
  obtain ⟨f,hf2⟩:=hch
  have hlen:((List.range len').map f).length=len':=by rw [List.length_map,List.length_range]
  refine ⟨some a',m,(List.range len').map f,by rw [hlen];exact h0,?_,by rw [hlen];exact hl,hm,?_,?_⟩
  ·rw [hlen]
   rw [List.length_map,List.length_range] at hw1
   exact Nat.le_trans (Nat.mul_le_mul_right _ (Nat.le_add_right _ _)) hw1
  ·intro i u hi
   have hi2:i<len':=by
    have:=(List.getElem?_eq_some_iff.1 hi).1
    simpa using this
   have e:u=f i:=by
    rw [List.getElem?_map,List.getElem?_range hi2] at hi
    simpa using hi.symm
   subst e
   have hspot:a'.spot=none:=by
    obtain ⟨h1,_⟩:=hf2 0 (by omega)
    obtain ⟨_,hlen,hcell⟩:=World.cells?_some h1
    have e0:=hcell 0 (by omega)
    rw [Deep.add_add,Nat.zero_mul,Nat.zero_add] at e0
    rw [List.getElem?_eq_getElem (by omega)] at e0
    exact spot_none e0
   obtain ⟨h1,_⟩:=hf2 i (by omega)
   obtain ⟨_,hlen,hcell⟩:=World.cells?_some h1
   obtain ⟨arr,el,fr,hh,hsz2,htk⟩:=cells_row hspot hsz hlen hcell
   refine ⟨a'.block,a'.off,arr,el,fr,?_,hh,hsz2,htk⟩
   obtain ⟨b,o,sp⟩:=a'
   simp only at hspot
   subst hspot
   rfl
  ·intro u hu
   obtain ⟨i,hi,rfl⟩:=List.mem_map.1 hu
   have hi:=List.mem_range.1 hi
   obtain ⟨h1,h2⟩:=hf2 i (by omega)
   exact ⟨(World.cells?_some h1).2.1,n,_,h2,hw2 _ (List.mem_map.2 ⟨i,List.mem_range.2 hi,rfl⟩)⟩
end
end Go.Lg
end
section
set_option maxHeartbeats 12800000
set_option maxRecDepth 100000
namespace Go.Proofs.YtopiioklkkiedaaGreatDoor
open Go Go.Lg
theorem mixed:Tryz.prog.follows .mixedOrders=true:=by kernel_rfl
instance:OneT Tryz.prog 3:=⟨by kernel_rfl⟩
instance:IntT Tryz.prog 3 .i64:=⟨by kernel_rfl⟩
instance:OneT Tryz.prog 4:=⟨by kernel_rfl⟩
instance:BoolT Tryz.prog 4:=⟨by kernel_rfl⟩
instance:OneT Tryz.prog 5:=⟨by kernel_rfl⟩
instance:IntT Tryz.prog 5 .u8:=⟨by kernel_rfl⟩
instance:OneT Tryz.prog 9:=⟨by kernel_rfl⟩
instance:StrT Tryz.prog 9:=⟨by kernel_rfl⟩
instance:OneT Tryz.prog 22:=⟨by kernel_rfl⟩
instance:SliceT Tryz.prog 22 3:=⟨by kernel_rfl⟩
instance:ZeroT Tryz.prog 24 [(.val (.int .i64 0)),(.val (.string ⟨#[]⟩)),(.val (.slice none 0 0))]:=⟨by kernel_rfl⟩
instance:AggT Tryz.prog 24 3:=⟨by kernel_rfl⟩
instance:FieldT Tryz.prog 24 2 2 0:=⟨by kernel_rfl⟩
instance:StructT Tryz.prog 24 [(.int .i64 0),(.string ⟨#[]⟩),(.slice none 0 0)] [(0,1),(1,1),(2,1)]:=⟨by kernel_rfl⟩
instance:OneT Tryz.prog 25:=⟨by kernel_rfl⟩
instance:SliceT Tryz.prog 25 1:=⟨by kernel_rfl⟩
instance:ZeroT Tryz.prog 27 [(.val (.int .i64 0)),(.val (.int .i64 0)),(.val (.slice none 0 0))]:=⟨by kernel_rfl⟩
instance:AggT Tryz.prog 27 3:=⟨by kernel_rfl⟩
instance:FieldT Tryz.prog 27 0 0 0:=⟨by kernel_rfl⟩
instance:FieldT Tryz.prog 27 1 1 0:=⟨by kernel_rfl⟩
instance:FieldT Tryz.prog 27 2 2 0:=⟨by kernel_rfl⟩
instance:StructT Tryz.prog 27 [(.int .i64 0),(.int .i64 0),(.slice none 0 0)] [(0,1),(1,1),(2,1)]:=⟨by kernel_rfl⟩
instance:SliceT Tryz.prog 28 3:=⟨by kernel_rfl⟩
instance:OneT Tryz.prog 31:=⟨by kernel_rfl⟩
instance:SliceT Tryz.prog 31 3:=⟨by kernel_rfl⟩
instance:FieldT Tryz.prog 33 1 1 0:=⟨by kernel_rfl⟩
instance:StructT Tryz.prog 33 [(.int .i64 0),(.slice none 0 0)] [(0,1),(1,1)]:=⟨by kernel_rfl⟩
instance:OneT Tryz.prog 34:=⟨by kernel_rfl⟩
instance:SliceT Tryz.prog 34 3:=⟨by kernel_rfl⟩
instance:FieldT Tryz.prog 36 0 0 0:=⟨by kernel_rfl⟩
instance:FieldT Tryz.prog 36 1 1 0:=⟨by kernel_rfl⟩
instance:FieldT Tryz.prog 36 2 2 0:=⟨by kernel_rfl⟩
instance:StructT Tryz.prog 36 [(.int .i64 0),(.int .i64 0),(.slice none 0 0)] [(0,1),(1,1),(2,1)]:=⟨by kernel_rfl⟩
instance:OneT Tryz.prog 37:=⟨by kernel_rfl⟩
instance:SliceT Tryz.prog 37 1:=⟨by kernel_rfl⟩
instance:ZeroT Tryz.prog 39 [(.val (.int .i64 0)),(.val (.int .i64 0)),(.val (.slice none 0 0))]:=⟨by kernel_rfl⟩
instance:AggT Tryz.prog 39 3:=⟨by kernel_rfl⟩
instance:FieldT Tryz.prog 39 1 1 0:=⟨by kernel_rfl⟩
instance:FieldT Tryz.prog 39 2 2 0:=⟨by kernel_rfl⟩
instance:StructT Tryz.prog 39 [(.int .i64 0),(.int .i64 0),(.slice none 0 0)] [(0,1),(1,1),(2,1)]:=⟨by kernel_rfl⟩
instance:OneT Tryz.prog 40:=⟨by kernel_rfl⟩
instance:SliceT Tryz.prog 40 3:=⟨by kernel_rfl⟩
instance:ZeroT Tryz.prog 42 [(.val (.int .i64 0)),(.val (.int .i64 0)),(.val (.slice none 0 0))]:=⟨by kernel_rfl⟩
instance:AggT Tryz.prog 42 3:=⟨by kernel_rfl⟩
instance:FieldT Tryz.prog 42 2 2 0:=⟨by kernel_rfl⟩
instance:StructT Tryz.prog 42 [(.int .i64 0),(.int .i64 0),(.slice none 0 0)] [(0,1),(1,1),(2,1)]:=⟨by kernel_rfl⟩
instance:IntT Tryz.prog 73 .u64:=⟨by kernel_rfl⟩
instance:OneT Tryz.prog 81:=⟨by kernel_rfl⟩
instance:ZeroT Tryz.prog 83 [(.val (.string ⟨#[]⟩)),(.val (.int .i64 0)),(.val (.int .i64 0))]:=⟨by kernel_rfl⟩
instance:AggT Tryz.prog 83 3:=⟨by kernel_rfl⟩
instance:FieldT Tryz.prog 83 1 1 0:=⟨by kernel_rfl⟩
instance:FieldT Tryz.prog 83 2 2 0:=⟨by kernel_rfl⟩
instance:StructT Tryz.prog 83 [(.string ⟨#[]⟩),(.int .i64 0),(.int .i64 0)] [(0,1),(1,1),(2,1)]:=⟨by kernel_rfl⟩
instance:OneT Tryz.prog 84:=⟨by kernel_rfl⟩
instance:IntT Tryz.prog 84 .u64:=⟨by kernel_rfl⟩
instance:ZeroT Tryz.prog 86 [(.val (.bool false)),(.val (.int .u64 0)),(.val (.int .u64 0))]:=⟨by kernel_rfl⟩
instance:AggT Tryz.prog 86 3:=⟨by kernel_rfl⟩
instance:FieldT Tryz.prog 86 0 0 0:=⟨by kernel_rfl⟩
instance:FieldT Tryz.prog 86 1 1 0:=⟨by kernel_rfl⟩
instance:FieldT Tryz.prog 86 2 2 0:=⟨by kernel_rfl⟩
instance:StructT Tryz.prog 86 [(.bool false),(.int .u64 0),(.int .u64 0)] [(0,1),(1,1),(2,1)]:=⟨by kernel_rfl⟩
instance:ZeroT Tryz.prog 88 [(.val (.int .i64 0)),(.val (.int .i64 0)),(.val (.int .i64 0)),(.val (.bool false)),(.val (.int .u64 0)),(.val (.int .u64 0))]:=⟨by kernel_rfl⟩
instance:AggT Tryz.prog 88 6:=⟨by kernel_rfl⟩
instance:FieldT Tryz.prog 88 0 0 0:=⟨by kernel_rfl⟩
instance:FieldT Tryz.prog 88 1 1 0:=⟨by kernel_rfl⟩
instance:FieldT Tryz.prog 88 2 2 0:=⟨by kernel_rfl⟩
instance:FieldT Tryz.prog 88 3 3 2:=⟨by kernel_rfl⟩
instance:StructT Tryz.prog 88 [(.int .i64 0),(.int .i64 0),(.int .i64 0),(.bool false),(.int .u64 0),(.int .u64 0)] [(0,1),(1,1),(2,1),(3,3)]:=⟨by kernel_rfl⟩
instance:SliceT Tryz.prog 90 6:=⟨by kernel_rfl⟩
instance:SliceT Tryz.prog 91 6:=⟨by kernel_rfl⟩
instance:ZeroT Tryz.prog 92 [(.val (.int .i64 0)),(.val (.int .i64 0)),(.val (.int .i64 0)),(.val (.bool false)),(.val (.int .u64 0)),(.val (.int .u64 0))]:=⟨by kernel_rfl⟩
instance:AggT Tryz.prog 92 6:=⟨by kernel_rfl⟩
instance:FieldT Tryz.prog 92 0 0 0:=⟨by kernel_rfl⟩
instance:FieldT Tryz.prog 92 1 1 0:=⟨by kernel_rfl⟩
instance:FieldT Tryz.prog 92 2 2 0:=⟨by kernel_rfl⟩
instance:FieldT Tryz.prog 92 3 3 2:=⟨by kernel_rfl⟩
instance:StructT Tryz.prog 92 [(.int .i64 0),(.int .i64 0),(.int .i64 0),(.bool false),(.int .u64 0),(.int .u64 0)] [(0,1),(1,1),(2,1),(3,3)]:=⟨by kernel_rfl⟩
instance:OneT Tryz.prog 94:=⟨by kernel_rfl⟩
instance:SliceT Tryz.prog 94 1:=⟨by kernel_rfl⟩
instance:AggT Tryz.prog 100 2:=⟨by kernel_rfl⟩
instance:FieldT Tryz.prog 100 0 0 0:=⟨by kernel_rfl⟩
instance:FieldT Tryz.prog 100 1 1 0:=⟨by kernel_rfl⟩
instance:StructT Tryz.prog 100 [(.slice none 0 0),(.int .i64 0)] [(0,1),(1,1)]:=⟨by kernel_rfl⟩
instance:SliceT Tryz.prog 102 2:=⟨by kernel_rfl⟩
instance:OneT Tryz.prog 103:=⟨by kernel_rfl⟩
instance:SliceT Tryz.prog 103 1:=⟨by kernel_rfl⟩
instance:FieldT Tryz.prog 114 0 0 0:=⟨by kernel_rfl⟩
instance:StructT Tryz.prog 114 [(.int .i64 0),(.int .i64 0)] [(0,1),(1,1)]:=⟨by kernel_rfl⟩
instance:OneT Tryz.prog 117:=⟨by kernel_rfl⟩
instance:SliceT Tryz.prog 117 1:=⟨by kernel_rfl⟩
instance:ZeroT Tryz.prog 155 [(.val (.int .i64 0)),(.val (.slice none 0 0))]:=⟨by kernel_rfl⟩
instance:AggT Tryz.prog 155 2:=⟨by kernel_rfl⟩
instance:FieldT Tryz.prog 155 0 0 0:=⟨by kernel_rfl⟩
instance:FieldT Tryz.prog 155 1 1 0:=⟨by kernel_rfl⟩
instance:StructT Tryz.prog 155 [(.int .i64 0),(.slice none 0 0)] [(0,1),(1,1)]:=⟨by kernel_rfl⟩
instance:SliceT Tryz.prog 158 2:=⟨by kernel_rfl⟩
instance:ZeroT Tryz.prog 161 [(.val (.int .i64 0)),(.val (.int .i64 0))]:=⟨by kernel_rfl⟩
instance:AggT Tryz.prog 161 2:=⟨by kernel_rfl⟩
instance:FieldT Tryz.prog 161 0 0 0:=⟨by kernel_rfl⟩
instance:FieldT Tryz.prog 161 1 1 0:=⟨by kernel_rfl⟩
instance:StructT Tryz.prog 161 [(.int .i64 0),(.int .i64 0)] [(0,1),(1,1)]:=⟨by kernel_rfl⟩
instance:ZeroT Tryz.prog 164 [(.val (.int .i64 0)),(.val (.int .i64 0)),(.val (.int .i64 0)),(.val (.int .i64 0)),(.val (.int .i64 0)),(.val (.int .i64 0)),(.val (.int .i64 0)),(.val (.int .i64 0)),(.val (.int .i64 0)),(.val (.int .i64 0)),(.val (.int .i64 0))]:=⟨by kernel_rfl⟩
instance:AggT Tryz.prog 164 11:=⟨by kernel_rfl⟩
instance:ArrT Tryz.prog 164 11 1:=⟨by kernel_rfl⟩
instance:SliceT Tryz.prog 181 6:=⟨by kernel_rfl⟩
instance:StructT Tryz.prog 186 [(.bool false),(.bool false),(.bool false)] [(0,1),(1,1),(2,1)]:=⟨by kernel_rfl⟩
instance:OneT Tryz.prog 188:=⟨by kernel_rfl⟩
instance:ZeroT Tryz.prog 190 [(.val (.string ⟨#[]⟩)),(.val (.int .i64 0)),(.val (.bool false)),(.val (.bool false)),(.val (.bool false)),(.val (.nilFunc))]:=⟨by kernel_rfl⟩
instance:AggT Tryz.prog 190 6:=⟨by kernel_rfl⟩
instance:FieldT Tryz.prog 190 1 1 0:=⟨by kernel_rfl⟩
instance:FieldT Tryz.prog 190 3 5 0:=⟨by kernel_rfl⟩
instance:StructT Tryz.prog 190 [(.string ⟨#[]⟩),(.int .i64 0),(.bool false),(.bool false),(.bool false),(.nilFunc)] [(0,1),(1,1),(2,3),(5,1)]:=⟨by kernel_rfl⟩
instance:ZeroT Tryz.prog 198 [(.val (.int .u64 0)),(.val (.int .u64 0)),(.val (.int .u64 0)),(.val (.int .u64 0)),(.val (.int .u64 0)),(.val (.int .u64 0)),(.val (.int .u64 0)),(.val (.int .u64 0)),(.val (.int .u64 0)),(.val (.int .u64 0)),(.val (.int .u64 0))]:=⟨by kernel_rfl⟩
instance:AggT Tryz.prog 198 11:=⟨by kernel_rfl⟩
instance:ArrT Tryz.prog 198 11 1:=⟨by kernel_rfl⟩
instance:ArrT Tryz.prog 200 40 1:=⟨by kernel_rfl⟩
instance:ZeroT Tryz.prog 202 ([(.val (.bool false))]++List.replicate 40 (.val (.int .i64 0))):=⟨by kernel_rfl⟩
instance:AggT Tryz.prog 202 41:=⟨by kernel_rfl⟩
instance:FieldT Tryz.prog 202 0 0 0:=⟨by kernel_rfl⟩
instance:FieldT Tryz.prog 202 1 1 39:=⟨by kernel_rfl⟩
instance:StructT Tryz.prog 202 ([(.bool false)]++List.replicate 40 (.int .i64 0)) [(0,1),(1,40)]:=⟨by kernel_rfl⟩
instance:OneT Tryz.prog 212:=⟨by kernel_rfl⟩
instance:FieldT Tryz.prog 214 0 0 0:=⟨by kernel_rfl⟩
instance:FieldT Tryz.prog 214 1 1 0:=⟨by kernel_rfl⟩
instance:StructT Tryz.prog 214 [(.pointer none),(.int .i64 0)] [(0,1),(1,1)]:=⟨by kernel_rfl⟩
instance:ZeroT Tryz.prog 237 [(.val (.int .u64 0)),(.val (.int .u64 0))]:=⟨by kernel_rfl⟩
instance:AggT Tryz.prog 237 2:=⟨by kernel_rfl⟩
instance:FieldT Tryz.prog 237 0 0 0:=⟨by kernel_rfl⟩
instance:FieldT Tryz.prog 237 1 1 0:=⟨by kernel_rfl⟩
instance:StructT Tryz.prog 237 [(.int .u64 0),(.int .u64 0)] [(0,1),(1,1)]:=⟨by kernel_rfl⟩
instance:ZeroT Tryz.prog 240 (List.replicate 18 (.val (.int .i64 0))):=⟨by kernel_rfl⟩
instance:AggT Tryz.prog 240 18:=⟨by kernel_rfl⟩
instance:ArrT Tryz.prog 240 18 1:=⟨by kernel_rfl⟩
instance:ZeroT Tryz.prog 245 [(.val (.string ⟨#[]⟩)),(.val (.int .i64 0)),(.val (.int .u64 0)),(.val (.int .u64 0))]:=⟨by kernel_rfl⟩
instance:AggT Tryz.prog 245 4:=⟨by kernel_rfl⟩
instance:StructT Tryz.prog 245 [(.string ⟨#[]⟩),(.int .i64 0),(.int .u64 0),(.int .u64 0)] [(0,1),(1,1),(2,1),(3,1)]:=⟨by kernel_rfl⟩
instance:FieldT Tryz.prog 248 0 0 0:=⟨by kernel_rfl⟩
instance:FieldT Tryz.prog 248 1 1 0:=⟨by kernel_rfl⟩
instance:StructT Tryz.prog 248 [(.string ⟨#[]⟩),(.bool false)] [(0,1),(1,1)]:=⟨by kernel_rfl⟩
instance:FieldT Tryz.prog 262 0 0 0:=⟨by kernel_rfl⟩
instance:StructT Tryz.prog 262 [(.slice none 0 0)] [(0,1)]:=⟨by kernel_rfl⟩
end Go.Proofs.YtopiioklkkiedaaGreatDoor
end
section
set_option maxHeartbeats 12800000
set_option maxRecDepth 100000
namespace Go.Lg
open Go Go.RowKit
theorem strs_eq {p q:ByteArray} {r:Bool} (h:(p.data.toList==q.data.toList)=r):(p.toList==q.toList)=r:=by rw [ByteArray.toList_eq,ByteArray.toList_eq,h]
theorem str_at {l:List UInt8} {i:Nat} {b:UInt8} (h:l[i]? = some b):(⟨l.toArray⟩:ByteArray)[i]? = some b:=by
 obtain ⟨hi,h⟩:=List.getElem?_eq_some_iff.1 h
 have hs:i<(⟨l.toArray⟩:ByteArray).size:=by simpa [ByteArray.size] using hi
 rw [getElem?_pos _ i hs]
 exact congrArg some h
theorem str_cut (l:List UInt8) (a b:Nat):(⟨l.toArray⟩:ByteArray).extract a b=⟨((l.drop a).take (b-a)).toArray⟩:=by
 apply ByteArray.ext
 apply Array.ext'
 rw [Lib.extract_data]
theorem ev_bool {b c:Bool} (h:b=c):some (LV.sv (.one (.val (.bool b))))=some (LV.sv (.one (.val (.bool c)))):=by rw [h]
end Go.Lg
namespace Go.Proofs.YtopiioklkkiedaaGreatDoor
open Go Go.Lg
abbrev Lb (b:Bool):LV:=.sv (.one (.val (.bool b)))
abbrev Ln (k:IntKind) (n:Int):LV:=.sv (.one (.val (.int k n)))
abbrev Ls (l:List UInt8):LV:=.sv (.one (.val (.string ⟨l.toArray⟩)))
abbrev Sb (b:Bool):SV:=.one (.val (.bool b))
abbrev Sn (k:IntKind) (n:Int):SV:=.one (.val (.int k n))
abbrev Ss (l:List UInt8):SV:=.one (.val (.string ⟨l.toArray⟩))
abbrev Lp (k:Nat):LV:=.sv (.one (.ptr k 0))
abbrev vs (l:List UInt8):CV:=.val (.string ⟨l.toArray⟩)
end Go.Proofs.YtopiioklkkiedaaGreatDoor
end
section
set_option maxHeartbeats 12800000
set_option maxRecDepth 100000
namespace Go.Proofs.YtopiioklkkiedaaGreatDoor
open Go Go.Lg
abbrev Li (b:Bool) (h l:Int):LV:=.sv (.agg [.val (.bool b),.val (.int .u64 h),.val (.int .u64 l)])
abbrev Lz (h l:Int):LV:=.sv (.agg [.val (.int .u64 h),.val (.int .u64 l)])
abbrev LI (b:Bool) (N:Int):LV:=Li b (N/18446744073709551616) (N%18446744073709551616)
abbrev LZ (N:Int):LV:=Lz (N/18446744073709551616) (N%18446744073709551616)
abbrev SZ (N:Int):SV:=.agg [.val (.int .u64 (N/18446744073709551616)),.val (.int .u64 (N%18446744073709551616))]
abbrev SI (b:Bool) (N:Int):SV:=.agg [.val (.bool b),.val (.int .u64 (N/18446744073709551616)),.val (.int .u64 (N%18446744073709551616))]
def In2 (N:Int):Prop:=0≤N∧N<340282366920938463463374607431768211456
variable (X:Nat→Option Obj)
theorem sizeOf_spec (b:Bool) (h l:Int):PSpec Tryz.prog X 145 [Li b h l] (Lz h l):=by
 refine cC Tryz.func145 rfl y5 rfl rfl ?_
 intro C
 (refine aA<|rgN<|aL O O O dO<|aP O dO ?_;refine aB<|aA<|rgN<|kfa O O ?_;refine kl1 O O O<|kfa O O ?_;refine kl1 O O O<|aT O O y2 y36 dO ?_;refine aM O O O O O O dO ?_;refine aB<|aI ?_)
 exact yF
theorem zero_spec (N:Int) (hN:In2 N) (r:Bool) (hr:(N==0)=r):PSpec Tryz.prog X 147 [LZ N] (Lb r):=by
 subst hr
 obtain ⟨h0,h1⟩:=hN
 refine cC Tryz.func147 rfl y5 rfl rfl ?_
 intro C
 by_cases ha:N/18446744073709551616=0
 ·by_cases hb:N%18446744073709551616=0
  ·(refine aA<|rgN<|aL O O O dO<|kas O<|aB<|aA<|rgN<|kfa O O ?_;refine kl1 O O O<|keq O O (cR y3)<|kmv O<|aN O O (dP O O) ?_;refine aO O O O (dP O O) ?_;refine bC O O (cR y3) (dP O O) ?_;refine kpt O O<|kas O<|aB<|aI ?_)
   exact ⟨[_],⟨rfl,trivial⟩,by rw [show (N==0)=true from cR y3];rfl⟩
  ·(refine aA<|rgN<|aL O O O dO<|kas O<|aB<|aA<|rgN<|kfa O O ?_;refine kl1 O O O<|keq O O (cR y3)<|kmv O<|aN O O (dP O O) ?_;refine aO O O O (dP O O) ?_;refine bC O O (cN y3) (dP O O) ?_;refine kpt O O<|kas O<|aB<|aI ?_)
   exact ⟨[_],⟨rfl,trivial⟩,by rw [show (N==0)=false from cN y3];rfl⟩
 ·(refine aA<|rgN<|aL O O O dO<|kas O<|aB<|aA<|rgN<|kfa O O ?_;refine kl1 O O O<|keq O O (cN y3)<|kmv O<|aC O O O<|aC O O O<|aC O O O<|kpf O O<|kas O<|aB<|aI ?_)
  exact ⟨[_],⟨rfl,trivial⟩,by rw [show (N==0)=false from cN y3];rfl⟩
theorem fits_spec (N:Int) (hN:In2 N) (r:Bool) (hr:decide (N<170141183460469231731687303715884105728)=r):PSpec Tryz.prog X 146 [LZ N] (Lb r):=by
 subst hr
 obtain ⟨h0,h1⟩:=hN
 refine cC Tryz.func146 rfl y5 rfl rfl ?_
 intro C
 (refine aA<|rgN<|aL O O O dO<|kas O<|aB<|aA<|rgN<|kfa O O ?_;refine kl1 O O O<|klt O O O<|kas O<|aB<|aI ?_)
 exact ⟨[_],⟨rfl,trivial⟩,by rw [decide_eq_decide.2 (show (N/18446744073709551616<9223372036854775808)↔N<170141183460469231731687303715884105728 by omega)];rfl⟩
def formB (b:Bool) (N:Int):Bool:=decide (N<170141183460469231731687303715884105728) && !(b&&N==0)
theorem Form_spec (b:Bool) (N:Int) (hN:In2 N) (r:Bool) (hr:formB b N=r):PSpec Tryz.prog X 106 [LI b N] (Lb r):=by
 subst hr
 refine cC Tryz.func106 rfl y5 rfl rfl ?_
 intro C
 cases b
 ·(refine aA<|rgN<|aL O O O dO<|kas O<|aB<|aA<|aA<|rgN<|kfa O O ?_;refine kl1 O O O<|aB<|aF O ?_;refine aH ?_;refine aA<|rgN<|aK O O O dO ?_;refine kca O O (sizeOf_spec _ _ _ _)<|kca O O (fits_spec _ _ hN _ O)<|kas O<|aB<|aI ?_)
  exact ⟨[_],⟨rfl,trivial⟩,by simp [formB,resOf]⟩
 ·by_cases hf:N<170141183460469231731687303715884105728
  ·(refine aA<|rgN<|aL O O O dO<|kas O<|aB<|aA<|aA<|rgN<|kfa O O ?_;refine kl1 O O O<|aB<|aE O ?_;refine aA<|rgN<|aK O O O dO ?_;refine kca O O (sizeOf_spec _ _ _ _)<|kca O O (fits_spec _ _ hN true (cL hf))<|kmv O<|aK O O O (dP O O) ?_;refine gca O O (sizeOf_spec _ _ _ _) O O<|gca O O (zero_spec _ _ hN _ O) O O<|aV O O (dP O O) ?_;refine kpt O O<|kas O<|aB<|aI ?_)
   exact ⟨[_],⟨rfl,trivial⟩,by simp [formB,resOf,hf]⟩
  ·(refine aA<|rgN<|aL O O O dO<|kas O<|aB<|aA<|aA<|rgN<|kfa O O ?_;refine kl1 O O O<|aB<|aE O ?_;refine aA<|rgN<|aK O O O dO ?_;refine kca O O (sizeOf_spec _ _ _ _)<|kca O O (fits_spec _ _ hN false (cK hf))<|kmv O<|aC O O O<|aC O O O<|aC O O O<|aC O O O<|kpf O O<|kas O<|aB<|aI ?_)
   exact ⟨[_],⟨rfl,trivial⟩,by simp [formB,resOf,hf]⟩
end Go.Proofs.YtopiioklkkiedaaGreatDoor
end
section
set_option maxHeartbeats 12800000
set_option maxRecDepth 100000
namespace Go.Proofs.YtopiioklkkiedaaGreatDoor
open Go Go.Lg
variable (X:Nat→Option Obj)
theorem add64 {x y c:Int} (hb:0≤x∧0≤y∧0≤c∧c≤1) {s t:Int} (hs:(x+y+c)%18446744073709551616=s) (ht:(x+y+c)/18446744073709551616=t):
  NSpec Tryz.prog 230 [.int .u64 x,.int .u64 y,.int .u64 c] (.tuple #[.int .u64 s,.int .u64 t]):=
 NSpec.add64 Tryz.func230 y5 y5 y5 y5 x y c hb hs ht
theorem sub64 {x y c:Int} (hb:0≤x∧0≤y∧0≤c∧c≤1∧y≤18446744073709551615) {s t:Int} (hs:(x-y-c)%18446744073709551616=s) (ht:(if x<y+c then 1 else 0)=t):
  NSpec Tryz.prog 231 [.int .u64 x,.int .u64 y,.int .u64 c] (.tuple #[.int .u64 s,.int .u64 t]):=
 NSpec.sub64 Tryz.func231 y5 y5 y5 y5 x y c hb hs ht
theorem bothForm_spec (b c:Bool) (M N:Int) (hM:In2 M) (hN:In2 N) (r:Bool) (hr:(formB b M&&formB c N)=r):PSpec Tryz.prog X 198 [LI b M,LI c N] (Lb r):=by
 subst hr
 refine cC Tryz.func198 rfl y5 rfl rfl ?_
 intro C
 cases h1:formB b M
 ·(refine aA<|rgN<|aL O O O dO<|aL O O O dO<|kas O<|aB<|aA<|rgN<|aK O O O dO ?_;refine kca O O (Form_spec _ _ _ hM _ h1)<|kmv O<|aC O O O<|aC O O O<|kpf O O<|kas O<|aB<|aI ?_)
  exact ⟨[_],⟨rfl,trivial⟩,by simp [resOf]⟩
 ·(refine aA<|rgN<|aL O O O dO<|aL O O O dO<|kas O<|aB<|aA<|rgN<|aK O O O dO ?_;refine kca O O (Form_spec _ _ _ hM _ h1)<|kmv O<|aK O O O (dP O O) ?_;refine gca O O (Form_spec _ _ _ hN _ O) O O<|kpt O O<|kas O<|aB<|aI ?_)
  exact ⟨[_],⟨rfl,trivial⟩,by simp [resOf]⟩
def sg (b:Bool) (N:Int):Bool:=b && !(N==0)
theorem number_spec (b:Bool) (N:Int) (hN:In2 N) (r:Bool) (hr:sg b N=r):PSpec Tryz.prog X 204 [Lb b,LZ N] (LI r N):=by
 subst hr
 refine cC Tryz.func204 rfl y5 rfl rfl ?_
 intro C
 cases b
 ·(refine aA<|rgN<|aL O O O dO<|aP O dO ?_;refine aB<|aA<|rgD mixed<|kmv O<|kmv O<|aC O O O<|aC O O O<|aC O O O<|kpf O O<|kfa O O ?_;refine kl1 O O O<|kfa O O ?_;refine kl1 O O O<|aT O O y2 y28 dO ?_;refine aM O O O O O O dO ?_;refine aB<|rgA ?_;refine aI ?_)
  exact yF
 ·(refine aA<|rgN<|aL O O O dO<|aP O dO ?_;refine aB<|aA<|rgD mixed<|kmv O<|kmv O<|aK O O O (dP O O) ?_;refine gca O O (zero_spec _ _ hN _ O) O O<|aV O O (dP O O) ?_;refine kpt O O<|kfa O O ?_;refine kl1 O O O<|kfa O O ?_;refine kl1 O O O<|aT O O y2 y28 dO ?_;refine aM O O O O O O dO ?_;refine aB<|rgA ?_;refine aI ?_)
  exact yF
theorem plus_spec (M N:Int) (hM:In2 M) (hN:In2 N) (hS:In2 (M+N)):PSpec Tryz.prog X 213 [LZ M,LZ N] (LZ (M+N)):=by
 unfold In2 at *
 refine cC Tryz.func213 rfl y5 rfl rfl ?_
 intro C
 (refine aA<|rgN<|aL O O O dO<|aL O O O dO<|aP O dO ?_;refine aB<|aA<|rgN<|kfa O O ?_;refine kl1 O O O<|kfa O O ?_;refine kl1 O O O<|K.callN O O (add64 (s:=(M+N)%18446744073709551616) (t:=(M%18446744073709551616+N%18446744073709551616)/18446744073709551616) y3 y3 y3) O dO<|kmv O<|kex O O<|kex O O<|kas O<|kas O<|aB<|aA<|rgN<|kfa O O ?_;refine kl1 O O O<|kfa O O ?_;refine kl1 O O O<|kmv O<|K.callN O O (add64 (s:=(M+N)/18446744073709551616) (t:=0) y3 y3 y3) O dO<|kmv O<|kex O O<|kex O O<|kas O<|kas O<|aB<|aA<|rgN<|kmv O<|kmv O<|aT O O y2 y36 dO ?_;refine aM O O O O O O dO ?_;refine aB<|aI ?_)
 exact yF
theorem minus_spec (M N:Int) (hM:In2 M) (hN:In2 N) (hS:N≤M):PSpec Tryz.prog X 214 [LZ M,LZ N] (LZ (M-N)):=by
 unfold In2 at *
 refine cC Tryz.func214 rfl y5 rfl rfl ?_
 intro C
 (refine aA<|rgN<|aL O O O dO<|aL O O O dO<|aP O dO ?_;refine aB<|aA<|rgN<|kfa O O ?_;refine kl1 O O O<|kfa O O ?_;refine kl1 O O O<|K.callN O O (sub64 (s:=(M-N)%18446744073709551616) (t:=(if M%18446744073709551616<N%18446744073709551616 then 1 else 0)) y3 y3 y21) O dO<|kmv O<|kex O O<|kex O O<|kas O<|kas O<|aB<|aA<|rgN<|kfa O O ?_;refine kl1 O O O<|kfa O O ?_;refine kl1 O O O<|kmv O<|K.callN O O (sub64 (s:=(M-N)/18446744073709551616) (t:=0) y3 y3 y3) O dO<|kmv O<|kex O O<|kex O O<|kas O<|kas O<|aB<|aA<|rgN<|kmv O<|kmv O<|aT O O y2 y36 dO ?_;refine aM O O O O O O dO ?_;refine aB<|aI ?_)
 exact yF
end Go.Proofs.YtopiioklkkiedaaGreatDoor
end
section
set_option maxHeartbeats 12800000
set_option maxRecDepth 100000
namespace Go.Proofs.YtopiioklkkiedaaGreatDoor
open Go Go.Lg
variable (X:Nat→Option Obj)
theorem isNaN_spec (a:Int):PSpec Tryz.prog X 235 [Ln .u64 a] (Lb false):=by
 refine cC Tryz.func235 rfl y5 rfl rfl ?_
 intro C
 (refine aA<|rgN<|kas O<|aB<|aA<|rgN<|kmv O<|kmv O<|kne O O ((cO y3))<|kas O<|aB<|aI ?_)
 exact y6
def cmpI (a b:Int):Int:=if a<b then -1 else if b<a then 1 else 0
theorem Compare_spec (a b:Int) (r:Int) (hr:cmpI a b=r):PSpec Tryz.prog X 225 [Ln .u64 a,Ln .u64 b] (Ln .i64 r):=by
 subst hr
 refine cC Tryz.func225 rfl y5 rfl rfl ?_
 intro C
 by_cases h:a<b
 ·(refine aA<|rgN<|kas O<|aB<|aA<|rgN<|kmv O<|kca O O (isNaN_spec _ _)<|kas O<|aB<|aA<|rgN<|kmv O<|kca O O (isNaN_spec _ _) ?_;refine kas O<|aB<|aA<|aA<|rgN<|kmv O<|aB<|aF O ?_;refine aH ?_;refine aA<|aA<|rgN<|kmv O<|aB<|aF O ?_;refine aH ?_;refine aA<|aA<|rgN<|kmv O<|kmv O<|klt O O (cL y3)<|aB<|aE O ?_;refine aA<|rgN<|kas O<|aB<|aI ?_)
  exact ⟨[_],⟨rfl,trivial⟩,by simp [cmpI,h,resOf]⟩
 ·by_cases h':b<a
  ·(refine aA<|rgN<|kas O<|aB<|aA<|rgN<|kmv O<|kca O O (isNaN_spec _ _)<|kas O<|aB<|aA<|rgN<|kmv O<|kca O O (isNaN_spec _ _) ?_;refine kas O<|aB<|aA<|aA<|rgN<|kmv O<|aB<|aF O ?_;refine aH ?_;refine aA<|aA<|rgN<|kmv O<|aB<|aF O ?_;refine aH ?_;refine aA<|aA<|rgN<|kmv O<|kmv O<|klt O O (cK y3)<|aB<|aF O ?_;refine aH ?_;refine aA<|aA<|rgN<|kmv O<|kmv O<|aS O O (cL y3) dO<|aB<|aE O ?_;refine aA<|rgN<|kas O<|aB<|aI ?_)
   exact ⟨[_],⟨rfl,trivial⟩,by simp [cmpI,h,h',resOf]⟩
  ·(refine aA<|rgN<|kas O<|aB<|aA<|rgN<|kmv O<|kca O O (isNaN_spec _ _)<|kas O<|aB<|aA<|rgN<|kmv O<|kca O O (isNaN_spec _ _) ?_;refine kas O<|aB<|aA<|aA<|rgN<|kmv O<|aB<|aF O ?_;refine aH ?_;refine aA<|aA<|rgN<|kmv O<|aB<|aF O ?_;refine aH ?_;refine aA<|aA<|rgN<|kmv O<|kmv O<|klt O O (cK y3)<|aB<|aF O ?_;refine aH ?_;refine aA<|aA<|rgN<|kmv O<|kmv O<|aS O O (cK y3) dO<|aB<|aF O ?_;refine aH ?_;refine aA<|rgN<|kas O<|aB<|aI ?_)
   exact ⟨[_],⟨rfl,trivial⟩,by simp [cmpI,h,h',resOf]⟩
theorem compare_spec (M N:Int) (r:Int) (hr:cmpI M N=r):PSpec Tryz.prog X 199 [LZ M,LZ N] (Ln .i64 r):=by
 refine cC Tryz.func199 rfl y5 rfl rfl ?_
 intro C
 by_cases h:M/18446744073709551616=N/18446744073709551616
 ·(refine aA<|rgN<|aL O O O dO<|aL O O O dO<|kas O<|aB<|aA<|aA<|rgN<|kfa O O ?_;refine kl1 O O O<|kfa O O ?_;refine kl1 O O O<|kne O O ((cO y3))<|aB<|aF O ?_;refine aH ?_;refine aA<|rgN<|kfa O O ?_;refine kl1 O O O<|kfa O O ?_;refine kl1 O O O<|kca O O (Compare_spec _ _ _ r (by subst hr;unfold cmpI;(repeat' split)<;>omega))<|kas O<|aB<|aI ?_)
  exact y6
 ·(refine aA<|rgN<|aL O O O dO<|aL O O O dO<|kas O<|aB<|aA<|aA<|rgN<|kfa O O ?_;refine kl1 O O O<|kfa O O ?_;refine kl1 O O O<|kne O O (cP y3)<|aB<|aE O ?_;refine aA<|rgN<|kfa O O ?_;refine kl1 O O O<|kfa O O ?_;refine kl1 O O O<|kca O O (Compare_spec _ _ _ r (by subst hr;unfold cmpI;(repeat' split)<;>omega))<|kas O<|aB<|aI ?_)
  exact y6
abbrev S0:SV:=.agg [.val (.bool false),.val (.int .u64 0),.val (.int .u64 0)]
theorem bounded_ok (b:Bool) (S:Int) (hS:0≤S∧S<170141183460469231731687303715884105728) (r:Bool) (hr:sg b S=r):PSpec Tryz.prog X 212 [Lb b,LZ S] (.tup [SI r S,Sn .i64 0]):=by
 have h2:In2 S:=⟨hS.1,by omega⟩
 refine cC Tryz.func212 rfl y5 rfl rfl ?_
 intro C
 (refine aA<|rgN<|aL O O O dO<|aP O dO ?_;refine kas O<|aB<|aA<|aA<|rgN<|aK O O O dO ?_;refine kca O O (fits_spec _ _ h2 true (cL y3))<|aV O O dO<|aB<|aF O ?_;refine aH ?_;refine aA<|rgN<|kmv O<|aK O O O dO ?_;refine kca O O (number_spec _ _ _ h2 _ hr)<|aM O O O O O O dO ?_;refine kas O<|aB<|aI ?_)
 exact y4
theorem bounded_no (b:Bool) (S:Int) (hS:170141183460469231731687303715884105728≤S) (h2:In2 S):PSpec Tryz.prog X 212 [Lb b,LZ S] (.tup [S0,Sn .i64 3]):=by
 refine cC Tryz.func212 rfl y5 rfl rfl ?_
 intro C
 (refine aA<|rgN<|aL O O O dO<|aP O dO ?_;refine kas O<|aB<|aA<|aA<|rgN<|aK O O O dO ?_;refine kca O O (fits_spec _ _ h2 false (cK y3))<|aV O O dO<|aB<|aE O ?_;refine aA<|rgN<|aT O O y2 y28 dO ?_;refine aM O O O O O O dO ?_;refine kas O<|aB<|aI ?_)
 exact y4
def Lim (N:Int):Prop:=0≤N∧N<170141183460469231731687303715884105728
theorem formB_lim {b:Bool} {N:Int} (hN:In2 N) (h:formB b N=true):Lim N∧(b=true→N≠0):=by
 simp only [formB,Bool.and_eq_true,decide_eq_true_eq,Bool.not_eq_true',Bool.and_eq_false_iff,beq_eq_false_iff_ne] at h
 refine ⟨⟨hN.1,h.1⟩,fun hb => ?_⟩
 rcases h.2 with h2|h2
 ·rw [hb] at h2;simp at h2
 ·exact h2
theorem Add_arg (b c:Bool) (M N:Int) (hM:In2 M) (hN:In2 N) (hf:(formB b M&&formB c N)=false):PSpec Tryz.prog X 183 [LI b M,LI c N] (.tup [S0,Sn .i64 1]):=by
 refine cC Tryz.func183 rfl y5 rfl rfl ?_
 intro C
 (refine aA<|rgN<|aL O O O dO<|aL O O O dO<|aP O dO ?_;refine kas O<|aB<|aA<|aA<|rgN<|aK O O O dO ?_;refine aK O O O dO ?_;refine kca O O (bothForm_spec _ _ _ _ _ hM hN _ hf)<|aV O O dO<|aB<|aE O ?_;refine aA<|rgN<|aT O O y2 y28 dO ?_;refine aM O O O O O O dO ?_;refine kas O<|aB<|aI ?_)
 exact y4
theorem Add_same (b:Bool) (M N:Int) (hM:In2 M) (hN:In2 N) (hf:(formB b M&&formB b N)=true) (hS:M+N<170141183460469231731687303715884105728) (r:Bool) (hr:sg b (M+N)=r):
  PSpec Tryz.prog X 183 [LI b M,LI b N] (.tup [SI r (M+N),Sn .i64 0]):=by
 have h3:In2 (M+N):=by unfold In2 at *;omega
 refine cC Tryz.func183 rfl y5 rfl rfl ?_
 intro C
 have hp:=plus_spec X M N hM hN h3
 have hb:=bounded_ok X b (M+N) ⟨h3.1,hS⟩ r hr
 cases b
 all_goals
  ((refine aA<|rgN<|aL O O O dO<|aL O O O dO<|aP O dO ?_;refine kas O<|aB<|aA<|aA<|rgN<|aK O O O dO ?_;refine aK O O O dO ?_;refine kca O O (bothForm_spec _ _ _ _ _ hM hN _ hf)<|aV O O dO<|aB<|aF O ?_;refine aH ?_;refine aA<|rgD mixed<|aK O O O dO ?_;refine kca O O (sizeOf_spec _ _ _ _)<|aK O O O dO ?_;refine kca O O (sizeOf_spec _ _ _ _)<|aP O dO ?_;refine aP O dO ?_;refine aM O O O O O O dO ?_;refine aM O O O O O O dO ?_;refine aB<|rgA ?_);(refine aA<|aG<|aA<|rgN<|kfa O O ?_;refine kl1 O O O<|kfa O O ?_;refine kl1 O O O<|K.eqlB O O O dO<|kas O<|aB<|aE O ?_;refine aA<|rgD mixed<|kfa O O ?_;refine kl1 O O O<|aK O O O dO ?_;refine aK O O O dO ?_;refine kca O O (hp)<|kca O O (hb)<|kex O O<|kex O O<|aM O O O O O O dO ?_;refine kas O<|aB<|rgA ?_;refine aI ?_))
  exact y4
theorem Add_over (b:Bool) (M N:Int) (hM:In2 M) (hN:In2 N) (hf:(formB b M&&formB b N)=true) (hS:170141183460469231731687303715884105728≤M+N):
  PSpec Tryz.prog X 183 [LI b M,LI b N] (.tup [S0,Sn .i64 3]):=by
 have hf1:=(formB_lim hM (by simp at hf;exact hf.1)).1
 have hf2:=(formB_lim hN (by simp at hf;exact hf.2)).1
 have h3:In2 (M+N):=by unfold Lim In2 at *;omega
 refine cC Tryz.func183 rfl y5 rfl rfl ?_
 intro C
 have hp:=plus_spec X M N hM hN h3
 have hb:=bounded_no X b (M+N) hS h3
 cases b
 all_goals
  ((refine aA<|rgN<|aL O O O dO<|aL O O O dO<|aP O dO ?_;refine kas O<|aB<|aA<|aA<|rgN<|aK O O O dO ?_;refine aK O O O dO ?_;refine kca O O (bothForm_spec _ _ _ _ _ hM hN _ hf)<|aV O O dO<|aB<|aF O ?_;refine aH ?_;refine aA<|rgD mixed<|aK O O O dO ?_;refine kca O O (sizeOf_spec _ _ _ _)<|aK O O O dO ?_;refine kca O O (sizeOf_spec _ _ _ _)<|aP O dO ?_;refine aP O dO ?_;refine aM O O O O O O dO ?_;refine aM O O O O O O dO ?_;refine aB<|rgA ?_);(refine aA<|aG<|aA<|rgN<|kfa O O ?_;refine kl1 O O O<|kfa O O ?_;refine kl1 O O O<|K.eqlB O O O dO<|kas O<|aB<|aE O ?_;refine aA<|rgD mixed<|kfa O O ?_;refine kl1 O O O<|aK O O O dO ?_;refine aK O O O dO ?_;refine kca O O (hp)<|kca O O (hb)<|kex O O<|kex O O<|aM O O O O O O dO ?_;refine kas O<|aB<|rgA ?_;refine aI ?_))
  exact y4
theorem Add_less (b:Bool) (M N:Int) (hM:In2 M) (hN:In2 N) (hf:(formB b M&&formB (!b) N)=true) (hS:M<N) (r:Bool) (hr:sg (!b) (N-M)=r):
  PSpec Tryz.prog X 183 [LI b M,LI (!b) N] (.tup [SI r (N-M),Sn .i64 0]):=by
 have h3:In2 (N-M):=by unfold In2 at *;omega
 refine cC Tryz.func183 rfl y5 rfl rfl ?_
 intro C
 have hb:=number_spec X (!b) (N-M) h3 r hr
 cases b
 all_goals
  ((refine aA<|rgN<|aL O O O dO<|aL O O O dO<|aP O dO ?_;refine kas O<|aB<|aA<|aA<|rgN<|aK O O O dO ?_;refine aK O O O dO ?_;refine kca O O (bothForm_spec _ _ _ _ _ hM hN _ hf)<|aV O O dO<|aB<|aF O ?_;refine aH ?_;refine aA<|rgD mixed<|aK O O O dO ?_;refine kca O O (sizeOf_spec _ _ _ _)<|aK O O O dO ?_;refine kca O O (sizeOf_spec _ _ _ _)<|aP O dO ?_;refine aP O dO ?_;refine aM O O O O O O dO ?_;refine aM O O O O O O dO ?_;refine aB<|rgA ?_);(refine aA<|aG<|aA<|rgN<|kfa O O ?_;refine kl1 O O O<|kfa O O ?_;refine kl1 O O O<|K.eqlB O O O dO<|kas O<|aB<|aF O ?_;refine aA<|rgN<|aK O O O dO ?_;refine aK O O O dO ?_;refine kca O O (compare_spec _ _ _ (-1) (by simp [cmpI,hS]))<|klt O O (cL y3)<|kas O<|aB<|aE O ?_;refine aA<|rgD mixed<|kfa O O ?_;refine kl1 O O O<|aK O O O dO ?_;refine aK O O O dO ?_;refine kca O O (minus_spec _ _ _ hN hM (Int.le_of_lt hS))<|kca O O (hb)<|aM O O O O O O dO ?_;refine kas O<|aB<|rgA ?_;refine aI ?_))
  exact y4
theorem Add_more (b:Bool) (M N:Int) (hM:In2 M) (hN:In2 N) (hf:(formB b M&&formB (!b) N)=true) (hS:N≤M) (r:Bool) (hr:sg b (M-N)=r):
  PSpec Tryz.prog X 183 [LI b M,LI (!b) N] (.tup [SI r (M-N),Sn .i64 0]):=by
 have h3:In2 (M-N):=by unfold In2 at *;omega
 have h5:cmpI M N=0∨cmpI M N=1:=by unfold cmpI;(repeat' split)<;>omega
 refine cC Tryz.func183 rfl y5 rfl rfl ?_
 intro C
 have hb:=number_spec X b (M-N) h3 r hr
 rcases h5 with h5|h5<;>cases b
 all_goals
  ((refine aA<|rgN<|aL O O O dO<|aL O O O dO<|aP O dO ?_;refine kas O<|aB<|aA<|aA<|rgN<|aK O O O dO ?_;refine aK O O O dO ?_;refine kca O O (bothForm_spec _ _ _ _ _ hM hN _ hf)<|aV O O dO<|aB<|aF O ?_;refine aH ?_;refine aA<|rgD mixed<|aK O O O dO ?_;refine kca O O (sizeOf_spec _ _ _ _)<|aK O O O dO ?_;refine kca O O (sizeOf_spec _ _ _ _)<|aP O dO ?_;refine aP O dO ?_;refine aM O O O O O O dO ?_;refine aM O O O O O O dO ?_;refine aB<|rgA ?_);(refine aA<|aG<|aA<|rgN<|kfa O O ?_;refine kl1 O O O<|kfa O O ?_;refine kl1 O O O<|K.eqlB O O O dO<|kas O<|aB<|aF O ?_;refine aA<|rgN<|aK O O O dO ?_;refine aK O O O dO ?_;refine kca O O (compare_spec _ _ _ _ h5)<|klt O O (cK y3)<|kas O<|aB<|aF O ?_;refine aH ?_;refine aA<|rgD mixed<|kfa O O ?_;refine kl1 O O O<|aK O O O dO ?_;refine aK O O O dO ?_;refine kca O O (minus_spec _ _ _ hM hN hS)<|kca O O (hb)<|aM O O O O O O dO ?_;refine kas O<|aB<|rgA ?_);(refine aI ?_))
  exact y4
end Go.Proofs.YtopiioklkkiedaaGreatDoor
end
section
set_option maxHeartbeats 12800000
set_option maxRecDepth 100000
namespace Go.Proofs.YtopiioklkkiedaaGreatDoor
open Go Go.Lg
variable (X:Nat→Option Obj)
def mg (z:Int):Int:=if z<0 then -z else z
def R127 (z:Int):Prop := -170141183460469231731687303715884105728<z∧z<170141183460469231731687303715884105728
abbrev LQ (z:Int):LV:=LI (decide (z<0)) (mg z)
abbrev SQ (z:Int):SV:=SI (decide (z<0)) (mg z)
theorem mg_neg {z:Int} (h:z<0):mg z = -z:=if_pos h
theorem mg_pos {z:Int} (h:0≤z):mg z=z:=if_neg y3
theorem mg_in2 {z:Int} (h:R127 z):In2 (mg z):=by unfold mg In2 R127 at *;split<;>omega
theorem mg_lim {z:Int} (h:R127 z):mg z<170141183460469231731687303715884105728:=by unfold mg R127 at *;split<;>omega
theorem formB_q {z:Int} (h:R127 z):formB (decide (z<0)) (mg z)=true:=by
 have:=mg_lim h
 simp only [formB,cL this,Bool.true_and,Bool.not_eq_true',Bool.and_eq_false_iff,decide_eq_false_iff_not,beq_eq_false_iff_ne]
 unfold mg
 split<;>omega
theorem both_q {x y:Int} (hx:R127 x) (hy:R127 y):(formB (decide (x<0)) (mg x)&&formB (decide (y<0)) (mg y))=true:=by rw [formB_q hx,formB_q hy];rfl
def zv (b:Bool) (N:Int):Int:=if b=true then -N else N
theorem zv_in {b:Bool} {N:Int} (hN:In2 N) (h:formB b N=true):R127 (zv b N)∧decide (zv b N<0)=b∧mg (zv b N)=N:=by
 obtain ⟨⟨h0,h1⟩,h2⟩:=formB_lim hN h
 cases b
 ·refine ⟨?_,?_,?_⟩<;>simp only [zv,Bool.false_eq_true,if_false,R127,mg,decide_eq_false_iff_not]
  ·omega
  ·omega
  ·exact if_neg y3
 ·have:=h2 rfl
  refine ⟨?_,?_,?_⟩<;>simp only [zv,if_true,R127,mg,decide_eq_true_eq]
  ·omega
  ·omega
  ·rw [if_pos y3];omega
theorem LI_q {b:Bool} {N:Int} (hN:In2 N) (h:formB b N=true):LI b N=LQ (zv b N):=by
 obtain ⟨_,h1,h2⟩:=zv_in hN h
 unfold LQ
 rw [h1,h2]
theorem sg_q {b:Bool} {N z:Int} (hN:0≤N) (h:zv b N=z):sg b N=decide (z<0)∧N=mg z:=by
 subst h
 cases b
 ·simp only [zv,sg,Bool.false_and,Bool.false_eq_true,if_false,mg]
  exact ⟨(cK y3).symm,(if_neg y3).symm⟩
 ·simp only [zv,sg,Bool.true_and,if_true,mg]
  refine ⟨?_,by split<;>omega⟩
  by_cases h0:N=0
  ·subst h0;rfl
  ·rw [show (N==0)=false from cN h0,cL y3];rfl
def addR (z:Int):LV:=if -170141183460469231731687303715884105728<z∧z<170141183460469231731687303715884105728 then .tup [SQ z,Sn .i64 0] else .tup [S0,Sn .i64 3]
theorem addR_in {z:Int} (h:R127 z):addR z = .tup [SQ z,Sn .i64 0]:=if_pos h
theorem addR_out {z:Int} (h:¬ R127 z):addR z = .tup [S0,Sn .i64 3]:=if_neg h
theorem tup_q {b:Bool} {N z:Int} (hN:0≤N) (h:zv b N=z):(LV.tup [SI (sg b N) N,Sn .i64 0]) = .tup [SQ z,Sn .i64 0]:=by
 obtain ⟨h1,h2⟩:=sg_q hN h
 unfold SQ
 rw [h1,← h2]
theorem Add_q (x y:Int) (hx:R127 x) (hy:R127 y):PSpec Tryz.prog X 183 [LQ x,LQ y] (addR (x+y)):=by
 have hf:=both_q hx hy
 have h1:=mg_in2 hx
 have h2:=mg_in2 hy
 have h1':=hx
 have h2':=hy
 unfold R127 at h1' h2'
 by_cases cx:x<0<;>by_cases cy:y<0
 all_goals
  unfold LQ
  simp only [cx,cy,decide_true,decide_false] at hf ⊢
 ·have m1:=mg_neg cx
  have m2:=mg_neg cy
  by_cases hs:mg x+mg y<170141183460469231731687303715884105728
  ·have:=Add_same X true (mg x) (mg y) h1 h2 hf hs _ rfl
   rw [tup_q (z:=x+y) (by omega) (by simp [zv];omega)] at this
   rw [addR_in (by unfold R127;omega)]
   exact this
  ·rw [addR_out y2A]
   exact Add_over X true (mg x) (mg y) h1 h2 hf y3
 ·have m1:=mg_neg cx
  have m2:=mg_pos (Int.not_lt.1 cy)
  rw [addR_in (by unfold R127;omega)]
  by_cases hs:mg x<mg y
  ·have:=Add_less X true (mg x) (mg y) h1 h2 hf hs _ rfl
   rw [tup_q (z:=x+y) (by omega) (by simp [zv];omega)] at this
   exact this
  ·have:=Add_more X true (mg x) (mg y) h1 h2 hf y3 _ rfl
   rw [tup_q (z:=x+y) (by omega) (by simp [zv];omega)] at this
   exact this
 ·have m1:=mg_pos (Int.not_lt.1 cx)
  have m2:=mg_neg cy
  rw [addR_in (by unfold R127;omega)]
  by_cases hs:mg x<mg y
  ·have:=Add_less X false (mg x) (mg y) h1 h2 hf hs _ rfl
   rw [tup_q (z:=x+y) (by omega) (by simp [zv];omega)] at this
   exact this
  ·have:=Add_more X false (mg x) (mg y) h1 h2 hf y3 _ rfl
   rw [tup_q (z:=x+y) (by omega) (by simp [zv];omega)] at this
   exact this
 ·have m1:=mg_pos (Int.not_lt.1 cx)
  have m2:=mg_pos (Int.not_lt.1 cy)
  by_cases hs:mg x+mg y<170141183460469231731687303715884105728
  ·have:=Add_same X false (mg x) (mg y) h1 h2 hf hs _ rfl
   rw [tup_q (z:=x+y) (by omega) (by simp [zv];omega)] at this
   rw [addR_in (by unfold R127;omega)]
   exact this
  ·rw [addR_out y2A]
   exact Add_over X false (mg x) (mg y) h1 h2 hf y3
theorem Neg_q (x:Int) (hx:R127 x):PSpec Tryz.prog X 155 [LQ x] (LQ (-x)):=by
 have h1:=mg_in2 hx
 have hn:=number_spec X (!decide (x<0)) (mg x) h1 (decide (-x<0)) (by
  have:=sg_q (b := !decide (x<0)) (N:=mg x) (z := -x) h1.1 (by unfold zv mg;by_cases c:x<0<;>simp [c])
  exact this.1)
 have e:mg (-x)=mg x:=by unfold mg;(repeat' split)<;>omega
 refine cC Tryz.func155 rfl y5 rfl rfl ?_
 intro C
 (refine aA<|rgN<|aL O O O dO<|aP O dO ?_;refine aB<|aA<|aA<|rgN<|aK O O O dO ?_;refine kca O O (Form_spec _ _ _ h1 true (formB_q hx))<|aV O O dO<|aB<|aF O ?_;refine aH ?_;refine aA<|rgD mixed<|kfa O O ?_;refine kl1 O O O<|aV O O dO<|aK O O O dO ?_;refine kca O O (sizeOf_spec _ _ _ _)<|kca O O (hn)<|aM O O O O O O dO ?_;refine aB<|rgA ?_;refine aI ?_)
 unfold LQ
 rw [e]
 exact yF
theorem Sub_arg (b c:Bool) (M N:Int) (hM:In2 M) (hN:In2 N) (hf:(formB b M&&formB c N)=false):PSpec Tryz.prog X 184 [LI b M,LI c N] (.tup [S0,Sn .i64 1]):=by
 refine cC Tryz.func184 rfl y5 rfl rfl ?_
 intro C
 (refine aA<|rgN<|aL O O O dO<|aL O O O dO<|aP O dO ?_;refine kas O<|aB<|aA<|aA<|rgN<|aK O O O dO ?_;refine aK O O O dO ?_;refine kca O O (bothForm_spec _ _ _ _ _ hM hN _ hf)<|aV O O dO<|aB<|aE O ?_;refine aA<|rgN<|aT O O y2 y28 dO ?_;refine aM O O O O O O dO ?_;refine kas O<|aB<|aI ?_)
 exact y4
theorem Sub_q (x y:Int) (hx:R127 x) (hy:R127 y):PSpec Tryz.prog X 184 [LQ x,LQ y] (addR (x-y)):=by
 have hf:=both_q hx hy
 have hny:R127 (-y):=by unfold R127 at *;omega
 have ha:=Add_q X x (-y) hx hny
 have hn:=Neg_q X y hy
 by_cases hz:R127 (x-y)
 all_goals
  first
   | rw [show x + -y=x-y by omega,addR_in hz] at ha;rw [addR_in hz]
   | rw [show x + -y=x-y by omega,addR_out hz] at ha;rw [addR_out hz]
  refine cC Tryz.func184 rfl y5 rfl rfl ?_
  intro C
  (refine aA<|rgN<|aL O O O dO<|aL O O O dO<|aP O dO ?_;refine kas O<|aB<|aA<|aA<|rgN<|aK O O O dO ?_;refine aK O O O dO ?_;refine kca O O (bothForm_spec _ _ _ _ _ (mg_in2 hx) (mg_in2 hy) _ hf)<|aV O O dO<|aB<|aF O ?_;refine aH ?_;refine aA<|rgD mixed<|aK O O O dO ?_;refine aK O O O dO ?_;refine kca O O (hn)<|kca O O (ha)<|kex O O<|kex O O<|aM O O O O O O dO ?_;refine kas O<|aB<|rgA ?_;refine aI ?_)
  exact y4
def sgnI (z:Int):Int:=if z<0 then -1 else if 0<z then 1 else 0
theorem Sign_q (x:Int) (hx:R127 x) (r:Int) (hr:sgnI x=r):PSpec Tryz.prog X 224 [LQ x] (Ln .i64 r):=by
 have h1:=mg_in2 hx
 have hz:∀ r,(mg x==0)=r→PSpec Tryz.prog X 147 [LZ (mg x)] (Lb r):=fun r hr=>zero_spec X (mg x) h1 r hr
 have hF:=Form_spec X _ _ h1 true (formB_q hx)
 refine cC Tryz.func224 rfl y5 rfl rfl ?_
 intro C
 by_cases c:x<0
 ·have hz':=hz false (cN (by rw [mg_neg c];omega))
  have e:sgnI x = -1:=if_pos c
  unfold LQ at hF ⊢
  simp only [c,decide_true] at hF ⊢
  (refine aA<|rgN<|aL O O O dO<|kas O<|aB<|aA<|aG<|aA<|rgN<|aK O O O dO ?_;refine kca O O (hF)<|aV O O dO<|kmv O<|aK O O O (dP O O) ?_;refine gca O O (sizeOf_spec _ _ _ _) O O<|gca O O (hz') O O<|kpf O O<|kas O<|aB<|aF O ?_;refine aA<|rgN<|kfa O O ?_;refine kl1 O O O<|kas O<|aB<|aE O ?_;refine aA<|rgN<|kas O<|aB<|aI ?_)
  exact ⟨[_],⟨rfl,trivial⟩,by rw [← hr,e];rfl⟩
 ·unfold LQ at hF ⊢
  simp only [c,decide_false] at hF ⊢
  by_cases c0:x=0
  ·have hz':=hz true (cR (by rw [mg_pos y3];omega))
   have e:sgnI x=0:=by unfold sgnI;rw [if_neg c,if_neg y3]
   (refine aA<|rgN<|aL O O O dO<|kas O<|aB<|aA<|aG<|aA<|rgN<|aK O O O dO ?_;refine kca O O (hF)<|aV O O dO<|kmv O<|aK O O O (dP O O) ?_;refine gca O O (sizeOf_spec _ _ _ _) O O<|gca O O (hz') O O<|kpf O O<|kas O<|aB<|aE O ?_;refine aA<|rgN<|kas O<|aB<|aI ?_)
   exact ⟨[_],⟨rfl,trivial⟩,by rw [← hr,e];rfl⟩
  ·have hz':=hz false (cN (by rw [mg_pos y3];omega))
   have e:sgnI x=1:=by unfold sgnI;rw [if_neg c,if_pos y3]
   (refine aA<|rgN<|aL O O O dO<|kas O<|aB<|aA<|aG<|aA<|rgN<|aK O O O dO ?_;refine kca O O (hF)<|aV O O dO<|kmv O<|aK O O O (dP O O) ?_;refine gca O O (sizeOf_spec _ _ _ _) O O<|gca O O (hz') O O<|kpf O O<|kas O<|aB<|aF O ?_;refine aA<|rgN<|kfa O O ?_;refine kl1 O O O<|kas O<|aB<|aF O ?_;refine aH ?_;refine aA<|rgN<|kas O<|aB<|aI ?_)
   exact ⟨[_],⟨rfl,trivial⟩,by rw [← hr,e];rfl⟩
theorem Cmp_bad (b c:Bool) (M N:Int) (hM:In2 M) (hN:In2 N) (hf:(formB b M&&formB c N)=false):PSpec Tryz.prog X 150 [LI b M,LI c N] (Ln .i64 0):=by
 refine cC Tryz.func150 rfl y5 rfl rfl ?_
 intro C
 (refine aA<|rgN<|aL O O O dO<|aL O O O dO<|kas O<|aB<|aA<|aG<|aA<|rgN<|aK O O O dO ?_;refine aK O O O dO ?_;refine kca O O (bothForm_spec _ _ _ _ _ hM hN _ hf)<|aV O O dO<|kas O<|aB<|aE O ?_;refine aA<|rgN<|kas O<|aB<|aI ?_)
 exact y6
theorem Cmp_q (x y:Int) (hx:R127 x) (hy:R127 y) (r:Int) (hr:cmpI x y=r):PSpec Tryz.prog X 150 [LQ x,LQ y] (Ln .i64 r):=by
 have hB:=bothForm_spec X _ _ _ _ (mg_in2 hx) (mg_in2 hy) true (both_q hx hy)
 refine cC Tryz.func150 rfl y5 rfl rfl ?_
 intro C
 by_cases cx:x<0<;>by_cases cy:y<0
 all_goals
  unfold LQ at hB ⊢
  simp only [cx,cy,decide_true,decide_false] at hB ⊢
 ·have e:cmpI (mg y) (mg x)=r:=by rw [mg_neg cx,mg_neg cy,← hr];unfold cmpI;(repeat' split)<;>omega
  (refine aA<|rgN<|aL O O O dO<|aL O O O dO<|kas O<|aB<|aA<|aG<|aA<|rgN<|aK O O O dO ?_;refine aK O O O dO ?_;refine kca O O (hB)<|aV O O dO<|kas O<|aB<|aF O ?_;refine aA<|rgN<|kfa O O ?_;refine kl1 O O O<|kmv O<|aN O O (dP O O) ?_;refine aO O O O (dP O O) ?_;refine kpt O O<|kas O<|aB<|aE O ?_;refine aA<|rgD mixed<|aK O O O dO ?_;refine kca O O (sizeOf_spec _ _ _ _)<|aK O O O dO ?_;refine kca O O (sizeOf_spec _ _ _ _)<|kca O O (compare_spec _ _ _ r e)<|kas O<|aB<|rgA ?_;refine aI ?_)
  exact y6
 ·have e:r = -1:=by rw [← hr];unfold cmpI;rw [if_pos y3]
  subst e
  (refine aA<|rgN<|aL O O O dO<|aL O O O dO<|kas O<|aB<|aA<|aG<|aA<|rgN<|aK O O O dO ?_;refine aK O O O dO ?_;refine kca O O (hB)<|aV O O dO<|kas O<|aB<|aF O ?_;refine aA<|rgN<|kfa O O ?_;refine kl1 O O O<|kmv O<|aN O O (dP O O) ?_;refine aO O O O (dP O O) ?_;refine kpt O O<|kas O<|aB<|aF O ?_;refine aA<|rgN<|kfa O O ?_;refine kl1 O O O<|kas O<|aB<|aE O ?_;refine aA<|rgN<|kas O<|aB<|aI ?_)
  exact y6
 ·have e:r=1:=by rw [← hr];unfold cmpI;rw [if_neg y3,if_pos y3]
  subst e
  (refine aA<|rgN<|aL O O O dO<|aL O O O dO<|kas O<|aB<|aA<|aG<|aA<|rgN<|aK O O O dO ?_;refine aK O O O dO ?_;refine kca O O (hB)<|aV O O dO<|kas O<|aB<|aF O ?_;refine aA<|rgN<|kfa O O ?_;refine kl1 O O O<|kmv O<|aC O O O<|aC O O O<|kpf O O<|kas O<|aB<|aF O ?_;refine aA<|rgN<|kfa O O ?_;refine kl1 O O O<|kas O<|aB<|aF O ?_;refine aA<|rgN<|kfa O O ?_;refine kl1 O O O<|kas O<|aB<|aE O ?_;refine aA<|rgN<|kas O<|aB<|aI ?_)
  exact y6
 ·have e:cmpI (mg x) (mg y)=r:=by rw [mg_pos (Int.not_lt.1 cx),mg_pos (Int.not_lt.1 cy),← hr]
  (refine aA<|rgN<|aL O O O dO<|aL O O O dO<|kas O<|aB<|aA<|aG<|aA<|rgN<|aK O O O dO ?_;refine aK O O O dO ?_;refine kca O O (hB)<|aV O O dO<|kas O<|aB<|aF O ?_;refine aA<|rgN<|kfa O O ?_;refine kl1 O O O<|kmv O<|aC O O O<|aC O O O<|kpf O O<|kas O<|aB<|aF O ?_;refine aA<|rgN<|kfa O O ?_;refine kl1 O O O<|kas O<|aB<|aF O ?_;refine aA<|rgN<|kfa O O ?_;refine kl1 O O O<|kas O<|aB<|aF O ?_;refine aH ?_;refine aA<|rgD mixed<|aK O O O dO ?_;refine kca O O (sizeOf_spec _ _ _ _)<|aK O O O dO ?_;refine kca O O (sizeOf_spec _ _ _ _)<|kca O O (compare_spec _ _ _ r e)<|kas O<|aB<|rgA ?_;refine aI ?_)
  exact y6
end Go.Proofs.YtopiioklkkiedaaGreatDoor
end
section
set_option maxHeartbeats 12800000
set_option maxRecDepth 100000
namespace Go.Proofs.YtopiioklkkiedaaGreatDoor
open Go Go.Lg Go.Lg.Arith Go.RowKit
variable (X:Nat→Option Obj)
theorem mg_nonneg (z:Int):0≤mg z:=by unfold mg;split<;>omega
theorem OfWord_spec (n:Int):PSpec Tryz.prog X 64 [Ln .u64 n] (.sv (.agg [.val (.bool false),.val (.int .u64 0),.val (.int .u64 n)])):=by
 refine cC Tryz.func64 rfl y5 rfl rfl ?_
 intro C
 (refine aA<|rgN<|aP O dO ?_;refine aB<|aA<|rgN<|kmv O<|aT O O y2 y28 dO ?_;refine aM O O O O O O dO ?_;refine aB<|aI ?_)
 exact yF
theorem Of_spec (n:Int) (hn : -9223372036854775808≤n∧n<9223372036854775808):PSpec Tryz.prog X 31 [Ln .i64 n] (LQ n):=by
 refine cC Tryz.func31 rfl y5 rfl rfl ?_
 intro C
 by_cases c:n<0
 ·have w1:IntKind.u64.wrap n=n+18446744073709551616:=by rw [IntKind.wrap_u64];omega
  have w2:IntKind.u64.wrap (0-(n+18446744073709551616)) = -n:=by rw [IntKind.wrap_u64];omega
  (refine aA<|rgN<|aP O dO ?_;refine aB<|aA<|aA<|rgN<|kmv O<|klt O O (cL y3)<|aB<|aE O ?_;refine aA<|rgN<|kmv O<|kcv O w1 ?_;refine K.neg O w2 dO<|aT O O y2 y28 dO ?_;refine aM O O O O O O dO ?_;refine aB<|aI ?_)
  refine ⟨[_],⟨⟨_,_,O,O,O,.inl ⟨AggT.h,O⟩⟩,trivial⟩,?_⟩
  unfold LQ LI
  rw [mg_neg c,cL c,show -n/18446744073709551616=0 by omega,show -n%18446744073709551616 = -n by omega]
  rfl
 ·(refine aA<|rgN<|aP O dO ?_;refine aB<|aA<|aA<|rgN<|kmv O<|klt O O (cK y3)<|aB<|aF O ?_;refine aH ?_;refine aA<|rgN<|kmv O<|kcv O y2C ?_;refine kca O O (OfWord_spec _ _)<|aM O O O O O O dO ?_;refine aB<|aI ?_)
  refine ⟨[_],⟨⟨_,_,O,O,O,.inl ⟨AggT.h,O⟩⟩,trivial⟩,?_⟩
  unfold LQ LI
  rw [mg_pos (by omega),cK c,show n/18446744073709551616=0 by omega,show n%18446744073709551616=n by omega]
  rfl
theorem eqI {b b':Bool} {h l h' l':Int} (r:Bool) (hr:(b==b'&&(h==h'&&l==l'))=r) (w:World):
  (Op.equalIn 10000 86 (.agg [.bool b,.int .u64 h,.int .u64 l].toArray) (.agg [.bool b',.int .u64 h',.int .u64 l'].toArray)).run Tryz.prog w = .ok r w:=by
 subst hr
 rw [show (10000:Nat)=9999+1 from rfl,run_equalIn_agg w 9999 86 _ _ (by kernel_rfl) (by kernel_rfl)]
 simp only [Program.fieldsOf,Tryz.underlying86]
 go_simp
 cases b<;>cases b'<;>by_cases h1:h=h'<;>by_cases h2:l=l'<;>simp [h1,h2]
theorem eqQ (x y:Int) (r:Bool) (hr:decide (x=y)=r) (w:World):
  (Op.equalIn 10000 86 (.agg [.bool (decide (x<0)),.int .u64 (mg x/18446744073709551616),.int .u64 (mg x%18446744073709551616)].toArray)
   (.agg [.bool (decide (y<0)),.int .u64 (mg y/18446744073709551616),.int .u64 (mg y%18446744073709551616)].toArray)).run Tryz.prog w = .ok r w:=by
 refine eqI r ?_ w
 rw [← hr]
 by_cases e:x=y
 ·subst e;simp
 ·rw [cK e]
  have h:¬ ((decide (x<0)=decide (y<0))∧mg x/18446744073709551616=mg y/18446744073709551616∧mg x%18446744073709551616=mg y%18446744073709551616):=by
   rintro ⟨h1,h2,h3⟩
   have:mg x=mg y:=by omega
   unfold mg at this
   by_cases cx:x<0<;>by_cases cy:y<0<;>simp only [cx,cy,decide_true,decide_false,if_true,if_false] at h1 this<;>first|omega|cases h1
  cases hc:(decide (x<0)==decide (y<0)&&(mg x/18446744073709551616==mg y/18446744073709551616&&mg x%18446744073709551616==mg y%18446744073709551616)) with
  | false=>rfl
  | true =>
   simp only [Bool.and_eq_true,beq_iff_eq] at hc
   exact absurd hc h
end Go.Proofs.YtopiioklkkiedaaGreatDoor
end
section
set_option maxHeartbeats 12800000
set_option maxRecDepth 100000
namespace Go.Proofs.YtopiioklkkiedaaGreatDoor
open Go Go.Lg
abbrev rd (k:Nat) (l:List UInt8) (b:Bool):List (Nat×Option Box):=[(k,some ⟨248,[vs l,.val (.bool b)],false⟩)]
variable (X:Nat→Option Obj)
def isW (n:Int):Bool:=decide (n=1)||(decide (n=2)||(decide (n=4)||decide (n=8)))
theorem isWidth_spec (n:Int) (r:Bool) (hr:isW n=r):PSpec Tryz.prog X 157 [Ln .i64 n] (Lb r):=by
 refine cC Tryz.func157 rfl y5 rfl rfl ?_
 intro C
 subst hr
 by_cases h1:n=1
 ·(refine aA<|rgN<|kas O<|aB<|aA<|rgN<|kmv O<|keq O O (cR y3)<|kmv O<|aC O O O<|aC O O O<|kpt O O<|kmv O<|aC O O O ?_;refine aC O O O<|kpt O O<|kmv O<|aC O O O<|aC O O O<|kpt O O<|kas O<|aB<|aI ?_)
  exact ⟨[_],⟨rfl,trivial⟩,by unfold isW;rw [cL h1];rfl⟩
 ·by_cases h2:n=2
  ·(refine aA<|rgN<|kas O<|aB<|aA<|rgN<|kmv O<|keq O O (cN y3)<|kmv O<|gmv O O O<|bC O O (cR y3) (dP O O) ?_;refine kpf O O<|kmv O<|aC O O O<|aC O O O<|kpt O O<|kmv O<|aC O O O<|aC O O O<|kpt O O<|kas O<|aB<|aI ?_)
   exact ⟨[_],⟨rfl,trivial⟩,by unfold isW;rw [cK h1,cL h2];rfl⟩
  ·by_cases h4:n=4
   ·(refine aA<|rgN<|kas O<|aB<|aA<|rgN<|kmv O<|keq O O (cN y3)<|kmv O<|gmv O O O<|bC O O (cN y3) (dP O O) ?_;refine kpf O O<|kmv O<|gmv O O O<|bC O O (cR y3) (dP O O) ?_;refine kpf O O<|kmv O<|aC O O O<|aC O O O<|kpt O O<|kas O<|aB<|aI ?_)
    exact ⟨[_],⟨rfl,trivial⟩,by unfold isW;rw [cK h1,cK h2,cL h4];rfl⟩
   ·by_cases h8:n=8
    ·(refine aA<|rgN<|kas O<|aB<|aA<|rgN<|kmv O<|keq O O (cN y3)<|kmv O<|gmv O O O<|bC O O (cN y3) (dP O O) ?_;refine kpf O O<|kmv O<|gmv O O O<|bC O O (cN y3) (dP O O) ?_;refine kpf O O<|kmv O<|gmv O O O<|bC O O (cR y3) (dP O O) ?_;refine kpf O O<|kas O<|aB<|aI ?_)
     exact ⟨[_],⟨rfl,trivial⟩,by unfold isW;rw [cK h1,cK h2,cK h4,cL h8];rfl⟩
    ·(refine aA<|rgN<|kas O<|aB<|aA<|rgN<|kmv O<|keq O O (cN y3)<|kmv O<|gmv O O O<|bC O O (cN y3) (dP O O) ?_;refine kpf O O<|kmv O<|gmv O O O<|bC O O (cN y3) (dP O O) ?_;refine kpf O O<|kmv O<|gmv O O O<|bC O O (cN y3) (dP O O) ?_;refine kpf O O<|kas O<|aB<|aI ?_)
     exact ⟨[_],⟨rfl,trivial⟩,by unfold isW;rw [cK h1,cK h2,cK h4,cK h8];rfl⟩
theorem Read_spec (l:List UInt8):MSpec Tryz.prog X 118 [Ls l] [] (Lp 1000001) (rd 1000001 l false):=by
 refine cD Tryz.func118 rfl y5 rfl rfl rfl rfl rfl ?_
 intro C
 (refine aA<|rgN<|kas O<|aB<|aA<|rgN<|kmv O<|aT O O y2 y36 dO ?_;refine aL O O O dO<|kas O<|aB<|aI ?_)
 exact ⟨[(1000001,5)],⟨[_],⟨O,trivial⟩,O⟩,⟨⟨_,O,O⟩,trivial⟩,O,O⟩
theorem Bad_spec (l:List UInt8) (b:Bool):MSpec Tryz.prog X 161 [Lp 1000000] (rd 1000000 l b) (Lb b) (rd 1000000 l b):=by
 refine cD Tryz.func161 rfl y5 rfl rfl rfl rfl rfl ?_
 intro C
 (refine aA<|rgN<|kas O<|aB<|aA<|rgN<|kmv O<|K.ptrNil O y5 (.inl ⟨O,O⟩) dO<|kmv O<|gmv O O O<|bI O (dP O O) ?_;refine aN O O (dP O O) ?_;refine aO O O O (dP O O) ?_;refine kpf O O<|kas O<|aB<|aI ?_)
 exact y20
end Go.Proofs.YtopiioklkkiedaaGreatDoor
end
section
set_option maxHeartbeats 12800000
set_option maxRecDepth 100000
namespace Go.Lg
open Go
def le:List UInt8→Nat
 | []=>0
 | c::t=>c.toNat+256*le t
theorem le_lt:∀ (l:List UInt8),le l<256^l.length
 | []=>by simp [le]
 | c::t=>by
  have:=le_lt t
  have hc:=c.toNat_lt
  simp only [le,dF,Nat.pow_succ]
  omega
theorem le_snoc:∀ (l:List UInt8) (c:UInt8),le (l++[c])=le l+c.toNat*256^l.length
 | [],c=>by simp [le]
 | d::t,c=>by
  have e:256*(c.toNat*256^t.length)=c.toNat*(256^t.length*256):=by rw [Nat.mul_left_comm,Nat.mul_comm 256]
  simp only [List.cons_append,le,le_snoc t c,dF,Nat.pow_succ,Nat.mul_add]
  omega
theorem le_take {l:List UInt8} {i:Nat} {c:UInt8} (h:l[i]? = some c):le (l.take (i+1))=le (l.take i)+c.toNat*256^i:=by
 have hi:=(wl h)
 rw [List.take_add_one,h]
 have:=le_snoc (l.take i) c
 rw [cW,Nat.min_eq_left (by omega)] at this
 exact this
def leB:Nat→Nat→List UInt8
 | 0,_=>[]
 | k+1,n=>UInt8.ofNat (n%256)::leB k (n/256)
theorem leB_length:∀ (k n:Nat),(leB k n).length=k
 | 0,_=>rfl
 | k+1,n=>by simp [leB,leB_length k]
theorem leB_get:∀ (k n i:Nat),i<k→(leB k n)[i]? = some (UInt8.ofNat (n/256^i%256))
 | 0,_,_,h=>by omega
 | k+1,n,0,_=>by simp [leB]
 | k+1,n,i+1,h=>by
  simp only [leB,List.getElem?_cons_succ]
  rw [leB_get k (n/256) i (by omega),Nat.pow_succ,Nat.mul_comm,Nat.div_div_eq_div_mul]
def lo (w n i:Nat):List UInt8:=(leB w n).take i++List.replicate (w-i) 0
theorem lo_set {w n i:Nat} (h:i<w):(((lo w n i).map bc).set (0+i*1) (bc (UInt8.ofNat (n/256^i%256))))=(lo w n (i+1)).map bc:=by
 rw [Nat.zero_add,Nat.mul_one,← List.map_set]
 congr 1
 unfold lo
 have hl:((leB w n).take i).length=i:=by rw [cW,leB_length];omega
 rw [List.set_append_right _ _ (by omega),hl,Nat.sub_self,List.take_add_one,leB_get w n i h]
 have:w-i=(w-(i+1))+1:=by omega
 rw [this,List.replicate_succ]
 simp
theorem lo_len (w n i:Nat) (h:i≤w):((lo w n i).map bc).length=w:=by
 unfold lo
 rw [cT,cS,cW,leB_length,dA]
 omega
theorem lo_all (w n:Nat):lo w n w=leB w n:=by
 unfold lo
 rw [Nat.sub_self,List.take_of_length_le (by rw [leB_length];exact dK _)]
 simp
theorem or_low {x y c:Int} {s:Nat} (hs:s≤64) (hx:0≤x∧x*2^s<18446744073709551616) (hy:0≤y∧y<2^s) (hc:y+x*2^s=c):bits .or .u64 y (x*2^s)=c:=by
 have h:=or_apart hs hx hy
 obtain ⟨A,rfl⟩:=Int.eq_ofNat_of_zero_le hx.1
 obtain ⟨B,rfl⟩:=Int.eq_ofNat_of_zero_le hy.1
 have e:((A:Int)*2^s)=((A*2^s:Nat):Int):=by rw [Int.natCast_mul,Int.natCast_pow];rfl
 have e':((2:Int)^s)=((2^s:Nat):Int):=by rw [Int.natCast_pow];rfl
 have h1:A*2^s<18446744073709551616:=by have:=hx.2;rw [e] at this;omega
 have h3:2^s≤18446744073709551616:=by
  have:2^s≤2^64:=Nat.pow_le_pow_right yA hs
  exact this
 have h2:B<18446744073709551616:=by have:=hy.2;rw [e'] at this;omega
 have hcomm:bits .or .u64 (B:Int) ((A:Int)*2^s)=bits .or .u64 ((A:Int)*2^s) B:=by
  rw [e,u64_or_nat _ _ h2 h1,u64_or_nat _ _ h1 h2,Nat.or_comm]
 rw [hcomm,h]
 omega
end Go.Lg
namespace Go.Proofs.YtopiioklkkiedaaGreatDoor
open Go Go.Lg
variable (X:Nat→Option Obj)
theorem p256 (i:Nat):(256:Nat)^i=2^(8*i):=by rw [Nat.pow_mul]
theorem onumber_spec (l:List UInt8) (hl:l.length≤8):PSpec Tryz.prog X 159 [Ls l] (Ln .u64 (le l:Nat)):=by
 refine cC Tryz.func159 rfl y5 rfl rfl ?_
 intro C
 (refine aA<|rgN<|kas O<|aB<|aA<|rgN<|kas O<|aB<|aA<|aA<|rgN<|kmv O<|kln O<|kmv O ?_;refine aB<|aG ?_)
 refine cG (fun m σ=>∃ i:Nat,i≤l.length∧m=l.length-i∧σ=⟨[(0,Ls l),(3,Ln .u64 (le (l.take i):Nat)),(6,Ln .i64 (l.length:Nat)),(7,Ln .i64 (i:Nat))],[],X⟩) l.length
  ⟨_,Le.of y8 yC y2 y2 y2,0,Nat.zero_le _,rfl,rfl⟩ ?_
 rintro m σ ⟨i,hi,rfl,rfl⟩
 by_cases hlt:i<l.length
 ·obtain ⟨b,hb⟩:=wg hlt
  have hb':(⟨l.toArray⟩:ByteArray)[Int.toNat (i:Int)]? = some b:=str_at hb
  have hnx:=le_take hb
  have h8:8*i≤56:=by omega
  have w8:IntKind.i64.wrap (8*(i:Int))=((8*i:Nat):Int):=by rw [cE y3];omega
  have hc:=b.toNat_lt
  have hlo:=le_lt (l.take i)
  rw [cW,Nat.min_eq_left hi,p256] at hlo
  have hp:2^(8*i)≤2^56:=Nat.pow_le_pow_right yA h8
  have hbb:b.toNat*2^(8*i)≤255*2^56:=Nat.mul_le_mul y3 hp
  have ec:((b.toNat:Int))*2^(8*i)=((b.toNat*2^(8*i):Nat):Int):=by rw [Int.natCast_mul,Int.natCast_pow];rfl
  have ep:((2:Int)^(8*i))=((2^(8*i):Nat):Int):=by rw [Int.natCast_pow];rfl
  have hs:=shl_s (a:=(b.toNat:Int)) (s:=8*i) (c:=(b.toNat:Int)*2^(8*i)) y3 rfl (by rw [ec];omega)
  have ho:=or_low (x:=(b.toNat:Int)) (y:=(le (l.take i):Nat)) (s:=8*i) (c:=(le (l.take (i+1)):Nat)) y3 (by rw [ec];omega) (by rw [ep];omega) (by rw [ec,hnx,p256];omega)
  (refine aA<|rgN<|klt O O (cL y3)<|aB<|aA<|aE O ?_;refine aH ?_;refine aA<|aG<|aA<|rgN<|kmv O<|kas O<|aB<|rgN<|kmv O<|kmv O<|kmv O<|bB O O y3 hb' dO<|kcv O y2C ?_;refine kmv O<|bL O O w8 dO<|K.shl O O y3 hs dO<|K.bitop y21 O O ho dO<|kas O<|aB<|rgN<|kad O O (cE y3)<|kmv O<|aB ?_)
  exact ⟨_,_,by omega,Le.of y8 yC y2 y2 y2,i+1,by omega,O,O⟩
 ·have e:i=l.length:=by omega
  subst e
  rw [dC]
  (refine aA<|rgN<|klt O O (cK y3)<|aB<|aA<|aF O ?_;refine aJ<|aA<|rgN<|kmv O<|kas O<|aB<|aI ?_)
  exact y6
end Go.Proofs.YtopiioklkkiedaaGreatDoor
end
section
set_option maxHeartbeats 12800000
set_option maxRecDepth 100000
namespace Go.Proofs.YtopiioklkkiedaaGreatDoor
open Go Go.Lg
variable (X:Nat→Option Obj)
theorem low_1 (n:Nat) (hn:n<18446744073709551616):PSpec Tryz.prog X 170 [Ln .i64 1,Ln .u64 (n:Nat)] (Ls (leB 1 n)):=by
 refine cC Tryz.func170 rfl y5 rfl rfl ?_
 intro C
 (refine aA<|rgN<|kas O<|aB<|aA<|rgN<|kmv O<|K.makeSlc (m:=1) (zs:=List.replicate 1 (.int .u8 0)) (sz:=1) (e:=5) (bytes:=1) (zc:=(lo 1 n 0).map bc) O O y5 y5 yA O O dO<|kas O<|aB<|aA<|aA<|rgN<|kmv O ?_;refine K.lenSlc O bZ O dO ?_;refine kmv O<|aB<|aG ?_)
 refine cG (fun m σ=>∃ i:Nat,i≤1∧m=1-i∧σ=⟨[(1,Ln .u64 (n:Nat)),(5,.sv (.one (.slc 8 0 1))),(10,Ln .i64 1),(11,Ln .i64 (i:Nat))],[(8,some ⟨5,(lo 1 n i).map bc,false⟩)],X⟩) 1
  ⟨_,Le.of y8 y13 y2 y2 y0,0,Nat.zero_le _,rfl,rfl⟩ ?_
 rintro m σ ⟨i,hi,rfl,rfl⟩
 by_cases hlt:i<1
 ·have w8:IntKind.i64.wrap (8*(i:Int))=((8*i:Nat):Int):=by rw [cE y3];omega
  have ed:((n:Nat):Int)/2^(8*i)=((n/256^i:Nat):Int):=by rw [p256,Int.natCast_ediv,Int.natCast_pow];rfl
  have hs:=(shr_s (a:=((n:Nat):Int)) (s:=8*i) y3).trans ed
  have hv:IntKind.u8.wrap ((n/256^i:Nat):Int)=((UInt8.ofNat (n/256^i%256)).toNat:Nat):=by
   rw [UInt8.toNat_ofNat',Nat.mod_eq_of_lt (Nat.mod_lt _ (by decide)),IntKind.wrap_u8]
   omega
  have hbl:Nat.blt (0+i*1) ((lo 1 n i).map bc).length=true:=by rw [lo_len _ _ _ hi,Nat.blt_eq];omega
  (refine aA<|rgN<|klt O O (cL y3)<|aB<|aA<|aE O ?_;refine aH ?_;refine aA<|aG<|aA<|rgN<|kmv O<|kas O<|aB<|rgN<|kmv O<|kmv O<|kmv O<|kmv O<|bL O O w8 dO<|bN O O y3 hs dO ?_;refine kcv O hv ?_;refine K.indexSlc O O y3 O dO ?_;refine bG O O O O hbl (lo_set hlt) dO<|aB<|rgN<|kad O O (cE y3)<|kmv O<|aB ?_)
  exact ⟨_,_,by omega,Le.of y8 y13 y2 y2 y0,i+1,by omega,O,O⟩
 ·have e:i=1:=by omega
  subst e
  have hlen:0+1≤((lo 1 n 1).map bc).length:=by rw [lo_len _ _ _ (dK _)];omega
  have hcut:(((lo 1 n 1).map bc).drop 0).take 1=(leB 1 n).map bc:=by
   rw [List.drop_zero,List.take_of_length_le (by rw [lo_len _ _ _ (dK _)];exact dK _),lo_all]
  (refine aA<|rgN<|klt O O (cK y3)<|aB<|aA<|aF O ?_;refine aJ<|aA<|rgN<|kmv O<|bR O O y5 StrT.u hlen hcut dO<|kas O<|aB<|aI ?_)
  exact y6
theorem low_2 (n:Nat) (hn:n<18446744073709551616):PSpec Tryz.prog X 170 [Ln .i64 2,Ln .u64 (n:Nat)] (Ls (leB 2 n)):=by
 refine cC Tryz.func170 rfl y5 rfl rfl ?_
 intro C
 (refine aA<|rgN<|kas O<|aB<|aA<|rgN<|kmv O<|K.makeSlc (m:=2) (zs:=List.replicate 2 (.int .u8 0)) (sz:=1) (e:=5) (bytes:=1) (zc:=(lo 2 n 0).map bc) O O y5 y5 yA O O dO<|kas O<|aB<|aA<|aA<|rgN<|kmv O ?_;refine K.lenSlc O bZ O dO ?_;refine kmv O<|aB<|aG ?_)
 refine cG (fun m σ=>∃ i:Nat,i≤2∧m=2-i∧σ=⟨[(1,Ln .u64 (n:Nat)),(5,.sv (.one (.slc 8 0 2))),(10,Ln .i64 2),(11,Ln .i64 (i:Nat))],[(8,some ⟨5,(lo 2 n i).map bc,false⟩)],X⟩) 2
  ⟨_,Le.of y8 y13 y2 y2 y0,0,Nat.zero_le _,rfl,rfl⟩ ?_
 rintro m σ ⟨i,hi,rfl,rfl⟩
 by_cases hlt:i<2
 ·have w8:IntKind.i64.wrap (8*(i:Int))=((8*i:Nat):Int):=by rw [cE y3];omega
  have ed:((n:Nat):Int)/2^(8*i)=((n/256^i:Nat):Int):=by rw [p256,Int.natCast_ediv,Int.natCast_pow];rfl
  have hs:=(shr_s (a:=((n:Nat):Int)) (s:=8*i) y3).trans ed
  have hv:IntKind.u8.wrap ((n/256^i:Nat):Int)=((UInt8.ofNat (n/256^i%256)).toNat:Nat):=by
   rw [UInt8.toNat_ofNat',Nat.mod_eq_of_lt (Nat.mod_lt _ (by decide)),IntKind.wrap_u8]
   omega
  have hbl:Nat.blt (0+i*1) ((lo 2 n i).map bc).length=true:=by rw [lo_len _ _ _ hi,Nat.blt_eq];omega
  (refine aA<|rgN<|klt O O (cL y3)<|aB<|aA<|aE O ?_;refine aH ?_;refine aA<|aG<|aA<|rgN<|kmv O<|kas O<|aB<|rgN<|kmv O<|kmv O<|kmv O<|kmv O<|bL O O w8 dO<|bN O O y3 hs dO ?_;refine kcv O hv ?_;refine K.indexSlc O O y3 O dO ?_;refine bG O O O O hbl (lo_set hlt) dO<|aB<|rgN<|kad O O (cE y3)<|kmv O<|aB ?_)
  exact ⟨_,_,by omega,Le.of y8 y13 y2 y2 y0,i+1,by omega,O,O⟩
 ·have e:i=2:=by omega
  subst e
  have hlen:0+2≤((lo 2 n 2).map bc).length:=by rw [lo_len _ _ _ (dK _)];omega
  have hcut:(((lo 2 n 2).map bc).drop 0).take 2=(leB 2 n).map bc:=by
   rw [List.drop_zero,List.take_of_length_le (by rw [lo_len _ _ _ (dK _)];exact dK _),lo_all]
  (refine aA<|rgN<|klt O O (cK y3)<|aB<|aA<|aF O ?_;refine aJ<|aA<|rgN<|kmv O<|bR O O y5 StrT.u hlen hcut dO<|kas O<|aB<|aI ?_)
  exact y6
theorem low_4 (n:Nat) (hn:n<18446744073709551616):PSpec Tryz.prog X 170 [Ln .i64 4,Ln .u64 (n:Nat)] (Ls (leB 4 n)):=by
 refine cC Tryz.func170 rfl y5 rfl rfl ?_
 intro C
 (refine aA<|rgN<|kas O<|aB<|aA<|rgN<|kmv O<|K.makeSlc (m:=4) (zs:=List.replicate 4 (.int .u8 0)) (sz:=1) (e:=5) (bytes:=1) (zc:=(lo 4 n 0).map bc) O O y5 y5 yA O O dO<|kas O<|aB<|aA<|aA<|rgN<|kmv O ?_;refine K.lenSlc O bZ O dO ?_;refine kmv O<|aB<|aG ?_)
 refine cG (fun m σ=>∃ i:Nat,i≤4∧m=4-i∧σ=⟨[(1,Ln .u64 (n:Nat)),(5,.sv (.one (.slc 8 0 4))),(10,Ln .i64 4),(11,Ln .i64 (i:Nat))],[(8,some ⟨5,(lo 4 n i).map bc,false⟩)],X⟩) 4
  ⟨_,Le.of y8 y13 y2 y2 y0,0,Nat.zero_le _,rfl,rfl⟩ ?_
 rintro m σ ⟨i,hi,rfl,rfl⟩
 by_cases hlt:i<4
 ·have w8:IntKind.i64.wrap (8*(i:Int))=((8*i:Nat):Int):=by rw [cE y3];omega
  have ed:((n:Nat):Int)/2^(8*i)=((n/256^i:Nat):Int):=by rw [p256,Int.natCast_ediv,Int.natCast_pow];rfl
  have hs:=(shr_s (a:=((n:Nat):Int)) (s:=8*i) y3).trans ed
  have hv:IntKind.u8.wrap ((n/256^i:Nat):Int)=((UInt8.ofNat (n/256^i%256)).toNat:Nat):=by
   rw [UInt8.toNat_ofNat',Nat.mod_eq_of_lt (Nat.mod_lt _ (by decide)),IntKind.wrap_u8]
   omega
  have hbl:Nat.blt (0+i*1) ((lo 4 n i).map bc).length=true:=by rw [lo_len _ _ _ hi,Nat.blt_eq];omega
  (refine aA<|rgN<|klt O O (cL y3)<|aB<|aA<|aE O ?_;refine aH ?_;refine aA<|aG<|aA<|rgN<|kmv O<|kas O<|aB<|rgN<|kmv O<|kmv O<|kmv O<|kmv O<|bL O O w8 dO<|bN O O y3 hs dO ?_;refine kcv O hv ?_;refine K.indexSlc O O y3 O dO ?_;refine bG O O O O hbl (lo_set hlt) dO<|aB<|rgN<|kad O O (cE y3)<|kmv O<|aB ?_)
  exact ⟨_,_,by omega,Le.of y8 y13 y2 y2 y0,i+1,by omega,O,O⟩
 ·have e:i=4:=by omega
  subst e
  have hlen:0+4≤((lo 4 n 4).map bc).length:=by rw [lo_len _ _ _ (dK _)];omega
  have hcut:(((lo 4 n 4).map bc).drop 0).take 4=(leB 4 n).map bc:=by
   rw [List.drop_zero,List.take_of_length_le (by rw [lo_len _ _ _ (dK _)];exact dK _),lo_all]
  (refine aA<|rgN<|klt O O (cK y3)<|aB<|aA<|aF O ?_;refine aJ<|aA<|rgN<|kmv O<|bR O O y5 StrT.u hlen hcut dO<|kas O<|aB<|aI ?_)
  exact y6
theorem low_8 (n:Nat) (hn:n<18446744073709551616):PSpec Tryz.prog X 170 [Ln .i64 8,Ln .u64 (n:Nat)] (Ls (leB 8 n)):=by
 refine cC Tryz.func170 rfl y5 rfl rfl ?_
 intro C
 (refine aA<|rgN<|kas O<|aB<|aA<|rgN<|kmv O<|K.makeSlc (m:=8) (zs:=List.replicate 8 (.int .u8 0)) (sz:=1) (e:=5) (bytes:=1) (zc:=(lo 8 n 0).map bc) O O y5 y5 yA O O dO<|kas O<|aB<|aA<|aA<|rgN<|kmv O ?_;refine K.lenSlc O bZ O dO ?_;refine kmv O<|aB<|aG ?_)
 refine cG (fun m σ=>∃ i:Nat,i≤8∧m=8-i∧σ=⟨[(1,Ln .u64 (n:Nat)),(5,.sv (.one (.slc 8 0 8))),(10,Ln .i64 8),(11,Ln .i64 (i:Nat))],[(8,some ⟨5,(lo 8 n i).map bc,false⟩)],X⟩) 8
  ⟨_,Le.of y8 y13 y2 y2 y0,0,Nat.zero_le _,rfl,rfl⟩ ?_
 rintro m σ ⟨i,hi,rfl,rfl⟩
 by_cases hlt:i<8
 ·have w8:IntKind.i64.wrap (8*(i:Int))=((8*i:Nat):Int):=by rw [cE y3];omega
  have ed:((n:Nat):Int)/2^(8*i)=((n/256^i:Nat):Int):=by rw [p256,Int.natCast_ediv,Int.natCast_pow];rfl
  have hs:=(shr_s (a:=((n:Nat):Int)) (s:=8*i) y3).trans ed
  have hv:IntKind.u8.wrap ((n/256^i:Nat):Int)=((UInt8.ofNat (n/256^i%256)).toNat:Nat):=by
   rw [UInt8.toNat_ofNat',Nat.mod_eq_of_lt (Nat.mod_lt _ (by decide)),IntKind.wrap_u8]
   omega
  have hbl:Nat.blt (0+i*1) ((lo 8 n i).map bc).length=true:=by rw [lo_len _ _ _ hi,Nat.blt_eq];omega
  (refine aA<|rgN<|klt O O (cL y3)<|aB<|aA<|aE O ?_;refine aH ?_;refine aA<|aG<|aA<|rgN<|kmv O<|kas O<|aB<|rgN<|kmv O<|kmv O<|kmv O<|kmv O<|bL O O w8 dO<|bN O O y3 hs dO ?_;refine kcv O hv ?_;refine K.indexSlc O O y3 O dO ?_;refine bG O O O O hbl (lo_set hlt) dO<|aB<|rgN<|kad O O (cE y3)<|kmv O<|aB ?_)
  exact ⟨_,_,by omega,Le.of y8 y13 y2 y2 y0,i+1,by omega,O,O⟩
 ·have e:i=8:=by omega
  subst e
  have hlen:0+8≤((lo 8 n 8).map bc).length:=by rw [lo_len _ _ _ (dK _)];omega
  have hcut:(((lo 8 n 8).map bc).drop 0).take 8=(leB 8 n).map bc:=by
   rw [List.drop_zero,List.take_of_length_le (by rw [lo_len _ _ _ (dK _)];exact dK _),lo_all]
  (refine aA<|rgN<|klt O O (cK y3)<|aB<|aA<|aF O ?_;refine aJ<|aA<|rgN<|kmv O<|bR O O y5 StrT.u hlen hcut dO<|kas O<|aB<|aI ?_)
  exact y6
end Go.Proofs.YtopiioklkkiedaaGreatDoor
end
section
set_option maxHeartbeats 12800000
set_option maxRecDepth 100000
namespace Go.Proofs.YtopiioklkkiedaaGreatDoor
open Go Go.Lg
variable (X:Nat→Option Obj)
abbrev w0 (k:Nat):List (Nat×Option Box):=[(k,some ⟨214,[.val (.pointer none),.val (.int .i64 0)],false⟩)]
abbrev w1 (k ks kb:Nat) (l:List UInt8):List (Nat×Option Box):=
 [(k,some ⟨214,[.ptr ks 0,.val (.int .i64 (l.length:Nat))],false⟩),(ks,some ⟨262,[.slc kb 0 l.length],false⟩),(kb,some ⟨5,l.map bc,true⟩)]
theorem String_0:MSpec Tryz.prog X 125 [Lp 1000000] (w0 1000000) (Ls []) (w0 1000000):=by
 refine cD Tryz.func125 rfl y5 rfl rfl rfl rfl rfl ?_
 intro C
 (refine aA<|rgN<|kas O<|aB<|aA<|aA<|rgN<|kmv O<|K.ptrNil O y5 (.inl ⟨O,O⟩) dO<|kmv O<|gmv O O O<|bI O (dP O O) ?_;refine aN O O (dP O O) ?_;refine aO O O O (dP O O) ?_;refine K.nilNil O y5 (.inl ⟨O,O⟩) (dP O O) ?_;refine kpf O O<|aB<|aE O ?_;refine aA<|rgN<|kas O<|aB<|aI ?_)
 exact y20
theorem String_1 (l:List UInt8):MSpec Tryz.prog X 125 [Lp 1000000] (w1 1000000 1000001 1000002 l) (Ls l) (w1 1000000 1000001 1000002 l):=by
 refine cD Tryz.func125 rfl y5 rfl rfl y0 rfl rfl ?_
 intro C
 have hlen:0+l.length≤(l.map bc).length:=by rw [cT];omega
 have hcut:((l.map bc).drop 0).take l.length=l.map bc:=by rw [List.drop_zero,List.take_of_length_le (by rw [cT];exact dK _)]
 (refine aA<|rgN<|kas O<|aB<|aA<|aA<|rgN<|kmv O<|K.ptrNil O y5 (.inl ⟨O,O⟩) dO<|kmv O<|gmv O O O<|bI O (dP O O) ?_;refine aN O O (dP O O) ?_;refine aO O O O (dP O O) ?_;refine K.ptrNil O y5 (.inl ⟨O,O⟩) (dP O O) ?_;refine kpf O O<|aB<|aF O ?_;refine aH ?_;refine aA<|rgD mixed<|kmv O<|bI O dO<|kfa O O ?_;refine kl1 O O O<|bI O dO<|kfa O O ?_;refine kl1 O O O<|kmv O<|bI O dO<|kfa O O ?_;refine kl1 O O O<|K.cutSlc O O bZ (dK _) dO<|bR O O y5 StrT.u hlen hcut dO<|kas O<|aB<|rgA ?_;refine aI ?_)
 exact ⟨[],⟨[_],⟨O,trivial⟩,O⟩,y1,O,O⟩
theorem WRaw_0 (s:List UInt8) (hs:s.length<1000000000):MSpec Tryz.prog X 169 [Lp 1000000,Ls s] (w0 1000000) (Lb true) (w1 1000000 1000001 1000002 s):=by
 refine cD Tryz.func169 rfl y5 rfl rfl y0 rfl rfl ?_
 intro C
 (refine aA<|rgN<|kas O<|aB<|aA<|aA<|rgN<|kmv O<|K.ptrNil O y5 (.inl ⟨O,O⟩) dO<|aB<|aF O ?_;refine aH ?_;refine aA<|aA<|rgD mixed<|kmv O<|bI O dO<|kfa O O ?_;refine kl1 O O O<|K.nilNil O y5 (.inl ⟨O,O⟩) dO<|kmv O<|aC O O O<|aC O O O<|aC O O O<|aC O O O<|aC O O O<|aC O O O<|aC O O O<|aC O O O<|aC O O O<|aC O O O<|aC O O O ?_;refine aC O O O<|aC O O O<|kpt O O<|aB<|rgA ?_;refine aE O ?_;refine rgN<|kmv O<|kmv O<|aU [] (w0 1000000) (String_0 X) O O y17 y16 O O O O y19 dO<|K.strBytes (e:=5) O StrT.u y5 y5 O dO<|aT O O y2 (by exact nl1 O O) dO ?_;refine aL O O O dO<|bI O dO<|kfa O O ?_;refine bG O O O O O (nl2 O O O) dO<|aB<|aA<|rgD mixed<|kmv O<|bI O dO<|kfa O O ?_;refine kl1 O O O<|kmv O<|bI O dO<|kfa O O ?_;refine kl1 O O O<|bI O dO<|kfa O O ?_;refine kl1 O O O<|kmv O<|K.appendStr (by_:=1) O O O O y5 StrT.u (by simp only [dL];omega) (by simp only [dL];omega) O (Nat.zero_add _) (List.nil_append _) dO<|bI O dO<|kfa O O ?_;refine bG O O O O O (nl1 O O) dO<|aB<|rgA ?_;refine aA<|rgN<|kmv O<|kmv O<|bI O dO<|kfa O O ?_;refine kl1 O O O<|bI O dO<|kfa O O ?_;refine kl1 O O O<|K.lenSlc O bZ O dO ?_;refine bI O dO<|kfa O O ?_;refine bG O O O O O (nl2 O O O) dO<|aB<|aA<|rgN<|kas O<|aB<|aI ?_)
 exact ⟨[(1000001,32),(1000002,47)],⟨[_],⟨O,trivial⟩,O⟩,y1,O,O⟩
end Go.Proofs.YtopiioklkkiedaaGreatDoor
end
section
set_option maxHeartbeats 12800000
set_option maxRecDepth 100000
namespace Go.Proofs.YtopiioklkkiedaaGreatDoor
open Go Go.Lg
variable (X:Nat→Option Obj)
theorem oshr_1 (n:Nat):((n:Nat):Int).fdiv (2^(min (((8*1:Nat):Int)).toNat IntKind.u64.bits))=((n/256^1:Nat):Int):=by
 have ed:((n:Nat):Int)/2^(8*1)=((n/256^1:Nat):Int):=by rw [p256,Int.natCast_ediv,Int.natCast_pow];rfl
 exact (shr_s (a:=((n:Nat):Int)) (s:=8*1) y3).trans ed
theorem WNum_0_1 (n:Nat) (hn:n<18446744073709551616) (h:n<256^1):MSpec Tryz.prog X 123 [Lp 1000000,Ln .i64 1,Ln .u64 (n:Nat)] (w0 1000000) (Lb true) (w1 1000000 1000001 1000002 (leB 1 n)):=by
 refine cD Tryz.func123 rfl y5 rfl rfl y0 rfl rfl ?_
 intro C
 have hz:((n/256^1:Nat):Int)=0:=by rw [Nat.div_eq_of_lt h];rfl
 have hs:=(oshr_1 n).trans hz
 (refine aA<|rgN<|kas O<|aB<|aA<|aA<|rgN<|kmv O<|kca O O (isWidth_spec X _ true O)<|aV O O dO<|kmv O<|gmv O O O<|gmv O O O<|bL O O (c:=((8*1:Nat):Int)) O (dP O O) ?_;refine bN O O yA hs (dP O O) ?_;refine aX O O ((cO y3)) (dP O O) ?_;refine kpf O O<|aB<|aF O ?_;refine aH ?_;refine aA<|rgN<|kmv O<|kmv O<|kmv O<|kca O O (low_1 X n hn)<|aU [(1000001,501),(1000002,502)] (w1 1000000 501 502 (leB 1 n)) (WRaw_0 X _ (by rw [leB_length];decide)) O O y17 y16 O O O O y23 dO<|kas O<|aB<|aI ?_)
 exact ⟨[(1000001,501),(1000002,502)],⟨[_],⟨O,trivial⟩,O⟩,y1,O,O⟩
theorem oshr_2 (n:Nat):((n:Nat):Int).fdiv (2^(min (((8*2:Nat):Int)).toNat IntKind.u64.bits))=((n/256^2:Nat):Int):=by
 have ed:((n:Nat):Int)/2^(8*2)=((n/256^2:Nat):Int):=by rw [p256,Int.natCast_ediv,Int.natCast_pow];rfl
 exact (shr_s (a:=((n:Nat):Int)) (s:=8*2) y3).trans ed
theorem WNum_0_2 (n:Nat) (hn:n<18446744073709551616) (h:n<256^2):MSpec Tryz.prog X 123 [Lp 1000000,Ln .i64 2,Ln .u64 (n:Nat)] (w0 1000000) (Lb true) (w1 1000000 1000001 1000002 (leB 2 n)):=by
 refine cD Tryz.func123 rfl y5 rfl rfl y0 rfl rfl ?_
 intro C
 have hz:((n/256^2:Nat):Int)=0:=by rw [Nat.div_eq_of_lt h];rfl
 have hs:=(oshr_2 n).trans hz
 (refine aA<|rgN<|kas O<|aB<|aA<|aA<|rgN<|kmv O<|kca O O (isWidth_spec X _ true O)<|aV O O dO<|kmv O<|gmv O O O<|gmv O O O<|bL O O (c:=((8*2:Nat):Int)) O (dP O O) ?_;refine bN O O yA hs (dP O O) ?_;refine aX O O ((cO y3)) (dP O O) ?_;refine kpf O O<|aB<|aF O ?_;refine aH ?_;refine aA<|rgN<|kmv O<|kmv O<|kmv O<|kca O O (low_2 X n hn)<|aU [(1000001,501),(1000002,502)] (w1 1000000 501 502 (leB 2 n)) (WRaw_0 X _ (by rw [leB_length];decide)) O O y17 y16 O O O O y23 dO<|kas O<|aB<|aI ?_)
 exact ⟨[(1000001,501),(1000002,502)],⟨[_],⟨O,trivial⟩,O⟩,y1,O,O⟩
theorem oshr_4 (n:Nat):((n:Nat):Int).fdiv (2^(min (((8*4:Nat):Int)).toNat IntKind.u64.bits))=((n/256^4:Nat):Int):=by
 have ed:((n:Nat):Int)/2^(8*4)=((n/256^4:Nat):Int):=by rw [p256,Int.natCast_ediv,Int.natCast_pow];rfl
 exact (shr_s (a:=((n:Nat):Int)) (s:=8*4) y3).trans ed
theorem WNum_0_4 (n:Nat) (hn:n<18446744073709551616) (h:n<256^4):MSpec Tryz.prog X 123 [Lp 1000000,Ln .i64 4,Ln .u64 (n:Nat)] (w0 1000000) (Lb true) (w1 1000000 1000001 1000002 (leB 4 n)):=by
 refine cD Tryz.func123 rfl y5 rfl rfl y0 rfl rfl ?_
 intro C
 have hz:((n/256^4:Nat):Int)=0:=by rw [Nat.div_eq_of_lt h];rfl
 have hs:=(oshr_4 n).trans hz
 (refine aA<|rgN<|kas O<|aB<|aA<|aA<|rgN<|kmv O<|kca O O (isWidth_spec X _ true O)<|aV O O dO<|kmv O<|gmv O O O<|gmv O O O<|bL O O (c:=((8*4:Nat):Int)) O (dP O O) ?_;refine bN O O yA hs (dP O O) ?_;refine aX O O ((cO y3)) (dP O O) ?_;refine kpf O O<|aB<|aF O ?_;refine aH ?_;refine aA<|rgN<|kmv O<|kmv O<|kmv O<|kca O O (low_4 X n hn)<|aU [(1000001,501),(1000002,502)] (w1 1000000 501 502 (leB 4 n)) (WRaw_0 X _ (by rw [leB_length];decide)) O O y17 y16 O O O O y23 dO<|kas O<|aB<|aI ?_)
 exact ⟨[(1000001,501),(1000002,502)],⟨[_],⟨O,trivial⟩,O⟩,y1,O,O⟩
theorem oshr_8 (n:Nat):((n:Nat):Int).fdiv (2^(min (((8*8:Nat):Int)).toNat IntKind.u64.bits))=((n/256^8:Nat):Int):=by
 have ed:((n:Nat):Int)/2^(8*8)=((n/256^8:Nat):Int):=by rw [p256,Int.natCast_ediv,Int.natCast_pow];rfl
 exact (shr_s (a:=((n:Nat):Int)) (s:=8*8) y3).trans ed
theorem WNum_0_8 (n:Nat) (hn:n<18446744073709551616) (h:n<256^8):MSpec Tryz.prog X 123 [Lp 1000000,Ln .i64 8,Ln .u64 (n:Nat)] (w0 1000000) (Lb true) (w1 1000000 1000001 1000002 (leB 8 n)):=by
 refine cD Tryz.func123 rfl y5 rfl rfl y0 rfl rfl ?_
 intro C
 have hz:((n/256^8:Nat):Int)=0:=by rw [Nat.div_eq_of_lt h];rfl
 have hs:=(oshr_8 n).trans hz
 (refine aA<|rgN<|kas O<|aB<|aA<|aA<|rgN<|kmv O<|kca O O (isWidth_spec X _ true O)<|aV O O dO<|kmv O<|gmv O O O<|gmv O O O<|bL O O (c:=((8*8:Nat):Int)) O (dP O O) ?_;refine bN O O yA hs (dP O O) ?_;refine aX O O ((cO y3)) (dP O O) ?_;refine kpf O O<|aB<|aF O ?_;refine aH ?_;refine aA<|rgN<|kmv O<|kmv O<|kmv O<|kca O O (low_8 X n hn)<|aU [(1000001,501),(1000002,502)] (w1 1000000 501 502 (leB 8 n)) (WRaw_0 X _ (by rw [leB_length];decide)) O O y17 y16 O O O O y23 dO<|kas O<|aB<|aI ?_)
 exact ⟨[(1000001,501),(1000002,502)],⟨[_],⟨O,trivial⟩,O⟩,y1,O,O⟩
end Go.Proofs.YtopiioklkkiedaaGreatDoor
end
section
set_option maxHeartbeats 12800000
set_option maxRecDepth 100000
namespace Go.Proofs.YtopiioklkkiedaaGreatDoor
open Go Go.Lg
variable (X:Nat→Option Obj)
theorem rlen (l:List UInt8):(⟨l.toArray⟩:ByteArray).size=l.length:=rfl
theorem Left_spec (l:List UInt8) (b:Bool):MSpec Tryz.prog X 205 [Lp 1000000] (rd 1000000 l b) (Ln .i64 (if b=true then 0 else (l.length:Nat))) (rd 1000000 l b):=by
 refine cD Tryz.func205 rfl y5 rfl rfl rfl rfl rfl ?_
 intro C
 cases b with
 | false =>
  (refine aA<|rgN<|kas O<|aB<|aA<|aA<|rgN<|kmv O<|aU [] (rd 1000000 l false) (Bad_spec X l false) O O y17 y16 O O O O y19 dO<|aB<|aF O ?_;refine aH ?_;refine aA<|rgN<|kmv O<|bI O dO<|kfa O O ?_;refine kl1 O O O<|kln O<|kas O<|aB<|aI ?_)
  exact y20
 | true =>
  (refine aA<|rgN<|kas O<|aB<|aA<|aA<|rgN<|kmv O<|aU [] (rd 1000000 l true) (Bad_spec X l true) O O y17 y16 O O O O y19 dO<|aB<|aE O ?_;refine aA<|rgN<|kas O<|aB<|aI ?_)
  exact y20
theorem Done_spec (l:List UInt8) (b:Bool) (e:Bool) (he:(l==[])=e):MSpec Tryz.prog X 121 [Lp 1000000] (rd 1000000 l b) (Lb (!b&&e)) (rd 1000000 l b):=by
 refine cD Tryz.func121 rfl y5 rfl rfl rfl rfl rfl ?_
 intro C
 cases b with
 | false =>
  (refine aA<|rgN<|kas O<|aB<|aA<|rgN<|kmv O<|aU [] (rd 1000000 l false) (Bad_spec X l false) O O y17 y16 O O O O y19 dO<|aV O O dO<|kmv O<|gmv O O O<|bI O (dP O O) ?_;refine aN O O (dP O O) ?_;refine aO O O O (dP O O) ?_;refine K.strEq O O (strs_eq he) (dP O O) ?_;refine kpt O O<|kas O<|aB<|aI ?_)
  exact y20
 | true =>
  (refine aA<|rgN<|kas O<|aB<|aA<|rgN<|kmv O<|aU [] (rd 1000000 l true) (Bad_spec X l true) O O y17 y16 O O O O y19 dO<|aV O O dO<|kmv O<|aC O O O<|aC O O O<|aC O O O<|aC O O O ?_;refine aC O O O<|kpf O O<|kas O<|aB<|aI ?_)
  exact y20
theorem Raw_ok (l:List UInt8) (n:Nat) (hn:n≤l.length) (hl:l.length<4611686018427387904):MSpec Tryz.prog X 160 [Lp 1000000,Ln .i64 (n:Nat)] (rd 1000000 l false) (Ls (l.take n)) (rd 1000000 (l.drop n) false):=by
 refine cD Tryz.func160 rfl y5 rfl rfl rfl rfl rfl ?_
 intro C
 have hz:=rlen l
 have c1:(⟨l.toArray⟩:ByteArray).extract 0 n=⟨(l.take n).toArray⟩:=by rw [str_cut,List.drop_zero,Nat.sub_zero]
 have c2:(⟨l.toArray⟩:ByteArray).extract n (⟨l.toArray⟩:ByteArray).size=⟨(l.drop n).toArray⟩:=by
  rw [str_cut,hz,List.take_of_length_le (by rw [cX];exact dK _)]
 have hL:=Left_spec X l false
 rw [if_neg (by simp)] at hL
 (refine aA<|rgN<|kas O<|aB<|aA<|aA<|rgN<|kmv O<|klt O O (cK y3)<|kmv O<|gmv O O O<|gmv O O O<|aU [] (rd 1000000 l false) (hL) O O y17 y16 O O O O y19 (dP O O) ?_;refine aS O O (cK y3) (dP O O) ?_;refine kpf O O<|aB<|aF O ?_;refine aH ?_;refine aA<|aA<|rgN<|kmv O<|aU [] (rd 1000000 l false) (Bad_spec X l false) O O y17 y16 O O O O y19 dO<|aB<|aF O ?_;refine aH ?_;refine aA<|rgN<|kmv O<|bI O dO<|kfa O O ?_;refine kl1 O O O<|kmv O<|bM (l:=0) (h:=n) (kl:=.i64) (kh:=.i64) O StrT.u O O ⟨y3,y3⟩ c1 dO<|kas O<|aB<|aA<|rgN<|kmv O<|kmv O<|bI O dO<|kfa O O ?_;refine kl1 O O O<|kmv O<|bM (l:=n) (h:=(⟨l.toArray⟩:ByteArray).size) (kl:=.i64) (kh:=.i64) O StrT.u O O ⟨y3,y3⟩ c2 dO<|bI O dO<|kfa O O ?_;refine bG O O O O O (nl2 O O O) dO<|aB<|aA<|rgN<|kmv O<|kas O<|aB<|aI ?_)
 exact y20
end Go.Proofs.YtopiioklkkiedaaGreatDoor
end
section
set_option maxHeartbeats 12800000
set_option maxRecDepth 100000
namespace Go.Proofs.YtopiioklkkiedaaGreatDoor
open Go Go.Lg
variable (X:Nat→Option Obj)
theorem isW_bound {n:Int} (h:isW n=true):1≤n∧n≤8:=by
 unfold isW at h
 simp only [Bool.or_eq_true,decide_eq_true_eq] at h
 omega
theorem Num_ok (l:List UInt8) (w:Nat) (hw:isW (w:Int)=true) (hn:w≤l.length) (hl:l.length<4611686018427387904):MSpec Tryz.prog X 120 [Lp 1000000,Ln .i64 (w:Nat)] (rd 1000000 l false) (Ln .u64 (le (l.take w):Nat)) (rd 1000000 (l.drop w) false):=by
 have hb:=isW_bound hw
 refine cD Tryz.func120 rfl y5 rfl rfl rfl rfl rfl ?_
 intro C
 (refine aA<|rgN<|kas O<|aB<|aA<|aA<|rgN<|kmv O<|kca O O (isWidth_spec X _ true hw)<|aV O O dO<|aB<|aF O ?_;refine aH ?_;refine aA<|rgN<|kmv O<|kmv O<|aU [] (rd 1000000 (l.drop w) false) (Raw_ok X l w hn hl) O O y17 y16 O O O O y19 dO<|kca O O (onumber_spec X _ (by rw [cW];omega))<|kas O<|aB<|aI ?_)
 exact y20
end Go.Proofs.YtopiioklkkiedaaGreatDoor
end
