/- A piece of a proof over this program: contracts of its functions, and a logic to prove them by. -/
import Derived.Test.YtopiioklkkiedaaGreatDoorW1
import Derived.Test.YtopiioklkkiedaaGreatDoorW2
import Derived.StringKeys
import Derived.WideMake
import Derived.ProofKit
import Derived.OpenShut
import Derived.Stop.Joined
import Derived.Lib.SmallJoins
import Derived.Deep.Slices
import Derived.Carry
import Derived.ChangeMaps5
import Derived.JoinedOf
import Derived.Deep.Strs
import Derived.SizedLaws
import Derived.Test.YtopiioklkkiedaaGreatDoorRows
import Derived.Lib.Strings
section
namespace Go.Lg
open Go Go.RowKit
def LentBox (Y:Nat→Option Obj) (b:Box) (blk m:Nat):Prop:=
 match b.row with
 | .bool _=>∃ (arr:Array Value) (fr:Nat×Nat) (us sp:List Value),Y blk=some (.cells arr b.elem fr)∧arr.size=m∧arr.toList=us++sp∧∀ vals:List Value,b.cells=vals.map .val→us=vals
 | .res R=>∃ H:Nat→Option Obj,R.holds (blk,m) H∧∀ i o,H i=some o→Y i=some o
def LentC (S:Nat→Option (Option Box)) (Y:Nat→Option Obj):CV→Value→Prop
 | .val v,u=>u=v
 | .slc k off len sz,u=>∃ (b:Box) (blk cap m:Nat),S k=some (some b)∧u = .slice (some ⟨blk,off,none⟩) len cap∧len≤cap∧off+cap*sz≤m∧LentBox Y b blk m
 | _,_=>False
def LentCs (S:Nat→Option (Option Box)) (Y:Nat→Option Obj):List CV→List Value→Prop
 | [],us=>us=[]
 | c::l,us=>∃ u us',us=u::us'∧LentC S Y c u∧LentCs S Y l us'
def LentL (S:Nat→Option (Option Box)) (Y:Nat→Option Obj) (lv:LV) (u:Value):Prop:=
 match lv with
 | .sv (.one c)=>LentC S Y c u
 | .sv (.agg cs)=>∃ us:List Value,u = .agg us.toArray∧LentCs S Y cs us
 | _=>False
def LentLs (S:Nat→Option (Option Box)) (Y:Nat→Option Obj):List LV→List Value→Prop
 | [],us=>us=[]
 | lv::l,us=>∃ u us',us=u::us'∧LentL S Y lv u∧LentLs S Y l us'
def lendC (S:Nat→Option (Option Box)) (ks:List Nat):CV→Bool
 | .val _=>true
 | .slc k _ _ _=>ks.contains k&&(match S k with|some (some _)=>true|_=>false)
 | _=>false
def lendL (S:Nat→Option (Option Box)) (ks:List Nat):LV→Bool
 | .sv (.one c)=>lendC S ks c
 | .sv (.agg cs)=>cs.all (lendC S ks)
 | _=>false
section
variable {P:Program} {n:Nat} {ops os:List Oper} {acc:List Eff} {K:List Eff→St→Prop} {s:List (Nat×LV)} {bx:List (Nat×Option Box)} {X:Nat→Option Obj} {σ:St}
theorem lentBox_of {C:Ctx} {ι:Nat→Nat×Nat} {a:Act} {w:World} {σ':St} (hr:Rel n C ι σ' a w) {k:Nat} {b:Box} (hst:σ'.stat k=some (some b)):LentBox (fun i=>w.heap[i]?) b (ι k).1 (ι k).2:=by
 obtain ⟨e,cs,row⟩:=b
 cases row with
 | bool r =>
  obtain ⟨arr,fr,harr,_,hsz,hbr⟩:=hr.boxes k _ hst rfl
  unfold Box.rel at hbr
  cases r with
  | false=>exact ⟨arr,fr,arr.toList,[],harr,hsz,by simp,fun vals e=>by simp only at e hbr;rw [e] at hbr;exact rel_vals hbr⟩
  | true =>
   obtain ⟨us,sp,e,hl⟩:=hbr
   exact ⟨arr,fr,us,sp,harr,hsz,e,fun vals e=>by simp only at e hl;rw [e] at hl;exact rel_vals hl⟩
 | res R =>
  obtain ⟨F,hF⟩:=hr.res
  exact ⟨F k,(hF.holds k _ _ _ hst).1,fun i o h=>(hF.mem k i o h).2.1⟩
theorem lentC_of {C:Ctx} {ι:Nat→Nat×Nat} {a:Act} {w:World} {σ':St} (hr:Rel n C ι σ' a w) (ks:List Nat) (S:Nat→Option (Option Box)) (hS:∀ k,k∈ks→σ'.stat k=S k) {c:CV} {u:Value} (hl:lendC S ks c=true) (h:c.rel σ'.stat ι u):LentC S (fun i=>w.heap[i]?) c u:=by
 cases c with
 | val v=>exact h
 | slc k off len sz =>
  simp only [lendC,Bool.and_eq_true] at hl
  have hk:k∈ks:=by simpa using hl.1
  cases hs:S k with
  | none=>rw [hs] at hl;exact absurd hl.2 (by simp)
  | some x =>
   cases x with
   | none=>rw [hs] at hl;exact absurd hl.2 (by simp)
   | some b =>
    have hst:σ'.stat k=some (some b):=by rw [hS k hk,hs]
    simp only [CV.rel,hst] at h
    obtain ⟨cap,rfl,h3,h4⟩:=h
    exact ⟨b,_,cap,_,hs,rfl,h3,h4,lentBox_of hr hst⟩
 | ptr _ _=>cases hl
 | mp _=>cases hl
 | fn _ _ _=>cases hl
 | hang _ _ _=>cases hl
 | junk=>cases hl
theorem lentCs_of {C:Ctx} {ι:Nat→Nat×Nat} {a:Act} {w:World} {σ':St} (hr:Rel n C ι σ' a w) (ks:List Nat) (S:Nat→Option (Option Box)) (hS:∀ k,k∈ks→σ'.stat k=S k):∀ {cs:List CV} {us:List Value},cs.all (lendC S ks)=true→CVs.rel σ'.stat ι cs us→LentCs S (fun i=>w.heap[i]?) cs us
 | [],[],_,_=>rfl
 | [],_::_,_,h=>h.elim
 | _::_,[],_,h=>h.elim
 | c::l,u::us,hl,h=>by
  simp only [List.all_cons,Bool.and_eq_true] at hl
  exact ⟨u,us,rfl,lentC_of hr ks S hS hl.1 h.1,lentCs_of hr ks S hS hl.2 h.2⟩
theorem lentLs_of {C:Ctx} {ι:Nat→Nat×Nat} {a:Act} {w:World} {σ':St} (hr:Rel n C ι σ' a w) (ks:List Nat) (S:Nat→Option (Option Box)) (hS:∀ k,k∈ks→σ'.stat k=S k):∀ {lvs:List LV} {us:List Value},lvs.all (lendL S ks)=true→LVs.rel σ'.stat ι lvs us→LentLs S (fun i=>w.heap[i]?) lvs us
 | [],[],_,_=>rfl
 | [],_::_,_,h=>h.elim
 | _::_,[],_,h=>h.elim
 | lv::l,u::us,hl,h=>by
  simp only [List.all_cons,Bool.and_eq_true] at hl
  refine ⟨u,us,rfl,?_,lentLs_of hr ks S hS hl.2 h.2⟩
  have h1:=h.1
  have h2:=hl.1
  match lv with
  | .sv (.one c)=>exact lentC_of hr ks S hS h2 h1
  | .sv (.agg cs) =>
   obtain ⟨arr,rfl,hl'⟩:=h1
   exact ⟨arr.toList,by simp,lentCs_of hr ks S hS h2 hl'⟩
  | .tup _=>cases h2
theorem LOK.callL {d:Nat} {f:FuncId} {args:List Operand} {tys:Array TypeId} {ty:TypeId} {pos:String} {after_:Array Edge} {g:Option (Nat×Bool)} {lvs:List LV} {r:LV} (ks:List Nat) (hargs:evs σ args=some lvs) (hl:lvs.all (lendL σ.stat ks)=true) (hent:Program.enters P f=true)
  (hs:∀ (Y:Nat→Option Obj) (us:List Value),(∀ b o,σ.X b=some o→Y b=some o)→LentLs σ.stat Y lvs us→PSpec P Y f (us.map toLV) r):
  LOK P n ops ⟨some d,.call ⟨.value (.func f),args.toArray,tys⟩,ty,pos,after_,g⟩ σ ⟨[(d,r)],ks,[]⟩:=by
 refine ⟨fun σ' ha C ι a w hr hd next Q hn => ?_⟩
 have hargs':evs σ' args=some lvs:=by
  rw [evs_agree fun x hx=>ha.ev (by simp [Op.operands,Call.operands,hx])]
  exact hargs
 have hrel:=evs_rel hr hargs'
 have hlent:=lentLs_of hr ks σ.stat (fun k hk=>ha.stat k (.inl hk)) hl hrel
 have hc:=(hs (fun b=>w.heap[b]?) _ (fun b o hb=>hr.ext b o (by rw [ha.X];exact hb)) hlent).out w (args.toArray.map a.eval) (fun b o hb=>hb) (by rw [Array.toList_map,List.toList_toArray];exact args_rel _)
 unfold Oper.wp
 have hrun:(execOp a.eval ⟨some d,.call ⟨.value (.func f),args.toArray,tys⟩,ty,pos,after_,g⟩).run P w = .ok (.enter f (args.toArray.map a.eval)) w:=by
  simp only [execOp,resolve,Act.eval,Deferred.ofValue,invoke,Sem.run_bind,Sem.run_pure,Result.andThen_ok]
  simp [run_enter hent]
 rw [hrun]
 refine hc.mono ?_
 rintro e w' ⟨v,rfl,hv,hb⟩
 exact hn ι _ w' ((hr.below hb).put (hd d rfl) (LV.rel_later (later_noS _ _ _) hv))
theorem K.callL {d:Nat} {f:FuncId} {args:List Operand} {tys:Array TypeId} {ty:TypeId} {pos:String} {after_:Array Edge} {g:Option (Nat×Bool)} {lvs:List LV} {r:LV} (ks:List Nat) (hargs:evs ⟨s,bx,X⟩ args=some lvs) (hl:lvs.all (lendL (fun k=>look k bx) ks)=true) (hent:Program.enters P f=true)
  (hs:∀ (Y:Nat→Option Obj) (us:List Value),(∀ b o,X b=some o→Y b=some o)→LentLs (fun k=>look k bx) Y lvs us→PSpec P Y f (us.map toLV) r) (hw:Want ops s g)
  (kont:RunK P n ops os ⟨(d,r)::s,bx,X⟩ (⟨[(d,r)],ks,[]⟩::acc) K):
  RunK P n ops (⟨some d,.call ⟨.value (.func f),args.toArray,tys⟩,ty,pos,after_,g⟩::os) ⟨s,bx,X⟩ acc K:=RunK.gen hw (LOK.callL ks hargs hl hent hs) kont
end
end Go.Lg
end
section
namespace Go.Lg
open Go Go.RowKit
def blkZ:Value→Option Nat
 | .slice (some a) (_+1) _=>some a.block
 | _=>none
def SliceZ (H:Nat→Option Obj) (v:Value) (el:TypeId) (sz:Nat) (vals:List Value):Prop:=(vals=[]∧∃ ad cap,v = .slice ad 0 cap)∨∃ b,LeadsTo H b v el sz vals∧vals≠[]
structure Twigs (H:Nat→Option Obj) (el:TypeId) (sz:Nat) (op:List Nat) (cells:List Value) (chs:List (List Value)):Prop where
 len:cells.length=chs.length
 at_:∀ (i:Nat) (c:Value) (x:List Value),i ∉ op→cells[i]? = some c→chs[i]? = some x→SliceZ H c el sz x
 apart:∀ (i j:Nat) (c c':Value) (b:Nat),i ∉ op→j ∉ op→cells[i]? = some c→cells[j]? = some c'→blkZ c=some b→blkZ c'=some b→i=j
section
variable {H:Nat→Option Obj} {el:TypeId} {sz:Nat} {op:List Nat} {cells:List Value} {chs:List (List Value)}
end
end Go.Lg
end
section
namespace Go.Lg
open Go Go.RowKit
section
variable {P:Program} {n:Nat} {ops os:List Oper} {acc:List Eff} {K:List Eff→St→Prop} {s:List (Nat×LV)} {bx:List (Nat×Option Box)} {X:Nat→Option Obj} {σ:St}
theorem LOK.cutLoX {d b off len cap sz l:Nat} {t:TypeId} {x y:Operand} {ty:TypeId} {pos:String} {after_:Array Edge} {g:Option (Nat×Bool)} {kh:IntKind} (hx:σ.ev x=some (.sv (.one (.val (.slice (some ⟨b,off,none⟩) len cap))))) (hy:σ.ev y=some (.sv (.one (.val (.int kh (l:Nat))))))
  (ht:sliceOf P t=some sz) (hl:l≤len):LOK P n ops ⟨some d,.slice t x (some y) none none,ty,pos,after_,g⟩ σ ⟨[(d,.sv (.one (.val (.slice (some ⟨b,if cap=l then off else off+l*sz,none⟩) (len-l) (cap-l)))))],[],[]⟩:=
 LOK.value fun σ' ha C ι a w hr=>by
  have h1:a.eval x=_:=hr.ev ((ha.ev (x:=x) (by simp [Op.operands])).trans hx)
  have h2:a.eval y = .int kh (l:Nat):=hr.ev ((ha.ev (x:=y) (by simp [Op.operands])).trans hy)
  obtain ⟨e,hu,hsz⟩:=sliceOf_spec ht
  have hrun:(Instr.sliceAt t (.slice (some ⟨b,off,none⟩) len cap) (some (.int kh (l:Nat))) none none).run P w = .ok (.slice (some ⟨b,if cap=l then off else off+l*sz,none⟩) (len-l) (cap-l)) w:=by
   have ha0:(⟨b,off,none⟩:Addr).add (l*sz)=⟨b,off+l*sz,none⟩:=addr_add _ _ _
   simp [Instr.sliceAt,Instr.slice,run_underlying hu,Instr.sliceBounds,Instr.sliceBound,asIntOf,hsz,ha0]
   rw [if_pos hl]
   by_cases e:cap=l
   ·simp [e]
   ·simp [e]
  exact ⟨_,by simp only [execOp,h1,h2,Option.map_none,Option.map_some,Sem.run_bind,hrun,Result.andThen_ok,Sem.run_pure],rfl⟩
theorem K.cutLoX {d b off len cap sz l off' len' cap':Nat} {t:TypeId} {x y:Operand} {ty:TypeId} {pos:String} {after_:Array Edge} {g:Option (Nat×Bool)} {kh:IntKind} (hx:(⟨s,bx,X⟩:St).ev x=some (.sv (.one (.val (.slice (some ⟨b,off,none⟩) len cap))))) (hy:(⟨s,bx,X⟩:St).ev y=some (.sv (.one (.val (.int kh (l:Nat))))))
  (ht:sliceOf P t=some sz) (hl:l≤len) (ho:(if cap=l then off else off+l*sz)=off') (hn:len-l=len') (hc:cap-l=cap') (hw:Want ops s g) (kont:RunK P n ops os ⟨(d,.sv (.one (.val (.slice (some ⟨b,off',none⟩) len' cap'))))::s,bx,X⟩ (⟨[(d,.sv (.one (.val (.slice (some ⟨b,off',none⟩) len' cap'))))],[],[]⟩::acc) K):
  RunK P n ops (⟨some d,.slice t x (some y) none none,ty,pos,after_,g⟩::os) ⟨s,bx,X⟩ acc K:=by
 subst ho hn hc
 exact RunK.g1 (LOK.cutLoX hx hy ht hl) hw kont
end
end Go.Lg
end
section
namespace Go.Lg
open Go Go.RowKit
section
variable {P:Program} {n:Nat} {C:Ctx} {c:Code} {Q:Exit→St→Prop} {X H:Nat→Option Obj} {s:List (Nat×LV)} {bx:List (Nat×Option Box)}
theorem Rel.rebox2 {ι:Nat→Nat×Nat} {a:Act} {w:World} {j:Nat} {e:TypeId} {cs cs':List CV} {r r':Bool}
  (himp:∀ vs,(∃ (arr:Array Value) (fr:Nat×Nat),w.heap[(ι j).1]? = some (.cells arr e fr)∧arr.toList=vs)→Box.rel (⟨s,(j,some ⟨e,cs',r'⟩)::bx,X⟩:St).stat ι ⟨e,cs,r⟩ vs→Box.rel (⟨s,(j,some ⟨e,cs',r'⟩)::bx,X⟩:St).stat ι ⟨e,cs',r'⟩ vs)
  (hr:Rel n C ι ⟨s,(j,some ⟨e,cs,r⟩)::bx,X⟩ a w):Rel n C ι ⟨s,(j,some ⟨e,cs',r'⟩)::bx,X⟩ a w:=by
 have hlater:=later_hd (s:=s) (bx:=bx) (k:=j) ι ⟨e,cs,r⟩ ⟨e,cs',r'⟩ X X
 have live:∀ i b,(⟨s,(j,some ⟨e,cs',r'⟩)::bx,X⟩:St).stat i=some (some b)→∃ b0,(⟨s,(j,some ⟨e,cs,r⟩)::bx,X⟩:St).stat i=some (some b0)∧(i≠j→b=b0):=fun i b hi=>by
  rw [stat_hd] at hi ⊢
  by_cases e:i=j
  ·rw [if_pos e];exact ⟨_,rfl,fun h=>absurd e h⟩
  ·rw [if_neg e] at hi ⊢;exact ⟨b,hi,fun _=>rfl⟩
 exact {
  defers:=hr.defers,size:=hr.size
  slots:=fun d lv hd=>by
   obtain ⟨v,hv,hvr⟩:=hr.slots d lv hd
   exact ⟨v,hv,LV.rel_later hlater hvr⟩
  boxes:=fun i b hi hbk=>by
   by_cases ei:i=j
   ·subst ei
    rw [stat_hd,if_pos rfl] at hi
    simp only [Option.some.injEq] at hi
    subst hi
    obtain ⟨arr,fr,g1,g2,g3,g4⟩:=hr.boxes i ⟨e,cs,r⟩ (by rw [stat_hd,if_pos rfl]) rfl
    exact ⟨arr,fr,g1,g2,g3,himp _ ⟨arr,fr,g1,rfl⟩ (Box.rel_later hlater g4)⟩
   ·obtain ⟨b0,h0,h1⟩:=live i b hi
    have:=h1 ei
    subst this
    obtain ⟨arr,fr,g1,g2,g3,g4⟩:=hr.boxes i b h0 hbk
    exact ⟨arr,fr,g1,g2,g3,Box.rel_later hlater g4⟩
  own:=fun i b hi=>by obtain ⟨b0,h0,_⟩:=live i b hi;exact hr.own i b0 h0
  inj:=fun i i' bi bj hi hj he=>by
   obtain ⟨b1,h1,_⟩:=live i bi hi
   obtain ⟨b2,h2,_⟩:=live i' bj hj
   exact hr.inj i i' b1 b2 h1 h2 he
  keep:=fun i b hi hge=>by obtain ⟨b0,h0,_⟩:=live i b hi;exact hr.keep i b0 h0 hge
  ext:=hr.ext
  res:=by
   obtain ⟨F,hG⟩:=hr.res
   refine hG.keep (fun i e cs R hi => ?_) (fun _ _ _ _ _ hi=>hi) (fun _ _ ho=>ho) (fun b _ hx _ _=>hx) (fun i bi hi => ?_)
   ·rw [stat_hd] at hi ⊢
    by_cases e:i=j
    ·rw [if_pos e] at hi;cases hi
    ·rw [if_neg e] at hi ⊢;exact ⟨hi,rfl⟩
   ·obtain ⟨b0,h0,_⟩:=live i bi hi
    exact .inl ⟨b0,h0,rfl⟩
  frame:=hr.frame,big:=hr.big,os:=hr.os,tape:=hr.tape,output:=hr.output }
theorem Rel.spare {ι:Nat→Nat×Nat} {a:Act} {w:World} {j:Nat} {e:TypeId} {vals:List Value} (hr:Rel n C ι ⟨s,(j,some ⟨e,vals.map .val,true⟩)::bx,X⟩ a w):∃ sp:List Value,Rel n C ι ⟨s,(j,some ⟨e,(vals++sp).map .val,false⟩)::bx,X⟩ a w:=by
 obtain ⟨arr,fr,g1,_,_,g4⟩:=hr.boxes j ⟨e,vals.map .val,true⟩ (by rw [stat_hd,if_pos rfl]) rfl
 obtain ⟨us,sp,e1,hl⟩:=g4
 have hu:=rel_vals hl
 subst hu
 refine ⟨sp,hr.rebox2 fun vs hv _ => ?_⟩
 obtain ⟨arr',fr',h1,h2⟩:=hv
 rw [g1] at h1
 simp only [Option.some.injEq,Obj.cells.injEq] at h1
 obtain ⟨rfl,_⟩:=h1
 rw [← h2,e1]
 exact CVs.rel_map_val (us++sp)
theorem Leads.spare {Mid:St→Prop} {j:Nat} {e:TypeId} {vals:List Value} (h:∀ sp:List Value,Leads n C Mid ⟨s,(j,some ⟨e,(vals++sp).map .val,false⟩)::bx,X⟩):Leads n C Mid ⟨s,(j,some ⟨e,vals.map .val,true⟩)::bx,X⟩:=⟨fun ι a w hr=>by
 obtain ⟨sp,hr'⟩:=hr.spare
 exact (h sp).out ι a w hr'⟩
end
section
variable {H:Nat→Option Obj} {el:TypeId} {sz:Nat} {cells:List Value} {chs:List (List Value)}
end
end Go.Lg
end
section
namespace Go.Lg
open Go Go.RowKit
section
variable {n:Nat} {C:Ctx} {X Y:Nat→Option Obj} {s:List (Nat×LV)} {bx:List (Nat×Option Box)}
theorem Le.drop (hXY:∀ b o,X b=some o→Y b=some o):Le n C ⟨s,bx,Y⟩ ⟨s,bx,X⟩:=⟨fun ι a w hr=>⟨ι,by
 have hn:∀ b,Y b=none→X b=none:=fun b hb=>by
  cases hx:X b with
  | none=>rfl
  | some o=>rw [hXY b o hx] at hb;cases hb
 exact {
  defers:=hr.defers,size:=hr.size,slots:=hr.slots,boxes:=hr.boxes
  own:=fun k b hk=>⟨(hr.own k b hk).1,hn _ (hr.own k b hk).2⟩
  inj:=hr.inj,keep:=hr.keep
  ext:=fun b o hb=>hr.ext b o (hXY b o hb)
  res:=by
   obtain ⟨F,hF⟩:=hr.res
   exact ⟨F,hF.holds,fun k b o h=>by
    obtain ⟨h1,h2,h3,h4,h5,h6⟩:=hF.mem k b o h
    exact ⟨h1,h2,h3,h4,hn _ h5,h6⟩,hF.apart⟩
  frame:=hr.frame,big:=hr.big,os:=hr.os,tape:=hr.tape,output:=hr.output }⟩⟩
end
end Go.Lg
end
section
namespace Go.Lg
open Go Go.RowKit
variable {ty:TypeId} {pos:String} {after:Array Edge} {after_:Array Edge} {g:Option (Nat×Bool)}
section
variable {n:Nat} {C:Ctx} {σ:St} {ι:Nat→Nat×Nat} {a:Act} {w:World}
theorem Rel.resStep (hr:Rel n C ι σ a w) {k:Nat} {e:TypeId} {cs:List CV} {R:Rsc} (hk:σ.stat k=some (some ⟨e,cs,.res R⟩)):
  ∃ H,R.holds (ι k) H∧(∀ b o,H b=some o→w.heap[b]? = some o)∧H (ι k).1≠none ∧
   ∀ (w':World) (H':Nat→Option Obj) (R':Rsc),(∀ b,H b=none→b<w.heap.size→w'.heap[b]? = w.heap[b]?)→(∀ b o,H' b=some o→w'.heap[b]? = some o∧Loose o)→(∀ b,H' b≠none→H b≠none)→H' (ι k).1≠none→R'.holds (ι k) H' →
    w.heap.size≤w'.heap.size→w'.os=w.os→w'.tape=w.tape→w'.output=w.output→Rel n C ι ⟨σ.slots,(k,some ⟨0,[],.res R'⟩)::σ.boxes,σ.X⟩ a w':=by
 obtain ⟨F,hF⟩:=hr.res
 refine ⟨F k,(hF.holds k _ _ _ hk).1,fun b o ho=>(hF.mem k b o ho).2.1,(hF.holds k _ _ _ hk).2,fun w' H' R' hw hH' hsub hroot hR' hsz hos htp hou => ?_⟩
 have hst:∀ j,(⟨σ.slots,(k,some ⟨0,[],.res R'⟩)::σ.boxes,σ.X⟩:St).stat j=if j=k then some (some ⟨0,[],.res R'⟩) else σ.stat j:=fun j=>stat_cons _ _ _ _ j _
 have live:∀ j b,(⟨σ.slots,(k,some ⟨0,[],.res R'⟩)::σ.boxes,σ.X⟩:St).stat j=some (some b)→∃ b0,σ.stat j=some (some b0)∧(j≠k→b=b0):=fun j b hj=>by
  rw [hst] at hj
  by_cases e:j=k
  ·exact ⟨_,by rw [e];exact hk,fun h=>absurd e h⟩
  ·rw [if_neg e] at hj;exact ⟨b,hj,fun _=>rfl⟩
 have hlater:Later σ.stat (⟨σ.slots,(k,some ⟨0,[],.res R'⟩)::σ.boxes,σ.X⟩:St).stat ι ι:=later_same ι fun j hj=>by
  rw [hst]
  by_cases e:j=k
  ·rw [if_pos e,e];exact ⟨by simp,fun _ _=>⟨_,hk⟩⟩
  ·rw [if_neg e];exact ⟨hj,fun b1 hb1=>⟨b1,hb1⟩⟩
 have hout:∀ b o,F k b=none→w.heap[b]? = some o→w'.heap[b]? = some o:=fun b o h1 h2=>by rw [hw b h1 (Array.getElem?_eq_some_iff.1 h2).1];exact h2
 have hnot:∀ b,(∀ o,F k b=some o→False)→F k b=none:=fun b h=>by
  cases ho:F k b with
  | none=>rfl
  | some o=>exact (h o ho).elim
 exact {
  defers:=hr.defers,size:=hr.size
  slots:=fun d lv hd=>by
   obtain ⟨v,hv,hvr⟩:=hr.slots d lv hd
   exact ⟨v,hv,LV.rel_later hlater hvr⟩
  boxes:=fun j b hj hbk=>by
   by_cases ej:j=k
   ·rw [hst,if_pos ej] at hj
    simp only [Option.some.injEq] at hj
    subst hj
    cases hbk
   ·obtain ⟨b0,h0,h1⟩:=live j b hj
    have:=h1 ej
    subst this
    obtain ⟨arr,fr,g1,g2,g3,g4⟩:=hr.boxes j b h0 hbk
    exact ⟨arr,fr,hout _ _ (hnot _ fun o ho=>ej ((hF.mem k _ o ho).2.2.2.2.2 j b h0 rfl)) g1,g2,g3,Box.rel_later hlater g4⟩
  own:=fun j b hj=>by obtain ⟨b0,h0,_⟩:=live j b hj;exact hr.own j b0 h0
  inj:=fun i j bi bj hi hj he=>by
   obtain ⟨b1,h1,_⟩:=live i bi hi
   obtain ⟨b2,h2,_⟩:=live j bj hj
   exact hr.inj i j b1 b2 h1 h2 he
  keep:=fun j b hj hge=>by obtain ⟨b0,h0,_⟩:=live j b hj;exact hr.keep j b0 h0 hge
  ext:=fun b o hb=>hout b o (hnot _ fun o' ho=>by
   have:=(hF.mem k b o' ho).2.2.2.2.1
   have hb:σ.X b=some o:=hb
   rw [hb] at this;cases this) (hr.ext b o hb)
  res:=by
   refine ⟨fun j=>open Classical in if j=k then H' else F j,fun j e' cs' R1 hj => ?_,fun j b o ho => ?_,fun i j b h1 h2 => ?_⟩
   ·rw [hst] at hj
    by_cases ej:j=k
    ·rw [if_pos ej] at hj
     cases hj
     rw [if_pos ej,ej]
     exact ⟨hR',hroot⟩
    ·rw [if_neg ej] at hj
     rw [if_neg ej]
     exact hF.holds j e' cs' R1 hj
   ·by_cases ej:j=k
    ·rw [if_pos ej] at ho
     cases ho2:F k b with
     | none=>exact absurd ho2 (hsub b (by rw [ho];simp))
     | some o2 =>
      obtain ⟨_,h2,_,h4,h5,h6⟩:=hF.mem k b o2 ho2
      refine ⟨⟨0,[],R',by rw [hst,if_pos ej]⟩,(hH' b o ho).1,(hH' b o ho).2,h4,h5,fun i bi hi ei => ?_⟩
      obtain ⟨b0,h0,_⟩:=live i bi hi
      rw [ej];exact h6 i b0 h0 ei
    ·rw [if_neg ej] at ho
     obtain ⟨⟨e1,cs1,R1,h1⟩,h2,h3,h4,h5,h6⟩:=hF.mem j b o ho
     refine ⟨⟨e1,cs1,R1,by rw [hst,if_neg ej];exact h1⟩,hout b o (hnot _ fun o' ho'=>ej (hF.apart j k b (by rw [ho];simp) (by rw [ho'];simp))) h2,h3,h4,h5,fun i bi hi ei => ?_⟩
     obtain ⟨b0,h0,_⟩:=live i bi hi
     exact h6 i b0 h0 ei
   ·by_cases ei:i=k
    ·by_cases ej:j=k
     ·rw [ei,ej]
     ·rw [if_pos ei] at h1
      rw [if_neg ej] at h2
      rw [ei];exact hF.apart k j b (hsub b h1) h2
    ·by_cases ej:j=k
     ·rw [if_neg ei] at h1
      rw [if_pos ej] at h2
      rw [ej];exact hF.apart i k b h1 (hsub b h2)
     ·rw [if_neg ei] at h1
      rw [if_neg ej] at h2
      exact hF.apart i j b h1 h2
  frame:=fun b hb hn=>by
   rw [← hr.frame b hb hn]
   refine hw b (hnot _ fun o ho => ?_) (Nat.lt_of_lt_of_le hb hr.big)
   rcases (hF.mem k b o ho).2.2.2.1 with h1|h1
   ·exact hn h1
   ·omega
  big:=Nat.le_trans hr.big hsz
  os:=hos.trans hr.os,tape:=htp.trans hr.tape,output:=hou.trans hr.output }
theorem Rel.resNew (hr:Rel n C ι σ a w) {k m:Nat} {o:Obj} {R:Rsc} (hlt:k<1000000) (hk:σ.stat k=none) (ho:Loose o) (hR:∀ b,R.holds (b,m) (withBlock (fun _=>none) b o)):
  Rel n C (put1 ι k (w.heap.size,m)) ⟨σ.slots,(k,some ⟨0,[],.res R⟩)::σ.boxes,σ.X⟩ a (w.alloc o):=by
 obtain ⟨F,hF⟩:=hr.res
 have hst:∀ j,(⟨σ.slots,(k,some ⟨0,[],.res R⟩)::σ.boxes,σ.X⟩:St).stat j=if j=k then some (some ⟨0,[],.res R⟩) else σ.stat j:=fun j=>stat_cons _ _ _ _ j _
 have hlater:Later σ.stat (⟨σ.slots,(k,some ⟨0,[],.res R⟩)::σ.boxes,σ.X⟩:St).stat ι (put1 ι k (w.heap.size,m)):=by
  intro j hj
  have hne:j≠k:=by rintro rfl;exact hj hk
  rw [hst,if_neg hne]
  exact ⟨hj,fun b' hb'=>⟨by simp [put1,hne],b',hb'⟩⟩
 have hXlt:∀ j o,σ.X j=some o→j<w.heap.size:=fun j o hj=>(Array.getElem?_eq_some_iff.1 (hr.ext j o hj)).1
 have hFlt:∀ j b,F j b≠none→b<w.heap.size:=fun j b hb=>by
  cases h:F j b with
  | none=>exact absurd h hb
  | some o=>exact (Array.getElem?_eq_some_iff.1 (hF.mem j b o h).2.1).1
 have hnew:(w.alloc o).heap[w.heap.size]? = some o:=heap_alloc_new w _
 exact {
  defers:=hr.defers,size:=hr.size
  slots:=fun d lv hd=>by
   obtain ⟨v,hv,hvr⟩:=hr.slots d lv hd
   exact ⟨v,hv,LV.rel_later hlater hvr⟩
  boxes:=fun j b hj hbk=>by
   rw [hst] at hj
   by_cases e:j=k
   ·rw [if_pos e] at hj
    simp only [Option.some.injEq] at hj
    subst hj
    cases hbk
   ·rw [if_neg e] at hj
    obtain ⟨arr,fr,g1,g2,g3,g4⟩:=hr.boxes j b hj hbk
    refine ⟨arr,fr,?_,g2,by simp only [put1,e,if_false];exact g3,Box.rel_later hlater g4⟩
    simp only [put1,e,if_false]
    rw [heap_alloc_lt (hr.blocklt hj)]
    exact g1
  own:=fun j b hj=>by
   rw [hst] at hj
   by_cases e:j=k
   ·subst e
    simp only [put1,if_true]
    refine ⟨.inr hr.big,?_⟩
    show σ.X w.heap.size=none
    cases hx:σ.X w.heap.size with
    | none=>rfl
    | some o=>exact absurd (hXlt _ o hx) (by omega)
   ·rw [if_neg e] at hj
    simp only [put1,e,if_false]
    exact hr.own j b hj
  inj:=fun i j bi bj hi hj heq=>by
   rw [hst] at hi hj
   by_cases ei:i=k
   ·by_cases ej:j=k
    ·rw [ei,ej]
    ·rw [if_neg ej] at hj
     have:=hr.blocklt hj
     simp only [put1,ei,if_true,ej,if_false] at heq
     omega
   ·rw [if_neg ei] at hi
    by_cases ej:j=k
    ·have:=hr.blocklt hi
     simp only [put1,ej,if_true,ei,if_false] at heq
     omega
    ·rw [if_neg ej] at hj
     simp only [put1,ei,ej,if_false] at heq
     exact hr.inj i j bi bj hi hj heq
  keep:=fun j b hj hge=>by
   rw [hst] at hj
   have e:j≠k:=by omega
   rw [if_neg e] at hj
   simp only [put1,e,if_false]
   exact hr.keep j b hj hge
  ext:=fun j o hj=>by rw [heap_alloc_lt (hXlt j o hj)];exact hr.ext j o hj
  res:=by
   refine ⟨fun j=>open Classical in if j=k then withBlock (fun _=>none) w.heap.size o else F j,fun j e' cs' R1 hj => ?_,fun j b ob hob => ?_,fun i j b h1 h2 => ?_⟩
   ·rw [hst] at hj
    by_cases ej:j=k
    ·rw [if_pos ej] at hj
     cases hj
     rw [if_pos ej]
     simp only [put1,ej,if_true]
     exact ⟨hR _,by rw [withBlock_at];simp⟩
    ·rw [if_neg ej] at hj
     rw [if_neg ej]
     simp only [put1,ej,if_false]
     exact hF.holds j e' cs' R1 hj
   ·by_cases ej:j=k
    ·rw [if_pos ej] at hob
     unfold withBlock at hob
     split at hob
     ·rename_i eb
      cases hob
      subst eb
      refine ⟨⟨0,[],R,by rw [hst,if_pos ej]⟩,hnew,ho,.inr hr.big,?_,fun i bi hi ei => ?_⟩
      ·cases hx:σ.X w.heap.size with
       | none=>rfl
       | some o'=>exact absurd (hXlt _ o' hx) (by omega)
      ·rw [hst] at hi
       by_cases e:i=k
       ·rw [e,ej]
       ·rw [if_neg e] at hi
        simp only [put1,e,if_false] at ei
        have:=hr.blocklt hi
        omega
     ·cases hob
    ·rw [if_neg ej] at hob
     obtain ⟨⟨e1,cs1,R1,h1⟩,h2,h3,h4,h5,h6⟩:=hF.mem j b ob hob
     have hlt:=(Array.getElem?_eq_some_iff.1 h2).1
     refine ⟨⟨e1,cs1,R1,by rw [hst,if_neg ej];exact h1⟩,by rw [heap_alloc_lt hlt];exact h2,h3,h4,h5,fun i bi hi ei => ?_⟩
     rw [hst] at hi
     by_cases e:i=k
     ·simp only [put1,e,if_true] at ei
      omega
     ·rw [if_neg e] at hi
      simp only [put1,e,if_false] at ei
      exact h6 i bi hi ei
   ·have hb:∀ i,i≠k→F i b≠none→withBlock (fun _=>none) w.heap.size o b=none:=fun i _ h=>by
     have:=hFlt i b h
     unfold withBlock
     rw [if_neg (by omega)]
    by_cases ei:i=k
    ·by_cases ej:j=k
     ·rw [ei,ej]
     ·rw [if_pos ei] at h1
      rw [if_neg ej] at h2
      exact absurd (hb j ej h2) h1
    ·by_cases ej:j=k
     ·rw [if_neg ei] at h1
      rw [if_pos ej] at h2
      exact absurd (hb i ei h1) h2
     ·rw [if_neg ei] at h1
      rw [if_neg ej] at h2
      exact hF.apart i j b h1 h2
  frame:=fun j hj hn=>by rw [heap_alloc_lt (Nat.lt_of_lt_of_le hj hr.big)];exact hr.frame j hj hn
  big:=by simp;exact Nat.le_succ_of_le hr.big
  os:=hr.os,tape:=hr.tape,output:=hr.output }
end
structure KL (P:Program) (k:TypeId):Prop where
 check:∀ (w:World) (em:Bool) {v:Value} {l:Lit},Go.keyOf P k v=some l→(Instr.checkKey em 10000 k v).run P w = .ok () w
 find:∀ (w:World) {x:Value} {lx:Lit},Go.keyOf P k x=some lx→∀ es:List MapEntry,(∀ e∈es,∃ l,Go.keyOf P k e.key=some l) →
  ((Instr.findKey k x es).run P w = .ok none w∧∀ e∈es,e.key≠x)∨∃ j e,(Instr.findKey k x es).run P w = .ok (some (j,e.val)) w∧es[j]? = some e∧e.key=x
 stays:∀ (w:World) {v:Value} {l:Lit},Go.keyOf P k v=some l→(Instr.keyThatStays v v).run P w = .ok v w
theorem KL.of {P:Program} {k:TypeId} (L:WideMaps.KeyLaw P k):KL P k:=⟨L.check,L.find,L.stays⟩
theorem KL.str {P:Program} {k:TypeId} (h:P.underlying k=some .string):KL P k:=.of (WideMaps.string_law h)
theorem keyOf_int {P:Program} {k:TypeId} {q:IntKind} (hk:P.underlying k=some (.int q)) {v:Value}:Go.keyOf P k v=mapKey P k v:=by unfold Go.keyOf;simp only [hk]
theorem int_of_keyOf {P:Program} {k:TypeId} {q:IntKind} (hk:P.underlying k=some (.int q)) {v:Value} {l:Lit} (h:Go.keyOf P k v=some l):∃ n,v = .int q n:=by
 rw [keyOf_int hk] at h
 unfold mapKey at h
 cases v<;>simp [hk] at h
 rename_i q' n
 exact ⟨n,by rw [h.1.1]⟩
open Go.MapKept Go.WideShapes Go.WideMaps in
theorem KL.int {P:Program} {k:TypeId} {q:IntKind} (hk:P.underlying k=some (.int q)):KL P k where
 check w em _ _ h:=by
  obtain ⟨n,rfl⟩:=int_of_keyOf hk h
  exact run_checkKey hk (d:=.int q) (k:=.int q n) rfl em 9999
 find w _ _ hx es hes:=by
  obtain ⟨n,rfl⟩:=int_of_keyOf hk hx
  have hks:∀ x∈es,IsKey (.int q) x.key:=fun x hxm=>by
   obtain ⟨l,hl⟩:=hes x hxm
   obtain ⟨n',e⟩:=int_of_keyOf hk hl
   rw [e]
   exact rfl
  rcases findNow_spec (d:=.int q) (k:=.int q n) rfl es 0 hks with ⟨h1,h2⟩|⟨j,e0,h1,h2,h3⟩
  ·exact Or.inl ⟨run_findKey hk h1,h2⟩
  ·exact Or.inr ⟨j,e0,by simpa using run_findKey hk h1,h2,h3⟩
 stays w _ _ h:=by
  obtain ⟨n,rfl⟩:=int_of_keyOf hk h
  exact run_keyThatStays (d:=.int q) (k:=.int q n) rfl
def mapR (P:Program) (kt:TypeId) (m:List (Value×Value)):Rsc:=⟨fun ρ H=>∃ es clock,H=withBlock (fun _=>none) ρ.1 (.map es clock)∧es.toList.map (fun x:MapEntry=>(x.key,x.val))=m∧(m.map (·.1)).Nodup∧∀ p∈m,∃ l,Go.keyOf P kt p.1=some l⟩
def At (m:List (Value×Value)) (key v z:Value):Prop:=(key,v)∈m∨((∀ p∈m,p.1≠key)∧v=z)
def Put (m:List (Value×Value)) (key v:Value) (m':List (Value×Value)):Prop:=(∃ i old,m[i]? = some (key,old)∧m'=m.set i (key,v))∨((∀ p∈m,p.1≠key)∧m'=m++[(key,v)])
theorem same_ix {m:List (Value×Value)} (hnd:(m.map (·.1)).Nodup) {i j:Nat} {key v u:Value} (hi:m[i]? = some (key,v)) (hj:m[j]? = some (key,u)):i=j:=by
 have hpi:(m.map (·.1))[i]? = some key:=by rw [List.getElem?_map,hi];rfl
 have hpj:(m.map (·.1))[j]? = some key:=by rw [List.getElem?_map,hj];rfl
 obtain ⟨hi,hie⟩:=List.getElem?_eq_some_iff.1 hpi
 obtain ⟨hjj,hje⟩:=List.getElem?_eq_some_iff.1 hpj
 have hp:=List.pairwise_iff_getElem.1 hnd
 rcases Nat.lt_trichotomy i j with h|h|h
 ·exact absurd (hie.trans hje.symm) (hp i j hi hjj h)
 ·exact h
 ·exact absurd (hje.trans hie.symm) (hp j i hjj hi h)
theorem same_at {m:List (Value×Value)} (hnd:(m.map (·.1)).Nodup) {i j:Nat} {key v u:Value} (hi:m[i]? = some (key,v)) (hj:m[j]? = some (key,u)):v=u:=by
 have e:=same_ix hnd hi hj
 subst e
 rw [hi] at hj
 simp only [Option.some.injEq,Prod.mk.injEq] at hj
 exact hj.2
def mapOf (P:Program) (t:TypeId):Option (TypeId×TypeId):=match P.underlying t with|some (.map k e)=>some (k,e)|_=>none
theorem mapOf_spec {P:Program} {t k e:TypeId} (h:mapOf P t=some (k,e)):P.underlying t=some (.map k e):=by
 unfold mapOf at h
 split at h
 ·rename_i h1;cases h;exact h1
 ·cases h
section
variable {P:Program} {n:Nat} {ops os:List Oper} {acc:List Eff} {K:List Eff→St→Prop} {s:List (Nat×LV)} {bx:List (Nat×Option Box)} {X:Nat→Option Obj} {σ:St}
theorem LOK.makeMap {d k:Nat} {t kt:TypeId} (hk:σ.fresh k=true):
  LOK P n ops ⟨some d,.makeMap t none,ty,pos,after_,g⟩ σ ⟨[(d,.sv (.one (.mp k)))],[],[(k,some ⟨0,[],.res (mapR P kt [])⟩)]⟩:=
 LOK.make fun σ' ha C ι a w hr=>by
  have hk':σ'.stat k=none:=(ha.stat k (.inr (by simp))).trans (St.fresh_none hk)
  have hlt:=St.fresh_lt hk
  have hrun:=run_makeMap_plain (P:=P) (w:=w) t
  refine ⟨.map (some w.heap.size),w.alloc (.map #[] 0),put1 ι k (w.heap.size,0),?_,?_,?_⟩
  ·simp only [execOp,Option.map_none,Sem.run_bind,hrun,Result.andThen_ok,Sem.run_pure]
  ·exact hr.resNew hlt hk' trivial fun b=>⟨#[],0,rfl,rfl,List.nodup_nil,fun _ h=>by cases h⟩
  ·simp [LV.rel,SV.rel,CV.rel,stat_cons,put1]
theorem K.makeMap {d:Nat} {t:TypeId} (kt:TypeId) (hk:(⟨s,bx,X⟩:St).fresh d=true) (hw:Want ops s g)
  (kont:RunK P n ops os ⟨(d,.sv (.one (.mp d)))::s,(d,some ⟨0,[],.res (mapR P kt [])⟩)::bx,X⟩ (⟨[(d,.sv (.one (.mp d)))],[],[(d,some ⟨0,[],.res (mapR P kt [])⟩)]⟩::acc) K):
  RunK P n ops (⟨some d,.makeMap t none,ty,pos,after_,g⟩::os) ⟨s,bx,X⟩ acc K:=RunK.g2 (LOK.makeMap hk) hw kont
theorem LOK.mapUpdate {k:Nat} {t kt et:TypeId} {x y u:Operand} {m m':List (Value×Value)} {e:TypeId} {cs:List CV} {key v:Value} {l:Lit} {lv:LV}
  (hx:σ.ev x=some (.sv (.one (.mp k)))) (hy:σ.ev y=some (.sv (.one (.val key)))) (hu:σ.ev u=some lv) (hlv:∀ (S:Nat→Option (Option Box)) (ι:Nat→Nat×Nat) (w:Value),lv.rel S ι w→w=v) (hk:σ.stat k=some (some ⟨e,cs,.res (mapR P kt m)⟩)) (hm:mapOf P t=some (kt,et)) (L:KL P kt) (hkey:Go.keyOf P kt key=some l) (hput:Put m key v m'):
  LOK P n ops ⟨none,.mapUpdate t x y u,ty,pos,after_,g⟩ σ ⟨[],[],[(k,some ⟨0,[],.res (mapR P kt m')⟩)]⟩:=
 LOK.act fun σ' ha C ι a w hr=>by
  have hk':=(ha.stat k (.inr (by simp))).trans hk
  have hv:=hr.ev ((ha.ev (x:=x) (by simp [Op.operands])).trans hx)
  have hkv:a.eval y=key:=hr.ev ((ha.ev (x:=y) (by simp [Op.operands])).trans hy)
  have huv:a.eval u=v:=hlv _ _ _ (hr.ev ((ha.ev (x:=u) (by simp [Op.operands])).trans hu))
  simp only [LV.rel,SV.rel,CV.rel,hk'] at hv
  obtain ⟨H,⟨es,clock,hHe,he,hnd,hkeys⟩,hH,_,hstep⟩:=hr.resStep hk'
  have hb:=hH (ι k).1 (.map es clock) (by rw [hHe];exact withBlock_at _ _ _)
  have ht:=mapOf_spec hm
  have hall:∀ x∈es.toList,∃ l,Go.keyOf P kt x.key=some l:=fun x hx=>by
   refine hkeys (x.key,x.val) ?_
   rw [← he]
   exact List.mem_map.2 ⟨x,hx,rfl⟩
  have hset:=fun (o':Obj)=>MapKept.heap_set (o':=o') hb
  have hmain:∃ es' clock',(Instr.mapUpdate t (.map (some (ι k).1)) key v).run P w = .ok () { w with heap:=w.heap.setIfInBounds (ι k).1 (.map es' clock') }∧es'.toList.map (fun x:MapEntry=>(x.key,x.val))=m'∧(m'.map (·.1)).Nodup∧∀ p∈m',∃ l,Go.keyOf P kt p.1=some l:=by
   rcases L.find w hkey es.toList hall with ⟨h1,h2⟩|⟨j,e0,h1,h2,h3⟩
   ·have hno:∀ p∈m,p.1≠key:=fun p hp=>by
     rw [← he] at hp
     obtain ⟨x,hx,rfl⟩:=List.mem_map.1 hp
     exact h2 x hx
    have hm':m'=m++[(key,v)]:=by
     rcases hput with ⟨i,old,h4,_⟩|⟨_,h4⟩
     ·exact absurd rfl (hno _ (List.mem_of_getElem? h4))
     ·exact h4
    refine ⟨es.push { key:=key,val:=v,born:=clock },clock+1,?_,by rw [hm',Array.toList_push,List.map_append,he];rfl,?_,?_⟩
    ·simp [Instr.mapUpdate,run_underlying ht,MapKept.run_getObj_map hb,L.check w _ hkey,h1,MapKept.run_setObj_map _ hb,Result.andThen]
    ·rw [hm',List.map_append]
     refine List.nodup_append.2 ⟨hnd,by simp,fun x hx y hy e => ?_⟩
     obtain ⟨p,hp,rfl⟩:=List.mem_map.1 hx
     simp at hy
     rw [hy] at e
     exact hno p hp e
    ·intro p hp
     rw [hm'] at hp
     rcases List.mem_append.1 hp with hp|hp
     ·exact hkeys p hp
     ·simp at hp;subst hp;exact ⟨l,hkey⟩
   ·have hj:es[j]? = some e0:=by simpa using h2
    have hmj:m[j]? = some (key,e0.val):=by rw [← he,List.getElem?_map,h2,← h3];rfl
    have hm':m'=m.set j (key,v):=by
     rcases hput with ⟨i,old,h4,h5⟩|⟨h4,_⟩
     ·have hij:i=j:=same_ix hnd h4 hmj
      rw [h5,hij]
     ·exact absurd rfl (h4 _ (List.mem_of_getElem? hmj))
    refine ⟨es.modify j fun x=>{ x with key:=key,val:=v },clock,?_,?_,?_,?_⟩
    ·have hst:=L.stays w hkey
     have hks:((es[j]?).map (·.key)).getD key=key:=by rw [hj];exact h3
     simp [Instr.mapUpdate,run_underlying ht,MapKept.run_getObj_map hb,L.check w _ hkey,h1,hj,h3,hst,MapKept.run_setObj_map _ hb,Result.andThen]
    ·rw [hm',← he]
     apply List.ext_getElem?
     intro i
     rw [List.getElem?_map,Array.getElem?_toList,Array.getElem?_modify,List.getElem?_set,List.getElem?_map,Array.getElem?_toList]
     by_cases hij:j=i
     ·subst hij
      simp [hj]
      have:=(Array.getElem?_eq_some_iff.1 hj).1
      omega
     ·simp [hij]
    ·rw [hm',List.map_set]
     have:(m.map (·.1)).set j key=m.map (·.1):=by
      apply List.ext_getElem?
      intro i
      rw [List.getElem?_set]
      by_cases hij:j=i
      ·subst hij
       rw [if_pos rfl,List.getElem?_map,hmj]
       have:=(List.getElem?_eq_some_iff.1 hmj).1
       simp [this]
      ·rw [if_neg hij]
     rw [this];exact hnd
    ·intro p hp
     rw [hm'] at hp
     rcases List.mem_or_eq_of_mem_set hp with hp|rfl
     ·exact hkeys p hp
     ·exact ⟨l,hkey⟩
  obtain ⟨es',clock',hrun,he',hnd',hkeys'⟩:=hmain
  refine ⟨{ w with heap:=w.heap.setIfInBounds (ι k).1 (.map es' clock') },ι,by simp only [execOp,hv,hkv,huv,Sem.run_bind,hrun,Result.andThen_ok,Sem.run_pure],?_⟩
  refine hstep _ (withBlock (fun _=>none) (ι k).1 (.map es' clock')) _ (fun b hb2 _ => ?_) (fun b o ho => ?_) (fun b h => ?_) (by rw [withBlock_at];simp) ⟨es',clock',rfl,he',hnd',hkeys'⟩ (by simp) rfl rfl rfl
  ·refine (hset _).2 b fun e => ?_
   rw [hHe,e,withBlock_at] at hb2
   cases hb2
  ·unfold withBlock at ho
   split at ho
   ·rename_i e;cases ho;subst e
    exact ⟨(hset _).1,trivial⟩
   ·cases ho
  ·rw [hHe]
   unfold withBlock at h ⊢
   split
   ·simp
   ·rename_i hne;rw [if_neg hne] at h;exact h
end
end Go.Lg
end
section
namespace Go.Lg
open Go Go.RowKit
variable {ty:TypeId} {pos:String} {after:Array Edge} {after_:Array Edge} {g:Option (Nat×Bool)}
section
variable {P:Program} {n:Nat} {C:Ctx} {c:Code} {Q:Exit→St→Prop} {X:Nat→Option Obj}
theorem Rel.freezePtr {ι:Nat→Nat×Nat} {a:Act} {w:World} {s:List (Nat×LV)} {bx:List (Nat×Option Box)} {d k off:Nat} {el:TypeId} {vals:List Value} {row:Bool}
  (hs:s.all (fun p=>p.2.inUse bx)=true) (hb:bx.all (fun p=>match p.2 with|some b=>b.cells.all (CV.inUse bx)|none=>true)=true) (hk:look k bx=none)
  (hr:Rel n C ι ⟨(d,.sv (.one (.ptr k off)))::s,(k,some ⟨el,vals.map .val,row⟩)::bx,X⟩ a w):
  ∃ (blk:Nat) (arr:Array Value) (fr:Nat×Nat),X blk=none∧Frozen C blk arr fr∧(∃ sp,arr.toList=vals++sp) ∧
   Rel n C ι ⟨(d,.sv (.one (.val (.pointer (some ⟨blk,off,none⟩)))))::s,bx,withBlock X blk (.cells arr el fr)⟩ a w:=by
 have hst:(⟨(d,.sv (.one (.ptr k off)))::s,(k,some ⟨el,vals.map .val,row⟩)::bx,X⟩:St).stat k=some (some ⟨el,vals.map .val,row⟩):=by
  simp [St.stat,look]
 have hlk:∀ k' x,look k' bx=some x→k'≠k:=fun k' x h' e=>by rw [e,hk] at h';cases h'
 have hstb:∀ k' x,look k' bx=some x→(⟨(d,.sv (.one (.ptr k off)))::s,(k,some ⟨el,vals.map .val,row⟩)::bx,X⟩:St).stat k'=some x:=fun k' x h'=>by
  simp only [St.stat,look]
  cases e:Nat.beq k k' with
  | true=>exact absurd (Nat.eq_of_beq_eq_true e).symm (hlk k' x h')
  | false=>exact h'
 obtain ⟨arr,fr,harr,hth,hsz,hbr⟩:=hr.boxes k _ hst rfl
 obtain ⟨v,hv,hvr⟩:=hr.slots d (.sv (.one (.ptr k off))) (by simp [St.slot,look])
 simp only [LV.rel,SV.rel,CV.rel] at hvr
 rw [hst] at hvr
 subst hvr
 have hXn:X (ι k).1=none:=(hr.own k _ hst).2
 have hsp:∃ sp,arr.toList=vals++sp:=by
  unfold Box.rel at hbr
  cases hrow:row with
  | false =>
   rw [hrow] at hbr
   exact ⟨[],by rw [List.append_nil];exact rel_vals hbr⟩
  | true =>
   rw [hrow] at hbr
   obtain ⟨us,sp,e,hl⟩:=hbr
   exact ⟨sp,by rw [e,rel_vals hl]⟩
 refine ⟨(ι k).1,arr,fr,hXn,⟨(hr.own k _ hst).1,hth⟩,hsp,?_⟩
 have hon:SameOn bx (⟨(d,.sv (.one (.ptr k off)))::s,(k,some ⟨el,vals.map .val,row⟩)::bx,X⟩:St).stat (fun k=>look k bx):=fun k' x h'=>(hstb k' x h').trans h'.symm
 exact {
  defers:=hr.defers,size:=hr.size
  slots:=fun d' lv hd=>by
   simp only [St.slot,look] at hd
   cases e:Nat.beq d d' with
   | true =>
    rw [e] at hd
    simp at hd
    subst hd
    have:=Nat.eq_of_beq_eq_true e
    subst this
    exact ⟨_,hv,rfl⟩
   | false =>
    rw [e] at hd
    have hd:look d' s=some lv:=by simpa using hd
    obtain ⟨v',hv',hr'⟩:=hr.slots d' lv (by simp only [St.slot,look,e];exact hd)
    exact ⟨v',hv',LV.rel_on hon (List.all_eq_true.1 hs _ (look_mem hd)) hr'⟩
  res:=by
   obtain ⟨F,hF⟩:=hr.res
   refine hF.keep (fun j e cs R hj=>⟨hstb j _ hj,rfl⟩) (fun _ _ _ _ _ hj=>hj) (fun _ _ ho=>ho) (fun b _ hx hne _ => ?_) (fun j bj hj=>.inl ⟨bj,hstb j _ hj,rfl⟩)
   show withBlock X (ι k).1 _ b=none
   unfold withBlock
   rw [if_neg (fun e=>hne k _ hst rfl e.symm)]
   exact hx
  boxes:=fun k' b hb' hbk=>by
   have hb':look k' bx=some (some b):=hb'
   obtain ⟨arr',fr',h1,h2,h3,h4⟩:=hr.boxes k' b (hstb k' _ hb') hbk
   exact ⟨arr',fr',h1,h2,h3,Box.rel_on hon (by simpa using List.all_eq_true.1 hb _ (look_mem hb')) h4⟩
  own:=fun k' b hb'=>by
   have hb':look k' bx=some (some b):=hb'
   obtain ⟨h1,h2⟩:=hr.own k' b (hstb k' _ hb')
   refine ⟨h1,?_⟩
   show withBlock X (ι k).1 _ (ι k').1=none
   unfold withBlock
   rw [if_neg (fun e=>hlk k' _ hb' (hr.inj k' k b _ (hstb k' _ hb') hst e))]
   exact h2
  inj:=fun k1 k2 b1 b2 h1 h2 he=>hr.inj k1 k2 b1 b2 (hstb k1 _ h1) (hstb k2 _ h2) he
  keep:=fun k' b hb' hge=>hr.keep k' b (hstb k' _ hb') hge
  ext:=fun b o hbo=>by
   have hbo:withBlock X (ι k).1 (.cells arr el fr) b=some o:=hbo
   unfold withBlock at hbo
   by_cases e:b=(ι k).1
   ·rw [if_pos e] at hbo
    rw [e,harr];exact hbo
   ·rw [if_neg e] at hbo
    exact hr.ext b o hbo
  frame:=hr.frame,big:=hr.big,os:=hr.os,tape:=hr.tape,output:=hr.output }
theorem LWP.freezePtr {s:List (Nat×LV)} {bx:List (Nat×Option Box)} {d k off:Nat} {el:TypeId} {vals:List Value} {row:Bool}
  (hs:s.all (fun p=>p.2.inUse bx)=true) (hb:bx.all (fun p=>match p.2 with|some b=>b.cells.all (CV.inUse bx)|none=>true)=true) (hk:look k bx=none)
  (h:∀ (blk:Nat) (arr:Array Value) (fr:Nat×Nat),X blk=none→Frozen C blk arr fr→(∃ sp,arr.toList=vals++sp) →
   LWP P n C c Q ⟨(d,.sv (.one (.val (.pointer (some ⟨blk,off,none⟩)))))::s,bx,withBlock X blk (.cells arr el fr)⟩):
  LWP P n C c Q ⟨(d,.sv (.one (.ptr k off)))::s,(k,some ⟨el,vals.map .val,row⟩)::bx,X⟩:=by
 refine ⟨fun ι a w hr => ?_⟩
 obtain ⟨blk,arr,fr,h1,h2,h5,h6⟩:=hr.freezePtr hs hb hk
 exact (h blk arr fr h1 h2 h5).out ι a w h6
end
section
variable {P:Program} {n:Nat} {ops os:List Oper} {acc:List Eff} {K:List Eff→St→Prop} {s:List (Nat×LV)} {bx:List (Nat×Option Box)} {X:Nat→Option Obj} {σ:St}
theorem LOK.makeFunc {d:Nat} {fn:Fn} {caps:List Operand} {us:List Value} {lvs:List LV} (hc:evs σ caps=some lvs) (hu:plainLVs lvs=some us):
  LOK P n ops ⟨some d,.makeFunc fn #[] caps.toArray,ty,pos,after_,g⟩ σ ⟨[(d,.sv (.one (.val (.func fn #[] us.toArray))))],[],[]⟩:=
 LOK.value fun σ' ha C ι a w hr=>by
  have hc':evs σ' caps=some lvs:=by
   rw [evs_agree fun x hx=>ha.ev (by simp [Op.operands,hx])]
   exact hc
  have e:caps.map a.eval=us:=plainLVs_rel hu (evs_rel hr hc')
  exact ⟨.func fn #[] us.toArray,by rw [← e];simp [execOp,Instr.makeFunc],rfl⟩
theorem K.makeFunc {d:Nat} {fn:Fn} {caps:List Operand} {us:List Value} {lvs:List LV} (hc:evs ⟨s,bx,X⟩ caps=some lvs) (hu:plainLVs lvs=some us) (hw:Want ops s g)
  (kont:RunK P n ops os ⟨(d,.sv (.one (.val (.func fn #[] us.toArray))))::s,bx,X⟩ (⟨[(d,.sv (.one (.val (.func fn #[] us.toArray))))],[],[]⟩::acc) K):
  RunK P n ops (⟨some d,.makeFunc fn #[] caps.toArray,ty,pos,after_,g⟩::os) ⟨s,bx,X⟩ acc K:=RunK.g1 (LOK.makeFunc hc hu) hw kont
theorem LOK.callF {d:Nat} {x:Operand} {f:FuncId} {caps:List Value} {args:List Operand} {tys:Array TypeId} {lvs:List LV} {r:LV} (hx:σ.ev x=some (.sv (.one (.val (.func (.func f) #[] caps.toArray))))) (hargs:evs σ args=some lvs) (hcl:lvs.all LV.closed=true) (hs:PSpec P σ.X f (lvs++caps.map fun v=>.sv (.one (.val v))) r):
  LOK P n ops ⟨some d,.call ⟨.value x,args.toArray,tys⟩,ty,pos,after_,g⟩ σ ⟨[(d,r)],[],[]⟩:=by
 refine ⟨fun σ' ha C ι a w hr hd next Q hn => ?_⟩
 have hargs':evs σ' args=some lvs:=by
  rw [evs_agree fun y hy=>ha.ev (by simp [Op.operands,Call.operands,hy])]
  exact hargs
 have hv:a.eval x = .func (.func f) #[] caps.toArray:=hr.ev ((ha.ev (x:=x) (by simp [Op.operands,Call.operands])).trans hx)
 have hrel:=LVs.rel_closed (S':=noS) (ι':=fun _=>(0,0)) hcl (evs_rel hr hargs')
 have happ:∀ {l:List LV} {us:List Value},LVs.rel noS (fun _=>(0,0)) l us→LVs.rel noS (fun _=>(0,0)) (l++caps.map fun v=>.sv (.one (.val v))) (us++caps):=fun {l}=>by
  induction l with
  | nil =>
   intro us h
   cases us with
   | cons=>exact h.elim
   | nil =>
    simp only [List.nil_append]
    have key:∀ cs:List Value,LVs.rel noS (fun _=>(0,0)) (cs.map fun v=>LV.sv (.one (.val v))) cs:=fun cs=>by
     induction cs with
     | nil=>trivial
     | cons c cs ih=>exact ⟨rfl,ih⟩
    exact key caps
  | cons a l ih =>
   intro us h
   cases us with
   | nil=>exact h.elim
   | cons u us=>exact ⟨h.1,ih h.2⟩
 have hc:=hs.out w (args.toArray.map a.eval++caps.toArray) (fun b o hb=>hr.ext b o (by rw [ha.X];exact hb)) (by simpa using happ hrel)
 unfold Oper.wp
 have hrun:(execOp a.eval ⟨some d,.call ⟨.value x,args.toArray,tys⟩,ty,pos,after_,g⟩).run P w = .ok (.enter f (args.toArray.map a.eval++caps.toArray)) w:=by
  simp only [execOp,resolve,hv,Deferred.ofValue,invoke,Sem.run_bind,Sem.run_pure,Result.andThen_ok]
  simp [run_enter hs.enters]
 rw [hrun]
 refine hc.mono ?_
 rintro e w' ⟨v,rfl,hv,hb⟩
 exact hn ι _ w' ((hr.below hb).put (hd d rfl) (LV.rel_later (later_noS _ _ _) hv))
theorem K.callF {d:Nat} {x:Operand} {f:FuncId} {caps:List Value} {args:List Operand} {tys:Array TypeId} {lvs:List LV} {r:LV} (hx:(⟨s,bx,X⟩:St).ev x=some (.sv (.one (.val (.func (.func f) #[] caps.toArray))))) (hargs:evs ⟨s,bx,X⟩ args=some lvs) (hcl:lvs.all LV.closed=true) (hs:PSpec P X f (lvs++caps.map fun v=>.sv (.one (.val v))) r) (hw:Want ops s g)
  (kont:RunK P n ops os ⟨(d,r)::s,bx,X⟩ (⟨[(d,r)],[],[]⟩::acc) K):
  RunK P n ops (⟨some d,.call ⟨.value x,args.toArray,tys⟩,ty,pos,after_,g⟩::os) ⟨s,bx,X⟩ acc K:=RunK.g1 (LOK.callF hx hargs hcl hs) hw kont
theorem LOK.lookupOk {d k:Nat} {t kt et:TypeId} {x y:Operand} {m:List (Value×Value)} {e:TypeId} {cs:List CV} {key v z:Value} {l:Lit} {r:Bool} (sv:SV)
  (hx:σ.ev x=some (.sv (.one (.mp k)))) (hy:σ.ev y=some (.sv (.one (.val key)))) (hk:σ.stat k=some (some ⟨e,cs,.res (mapR P kt m)⟩)) (hm:mapOf P t=some (kt,et)) (L:KL P kt) (hkey:Go.keyOf P kt key=some l) (hz:(P.info? et).bind (·.zero)=some z) (hat:At m key v z) (hsv:∀ (S:Nat→Option (Option Box)) (ι:Nat→Nat×Nat),sv.rel S ι v) (hr:r=true↔∃ p∈m,p.1=key):
  LOK P n ops ⟨some d,.lookup t x y true,ty,pos,after_,g⟩ σ ⟨[(d,.tup [sv,.one (.val (.bool r))])],[k],[]⟩:=
 LOK.value fun σ' ha C ι a w hrl=>by
  have hk':=(ha.stat k (.inl (by simp))).trans hk
  have hv:=hrl.ev ((ha.ev (x:=x) (by simp [Op.operands])).trans hx)
  have hkv:a.eval y=key:=hrl.ev ((ha.ev (x:=y) (by simp [Op.operands])).trans hy)
  simp only [LV.rel,SV.rel,CV.rel,hk'] at hv
  obtain ⟨H,⟨es,clock,rfl,he,hnd,hkeys⟩,hH,_⟩:=hrl.resStep hk'
  have hb:=hH (ι k).1 _ (withBlock_at _ _ _)
  have ht:=mapOf_spec hm
  have hzr:(zeroValue et).run P w = .ok z w:=by
   cases hi:P.info? et with
   | none=>rw [hi] at hz;cases hz
   | some i=>rw [hi] at hz;have hz:i.zero=some z:=hz;simp [zeroValue,typeInfo,hi,hz]
  have hall:∀ x∈es.toList,∃ l,Go.keyOf P kt x.key=some l:=fun x hx=>by
   refine hkeys (x.key,x.val) ?_
   rw [← he]
   exact List.mem_map.2 ⟨x,hx,rfl⟩
  have hrun:(Instr.lookup t (.map (some (ι k).1)) key true).run P w = .ok (.tuple #[v,.bool r]) w:=by
   rcases L.find w hkey es.toList hall with ⟨h1,h2⟩|⟨j,e0,h1,h2,h3⟩
   ·have hvz:v=z:=by
     rcases hat with h4|⟨_,h4⟩
     ·rw [← he] at h4
      obtain ⟨x,hx,hxe⟩:=List.mem_map.1 h4
      cases hxe
      exact absurd rfl (h2 x hx)
     ·exact h4
    have hr0:r=false:=by
     cases r with
     | false=>rfl
     | true =>
      obtain ⟨p,hp,h5⟩:=hr.1 rfl
      rw [← he] at hp
      obtain ⟨x,hx,rfl⟩:=List.mem_map.1 hp
      exact absurd h5 (h2 x hx)
    simp [Instr.lookup,run_underlying ht,MapKept.run_getObj_map hb,L.check w _ hkey,h1,hzr,Result.andThen,hvz,hr0]
   ·have hmem:e0∈es.toList:=List.mem_of_getElem? h2
    have hv0:e0.val=v:=by
     rcases hat with h4|⟨h4,_⟩
     ·obtain ⟨i,hi⟩:=List.getElem?_of_mem h4
      have hmj:m[j]? = some (key,e0.val):=by rw [← he,List.getElem?_map,h2,← h3];rfl
      exact (same_at hnd hmj hi)
     ·refine absurd h3 (h4 (e0.key,e0.val) ?_)
      rw [← he]
      exact List.mem_map.2 ⟨e0,hmem,rfl⟩
    have hr1:r=true:=by
     refine hr.2 ⟨(e0.key,e0.val),?_,h3⟩
     rw [← he]
     exact List.mem_map.2 ⟨e0,hmem,rfl⟩
    simp [Instr.lookup,run_underlying ht,MapKept.run_getObj_map hb,L.check w _ hkey,h1,Result.andThen,hv0,hr1]
  exact ⟨.tuple #[v,.bool r],by simp only [execOp,hv,hkv,Sem.run_bind,hrun,Result.andThen_ok,Sem.run_pure],⟨_,rfl,hsv _ _,rfl,trivial⟩⟩
theorem K.lookupOk {d k:Nat} {t kt et:TypeId} {x y:Operand} {m:List (Value×Value)} {e:TypeId} {cs:List CV} {key v z:Value} {l:Lit} {r:Bool} (sv:SV)
  (hx:(⟨s,bx,X⟩:St).ev x=some (.sv (.one (.mp k)))) (hy:(⟨s,bx,X⟩:St).ev y=some (.sv (.one (.val key)))) (hk:(⟨s,bx,X⟩:St).stat k=some (some ⟨e,cs,.res (mapR P kt m)⟩)) (hm:mapOf P t=some (kt,et)) (L:KL P kt) (hkey:Go.keyOf P kt key=some l) (hz:(P.info? et).bind (·.zero)=some z) (hat:At m key v z) (hsv:∀ (S:Nat→Option (Option Box)) (ι:Nat→Nat×Nat),sv.rel S ι v) (hr:r=true↔∃ p∈m,p.1=key) (hw:Want ops s g)
  (kont:RunK P n ops os ⟨(d,.tup [sv,.one (.val (.bool r))])::s,bx,X⟩ (⟨[(d,.tup [sv,.one (.val (.bool r))])],[k],[]⟩::acc) K):
  RunK P n ops (⟨some d,.lookup t x y true,ty,pos,after_,g⟩::os) ⟨s,bx,X⟩ acc K:=RunK.g1 (LOK.lookupOk sv hx hy hk hm L hkey hz hat hsv hr) hw kont
theorem agg0_of (S:Nat→Option (Option Box)) (ι:Nat→Nat×Nat) (w:Value) (h:LV.rel S ι (.sv (.agg [])) w):w = .agg #[]:=by
 obtain ⟨arr,rfl,h⟩:=h
 cases hl:arr.toList with
 | nil=>rw [show arr = #[] by simpa using hl]
 | cons a l=>rw [hl] at h;exact h.elim
theorem agg0_rel (S:Nat→Option (Option Box)) (ι:Nat→Nat×Nat):SV.rel S ι (.agg []) (.agg #[]):=⟨#[],rfl,trivial⟩
theorem K.mapPut {k:Nat} {t kt et:TypeId} {x y u:Operand} {m:List (Value×Value)} (m':List (Value×Value)) {e:TypeId} {cs:List CV} {key:Value} {l:Lit}
  (hx:(⟨s,bx,X⟩:St).ev x=some (.sv (.one (.mp k)))) (hy:(⟨s,bx,X⟩:St).ev y=some (.sv (.one (.val key)))) (hu:(⟨s,bx,X⟩:St).ev u=some (.sv (.agg []))) (hk:(⟨s,bx,X⟩:St).stat k=some (some ⟨e,cs,.res (mapR P kt m)⟩)) (hm:mapOf P t=some (kt,et)) (L:KL P kt) (hkey:Go.keyOf P kt key=some l) (hput:Put m key (.agg #[]) m') (hw:Want ops s g)
  (kont:RunK P n ops os ⟨s,(k,some ⟨0,[],.res (mapR P kt m')⟩)::bx,X⟩ (⟨[],[],[(k,some ⟨0,[],.res (mapR P kt m')⟩)]⟩::acc) K):
  RunK P n ops (⟨none,.mapUpdate t x y u,ty,pos,after_,g⟩::os) ⟨s,bx,X⟩ acc K:=RunK.g3 (LOK.mapUpdate hx hy hu agg0_of hk hm L hkey hput) hw kont
end
theorem Le.trans {n:Nat} {C:Ctx} {σ1 σ2 σ3:St} (h:Le n C σ1 σ2) (h':Le n C σ2 σ3):Le n C σ1 σ3:=⟨fun ι a w hr=>by
 obtain ⟨ι1,h1⟩:=h.out ι a w hr
 exact h'.out ι1 a w h1⟩
end Go.Lg
end
section
namespace Go.Lg
open Go Go.RowKit
section
variable {P:Program} {n:Nat} {ops os:List Oper} {acc:List Eff} {K:List Eff→St→Prop} {s:List (Nat×LV)} {bx:List (Nat×Option Box)} {X:Nat→Option Obj} {σ:St}
end
section
variable {P:Program} {n:Nat} {C:Ctx} {c:Code} {Q:Exit→St→Prop} {X:Nat→Option Obj}
theorem Rel.fixRes {ι:Nat→Nat×Nat} {a:Act} {w:World} {s:List (Nat×LV)} {bx:List (Nat×Option Box)} {d k off len sz:Nat} {e:TypeId} {cs:List CV} {R:Rsc}
  (hs:s.all (fun p=>p.2.inUse bx)=true) (hb:bx.all (fun p=>match p.2 with|some b=>b.cells.all (CV.inUse bx)|none=>true)=true) (hk:look k bx=none)
  (hr:Rel n C ι ⟨(d,.sv (.one (.slc k off len sz)))::s,(k,some ⟨e,cs,.res R⟩)::bx,X⟩ a w):
  ∃ (ρ:Nat×Nat) (H:Nat→Option Obj) (cap:Nat),R.holds ρ H∧OwnedM C X H∧len≤cap∧off+cap*sz≤ρ.2 ∧
   Rel n C ι ⟨(d,.sv (.one (.val (.slice (some ⟨ρ.1,off,none⟩) len cap))))::s,bx,joinM X H⟩ a w:=by
 have hst:(⟨(d,.sv (.one (.slc k off len sz)))::s,(k,some ⟨e,cs,.res R⟩)::bx,X⟩:St).stat k=some (some ⟨e,cs,.res R⟩):=by simp [St.stat,look]
 have hlk:∀ k' x,look k' bx=some x→k'≠k:=fun k' x h' e=>by rw [e,hk] at h';cases h'
 have hstb:∀ k' x,look k' bx=some x→(⟨(d,.sv (.one (.slc k off len sz)))::s,(k,some ⟨e,cs,.res R⟩)::bx,X⟩:St).stat k'=some x:=fun k' x h'=>by
  simp only [St.stat,look]
  cases e:Nat.beq k k' with
  | true=>exact absurd (Nat.eq_of_beq_eq_true e).symm (hlk k' x h')
  | false=>exact h'
 have hback:∀ j x,j≠k→(⟨(d,.sv (.one (.slc k off len sz)))::s,(k,some ⟨e,cs,.res R⟩)::bx,X⟩:St).stat j=some x→look j bx=some x:=fun j x hj h'=>by
  simp only [St.stat,look] at h'
  cases e:Nat.beq k j with
  | true=>exact absurd (Nat.eq_of_beq_eq_true e).symm hj
  | false=>rw [e] at h';exact h'
 obtain ⟨F,hF⟩:=hr.res
 obtain ⟨hR,_⟩:=hF.holds k _ _ _ hst
 obtain ⟨v,hv,hvr⟩:=hr.slots d (.sv (.one (.slc k off len sz))) (by simp [St.slot,look])
 simp only [LV.rel,SV.rel,CV.rel] at hvr
 rw [hst] at hvr
 obtain ⟨cap,rfl,hcap,hfit⟩:=hvr
 refine ⟨ι k,F k,cap,hR,⟨fun b o hb=>let h:=hF.mem k b o hb;⟨h.2.2.2.1,h.2.2.1,h.2.2.2.2.1⟩⟩,hcap,hfit,?_⟩
 have hon:SameOn bx (⟨(d,.sv (.one (.slc k off len sz)))::s,(k,some ⟨e,cs,.res R⟩)::bx,X⟩:St).stat (fun k=>look k bx):=fun k' x h'=>(hstb k' x h').trans h'.symm
 have hnot:∀ j b,look j bx=some (some b)→F k (ι j).1=none:=fun j b hj=>by
  cases hc:F k (ι j).1 with
  | none=>rfl
  | some o=>exact absurd ((hF.mem k _ o hc).2.2.2.2.2 j b (hstb j _ hj) rfl) (hlk j _ hj)
 exact {
  defers:=hr.defers,size:=hr.size
  slots:=fun d' lv hd=>by
   simp only [St.slot,look] at hd
   cases e:Nat.beq d d' with
   | true =>
    rw [e] at hd
    simp at hd
    subst hd
    have:=Nat.eq_of_beq_eq_true e
    subst this
    exact ⟨_,hv,rfl⟩
   | false =>
    rw [e] at hd
    have hd:look d' s=some lv:=by simpa using hd
    obtain ⟨v',hv',hr'⟩:=hr.slots d' lv (by simp only [St.slot,look,e];exact hd)
    exact ⟨v',hv',LV.rel_on hon (List.all_eq_true.1 hs _ (look_mem hd)) hr'⟩
  boxes:=fun k' b hb' hbk=>by
   have hb':look k' bx=some (some b):=hb'
   obtain ⟨arr',fr',h1,h2,h3,h4⟩:=hr.boxes k' b (hstb k' _ hb') hbk
   exact ⟨arr',fr',h1,h2,h3,Box.rel_on hon (by simpa using List.all_eq_true.1 hb _ (look_mem hb')) h4⟩
  own:=fun k' b hb'=>by
   have hb':look k' bx=some (some b):=hb'
   obtain ⟨h1,h2⟩:=hr.own k' b (hstb k' _ hb')
   exact ⟨h1,(joinM_out (hnot k' b hb')).trans h2⟩
  inj:=fun k1 k2 b1 b2 h1 h2 he=>hr.inj k1 k2 b1 b2 (hstb k1 _ h1) (hstb k2 _ h2) he
  keep:=fun k' b hb' hge=>hr.keep k' b (hstb k' _ hb') hge
  ext:=fun b o hbo=>by
   have hbo:joinM X (F k) b=some o:=hbo
   cases hc:F k b with
   | none=>rw [joinM_out hc] at hbo;exact hr.ext b o hbo
   | some o' =>
    rw [joinM_in hc] at hbo
    cases hbo
    exact (hF.mem k b o hc).2.1
  res:=by
   refine ⟨fun j=>open Classical in if j=k then fun _=>none else F j,fun j e' cs' R' hj => ?_,fun j b o ho => ?_,fun i j b h1 h2 => ?_⟩
   ·have hj:look j bx=some (some ⟨e',cs',.res R'⟩):=hj
    rw [if_neg (hlk j _ hj)]
    exact hF.holds j e' cs' R' (hstb j _ hj)
   ·by_cases ej:j=k
    ·rw [if_pos ej] at ho;cases ho
    ·rw [if_neg ej] at ho
     obtain ⟨⟨e1,cs1,R1,h1⟩,h2,h3,h4,h5,h6⟩:=hF.mem j b o ho
     refine ⟨⟨e1,cs1,R1,hback j _ ej h1⟩,h2,h3,h4,?_,fun i bi hi ei=>h6 i bi (hstb i _ hi) ei⟩
     have hc:F k b=none:=by
      cases hc:F k b with
      | none=>rfl
      | some o'=>exact absurd (hF.apart j k b (by rw [ho];simp) (by rw [hc];simp)) ej
     exact (joinM_out hc).trans h5
   ·by_cases ei:i=k
    ·rw [if_pos ei] at h1;exact absurd rfl h1
    ·by_cases ej:j=k
     ·rw [if_pos ej] at h2;exact absurd rfl h2
     ·rw [if_neg ei] at h1
      rw [if_neg ej] at h2
      exact hF.apart i j b h1 h2
  frame:=hr.frame,big:=hr.big,os:=hr.os,tape:=hr.tape,output:=hr.output }
theorem LWP.fixRes {s:List (Nat×LV)} {bx:List (Nat×Option Box)} {d k off len sz:Nat} {e:TypeId} {cs:List CV} {R:Rsc}
  (hs:s.all (fun p=>p.2.inUse bx)=true) (hb:bx.all (fun p=>match p.2 with|some b=>b.cells.all (CV.inUse bx)|none=>true)=true) (hk:look k bx=none)
  (h:∀ (ρ:Nat×Nat) (H:Nat→Option Obj) (cap:Nat),R.holds ρ H→OwnedM C X H→len≤cap→off+cap*sz≤ρ.2→LWP P n C c Q ⟨(d,.sv (.one (.val (.slice (some ⟨ρ.1,off,none⟩) len cap))))::s,bx,joinM X H⟩):
  LWP P n C c Q ⟨(d,.sv (.one (.slc k off len sz)))::s,(k,some ⟨e,cs,.res R⟩)::bx,X⟩:=by
 refine ⟨fun ι a w hr => ?_⟩
 obtain ⟨ρ,H,cap,h1,h2,h3,h4,h5⟩:=hr.fixRes hs hb hk
 exact (h ρ H cap h1 h2 h3 h4).out ι a w h5
end
theorem Le.loose {n:Nat} {C:Ctx} {s:List (Nat×LV)} {bx:List (Nat×Option Box)} {X:Nat→Option Obj} {j:Nat} {e:TypeId} {A:List CV} {r:Bool}:Le n C ⟨s,(j,some ⟨e,A,r⟩)::bx,X⟩ ⟨s,(j,some ⟨e,A,true⟩)::bx,X⟩:=by
 have h:=Le.trim (n:=n) (C:=C) (s:=s) (bx:=bx) (X:=X) (j:=j) (e:=e) (A:=A) (B:=[]) (r:=r)
 rw [List.append_nil] at h
 exact h
end Go.Lg
end
section
namespace Go.Lg
open Go Go.RowKit
section
variable {P:Program} {n:Nat} {ops os:List Oper} {acc:List Eff} {K:List Eff→St→Prop} {s:List (Nat×LV)} {bx:List (Nat×Option Box)} {X:Nat→Option Obj} {σ:St}
theorem LOK.makeSlc0 {d m:Nat} {t e:TypeId} {x y:Operand} {ty:TypeId} {pos:String} {after_:Array Edge} {g:Option (Nat×Bool)} {kl kc:IntKind} {zs:List Value} {sz:Nat} {bytes:Nat}
  (hx:σ.ev x=some (.sv (.one (.val (.int kl 0))))) (hy:σ.ev y=some (.sv (.one (.val (.int kc (m:Nat)))))) (hst:slcBuild P t m=some (zs,sz,e)) (hby:(P.info? e).map (·.bytes)=some bytes) (hfit:bytes*m≤281474976710656∧m<9223372036854775808)
  (hk:σ.fresh d=true):LOK P n ops ⟨some d,.makeSlice t x y,ty,pos,after_,g⟩ σ ⟨[(d,.sv (.one (.slc d 0 0 sz)))],[],[(d,some ⟨e,[],true⟩)]⟩:=
 LOK.make fun σ' ha C ι a w hr=>by
  have hk':σ'.stat d=none:=(ha.stat d (.inr (by simp))).trans (St.fresh_none hk)
  have hlt:=St.fresh_lt hk
  have h1:a.eval x = .int kl 0:=hr.ev ((ha.ev (x:=x) (by simp [Op.operands])).trans hx)
  have h2:a.eval y = .int kc (m:Nat):=hr.ev ((ha.ev (x:=y) (by simp [Op.operands])).trans hy)
  unfold slcBuild at hst
  cases hu:P.underlying t with
  | none=>simp [hu] at hst
  | some dd =>
   cases dd<;>simp only [hu] at hst<;>try (simp at hst;done)
   rename_i e'
   cases hie:P.info? e' with
   | none=>simp [hie] at hst
   | some ie =>
    cases hz:ie.zero with
    | none=>simp [hie,hz] at hst
    | some z =>
     simp only [hie,hz] at hst
     by_cases hbig:m*ie.size>2^24
     ·rw [if_pos hbig] at hst;cases hst
     ·rw [if_neg hbig] at hst
      simp only [Option.some.injEq,Prod.mk.injEq] at hst
      obtain ⟨e1,e2,e3⟩:=hst
      subst e3
      rw [hie] at hby
      simp only [Option.map_some,Option.some.injEq] at hby
      have hbb:(ie.bytes:Int)*((m:Nat):Int)≤281474976710656:=by
       rw [hby,← Int.natCast_mul]
       have:=hfit.1
       omega
      have hrun:=run_make (P:=P) w t e' ie z hu hie hz kl kc 0 (m:Nat) (Int.le_refl _) (by omega) hbb (by have:=hfit.2;omega)
      simp only [Int.toNat_natCast,Int.toNat_zero] at hrun
      have hmc:madeCells z.cells (m*ie.size)=zs.toArray:=by
       unfold madeCells
       rw [range_map,← e1]
      rw [hmc] at hrun
      refine ⟨.slice (some ⟨w.heap.size,0,none⟩) 0 m,w.alloc (.cells zs.toArray e'),put1 ι d (w.heap.size,zs.toArray.size),?_,?_,?_⟩
      ·simp only [execOp,h1,h2,Sem.run_bind,hrun,Result.andThen_ok,Sem.run_pure]
      ·exact hr.new hlt hk' (b:=⟨e',[],true⟩) ⟨[],zs,by simp,trivial⟩
      ·have hl:zs.length=m*sz:=by rw [← e1,← e2];simp
       simp [LV.rel,SV.rel,CV.rel,stat_cons,put1,hl]
theorem K.makeSlc0 {d m:Nat} {t e:TypeId} {x y:Operand} {ty:TypeId} {pos:String} {after_:Array Edge} {g:Option (Nat×Bool)} {kl kc:IntKind} {zs:List Value} {sz:Nat} {bytes:Nat}
  (hx:(⟨s,bx,X⟩:St).ev x=some (.sv (.one (.val (.int kl 0))))) (hy:(⟨s,bx,X⟩:St).ev y=some (.sv (.one (.val (.int kc (m:Nat)))))) (hst:slcBuild P t m=some (zs,sz,e)) (hby:(P.info? e).map (·.bytes)=some bytes) (hfit:bytes*m≤281474976710656∧m<9223372036854775808)
  (hk:(⟨s,bx,X⟩:St).fresh d=true) (hw:Want ops s g) (kont:RunK P n ops os ⟨(d,.sv (.one (.slc d 0 0 sz)))::s,(d,some ⟨e,[],true⟩)::bx,X⟩ (⟨[(d,.sv (.one (.slc d 0 0 sz)))],[],[(d,some ⟨e,[],true⟩)]⟩::acc) K):
  RunK P n ops (⟨some d,.makeSlice t x y,ty,pos,after_,g⟩::os) ⟨s,bx,X⟩ acc K:=RunK.gen hw (LOK.makeSlc0 hx hy hst hby hfit hk) kont
end
theorem LWP.meetB {P:Program} {n:Nat} {C:Ctx} {c y:Code} {id:Nat} {Q Q2:Exit→St→Prop} {σ:St} (Mid:St→Prop)
  (h:LWP P n C c (blockQ id (thenQ (Leads n C Mid) (fun _ _=>False))) σ) (hm:∀ σ,Mid σ→LWP P n C y Q σ):LWP P n C c (blockQ id (thenQ (LWP P n C y Q) Q2)) σ:=by
 refine h.mono ?_
 intro e σ' hq
 cases e with
 | exit id' =>
  simp only [blockQ] at hq ⊢
  cases hb:Nat.beq id' id with
  | true =>
   rw [hb] at hq
   exact LWP.ofLeads hq hm
  | false=>rw [hb] at hq;exact hq.elim
 | normal=>exact LWP.ofLeads hq hm
 | goto l=>exact hq.elim
 | ret=>exact hq.elim
 | panic c=>exact hq.elim
 | outgrown=>exact hq.elim
end Go.Lg
end
section
namespace Go.Lg
open Go Go.RowKit
variable {ty:TypeId} {pos:String} {after:Array Edge} {after_:Array Edge} {g:Option (Nat×Bool)}
def CV.fix (k b:Nat):CV→CV
 | .ptr k' off=>cond (Nat.beq k' k) (.val (.pointer (some ⟨b,off,none⟩))) (.ptr k' off)
 | .fn fi gi k'=>cond (Nat.beq k' k) (.val (.func fi #[] (gi b).toArray)) (.fn fi gi k')
 | .hang g h k'=>cond (Nat.beq k' k) (.val (g b)) (.hang g h k')
 | c=>c
def SV.fix (k b:Nat):SV→SV
 | .one c=>.one (c.fix k b)
 | .agg l=>.agg (l.map (CV.fix k b))
def LV.fix (k b:Nat):LV→LV
 | .sv s=>.sv (s.fix k b)
 | .tup l=>.tup (l.map (SV.fix k b))
def Box.fix (k b:Nat) (x:Box):Box:=⟨x.elem,x.cells.map (CV.fix k b),x.row⟩
def CV.fixIn (k:Nat) (B:List (Nat×Option Box)):CV→Bool
 | .ptr k' _=>Nat.beq k' k||(look k' B).isSome
 | .fn _ _ k'=>Nat.beq k' k||(look k' B).isSome
 | .hang _ _ k'=>Nat.beq k' k||(look k' B).isSome
 | c=>c.inUse B
def SV.fixIn (k:Nat) (B:List (Nat×Option Box)):SV→Bool
 | .one c=>c.fixIn k B
 | .agg l=>l.all (CV.fixIn k B)
def LV.fixIn (k:Nat) (B:List (Nat×Option Box)):LV→Bool
 | .sv s=>s.fixIn k B
 | .tup l=>l.all (SV.fixIn k B)
def fixS (k b:Nat) (s:List (Nat×LV)):List (Nat×LV):=s.map fun p=>(p.1,p.2.fix k b)
def fixB (k b:Nat) (s:List (Nat×Option Box)):List (Nat×Option Box):=s.map fun p=>(p.1,p.2.map (Box.fix k b))
section
variable {S T:Nat→Option (Option Box)} {ι:Nat→Nat×Nat} {B:List (Nat×Option Box)} {k:Nat}
def Stay (B:List (Nat×Option Box)) (S T:Nat→Option (Option Box)):Prop := ∀ k',(look k' B).isSome=true→∃ x y,T k'=some x∧S k'=some y∧x.isSome=y.isSome
theorem CV.rel_stay (hT:Stay B S T) {c:CV} (hu:c.inUse B=true) {v:Value} (hr:c.rel S ι v):c.rel T ι v:=by
 cases c with
 | val u=>exact hr
 | junk=>trivial
 | ptr k' off =>
  obtain ⟨x,y,h1,h2,h3⟩:=hT k' hu
  simp only [CV.rel,h1,h2] at hr ⊢
  cases x<;>cases y<;>first|exact hr|cases h3
 | slc k' off n sz =>
  obtain ⟨x,y,h1,h2,h3⟩:=hT k' hu
  simp only [CV.rel,h1,h2] at hr ⊢
  cases x<;>cases y<;>first|exact hr|cases h3
 | mp k' =>
  obtain ⟨x,y,h1,h2,h3⟩:=hT k' hu
  simp only [CV.rel,h1,h2] at hr ⊢
  cases x<;>cases y<;>first|exact hr|cases h3
 | fn fi gi k' =>
  obtain ⟨x,y,h1,h2,h3⟩:=hT k' hu
  simp only [CV.rel,h1,h2] at hr ⊢
  cases x<;>cases y<;>first|exact hr|cases h3
 | hang g hg k' =>
  obtain ⟨x,y,h1,h2,h3⟩:=hT k' hu
  simp only [CV.rel,h1,h2] at hr ⊢
  cases x<;>cases y<;>first|exact hr|cases h3
theorem CV.rel_fix (hT:Stay B S T) (hk:∃ b,S k=some (some b)) {c:CV} (hu:c.fixIn k B=true) {v:Value} (hr:c.rel S ι v):(c.fix k (ι k).1).rel T ι v:=by
 obtain ⟨b,hb⟩:=hk
 cases c with
 | val u=>exact hr
 | junk=>trivial
 | ptr k' off =>
  simp only [CV.fixIn,Bool.or_eq_true] at hu
  cases e:Nat.beq k' k with
  | true =>
   have e':=Nat.eq_of_beq_eq_true e
   subst e'
   simp only [CV.fix,e,cond_true]
   simp only [CV.rel,hb] at hr
   exact hr
  | false =>
   simp only [CV.fix,e,cond_false]
   rw [e] at hu
   exact CV.rel_stay (c:=.ptr k' off) hT (hu.resolve_left (by decide)) hr
 | slc k' off n sz=>exact CV.rel_stay (c:=.slc k' off n sz) hT hu hr
 | mp k'=>exact CV.rel_stay (c:=.mp k') hT hu hr
 | fn fi gi k' =>
  simp only [CV.fixIn,Bool.or_eq_true] at hu
  cases e:Nat.beq k' k with
  | true =>
   have e':=Nat.eq_of_beq_eq_true e
   subst e'
   simp only [CV.fix,e,cond_true]
   simp only [CV.rel,hb] at hr
   exact hr
  | false =>
   simp only [CV.fix,e,cond_false]
   rw [e] at hu
   exact CV.rel_stay (c:=.fn fi gi k') hT (hu.resolve_left (by decide)) hr
 | hang g hg k' =>
  simp only [CV.fixIn,Bool.or_eq_true] at hu
  cases e:Nat.beq k' k with
  | true =>
   have e':=Nat.eq_of_beq_eq_true e
   subst e'
   simp only [CV.fix,e,cond_true]
   simp only [CV.rel,hb] at hr
   exact hr
  | false =>
   simp only [CV.fix,e,cond_false]
   rw [e] at hu
   exact CV.rel_stay (c:=.hang g hg k') hT (hu.resolve_left (by decide)) hr
theorem CVs.rel_stay (hT:Stay B S T):∀ {l:List CV} {vs:List Value},l.all (CV.inUse B)=true→CVs.rel S ι l vs→CVs.rel T ι l vs
 | [],[],_,_=>trivial
 | _::_,_::_,hu,hr=>by
  simp only [List.all_cons,Bool.and_eq_true] at hu
  exact ⟨CV.rel_stay hT hu.1 hr.1,CVs.rel_stay hT hu.2 hr.2⟩
 | [],_::_,_,hr=>hr.elim
 | _::_,[],_,hr=>hr.elim
theorem CVs.rel_fix (hT:Stay B S T) (hk:∃ b,S k=some (some b)):∀ {l:List CV} {vs:List Value},l.all (CV.fixIn k B)=true→CVs.rel S ι l vs→CVs.rel T ι (l.map (CV.fix k (ι k).1)) vs
 | [],[],_,_=>trivial
 | _::_,_::_,hu,hr=>by
  simp only [List.all_cons,Bool.and_eq_true] at hu
  exact ⟨CV.rel_fix hT hk hu.1 hr.1,CVs.rel_fix hT hk hu.2 hr.2⟩
 | [],_::_,_,hr=>hr.elim
 | _::_,[],_,hr=>hr.elim
theorem SV.rel_stay (hT:Stay B S T) {s:SV} (hu:s.inUse B=true) {v:Value} (hr:s.rel S ι v):s.rel T ι v:=by
 cases s with
 | one c=>exact CV.rel_stay hT hu hr
 | agg l=>obtain ⟨arr,e,hl⟩:=hr;exact ⟨arr,e,CVs.rel_stay hT hu hl⟩
theorem SV.rel_fix (hT:Stay B S T) (hk:∃ b,S k=some (some b)) {s:SV} (hu:s.fixIn k B=true) {v:Value} (hr:s.rel S ι v):(s.fix k (ι k).1).rel T ι v:=by
 cases s with
 | one c=>exact CV.rel_fix hT hk hu hr
 | agg l=>obtain ⟨arr,e,hl⟩:=hr;exact ⟨arr,e,CVs.rel_fix hT hk hu hl⟩
theorem SVs.rel_stay (hT:Stay B S T):∀ {l:List SV} {vs:List Value},l.all (SV.inUse B)=true→SVs.rel S ι l vs→SVs.rel T ι l vs
 | [],[],_,_=>trivial
 | _::_,_::_,hu,hr=>by
  simp only [List.all_cons,Bool.and_eq_true] at hu
  exact ⟨SV.rel_stay hT hu.1 hr.1,SVs.rel_stay hT hu.2 hr.2⟩
 | [],_::_,_,hr=>hr.elim
 | _::_,[],_,hr=>hr.elim
theorem SVs.rel_fix (hT:Stay B S T) (hk:∃ b,S k=some (some b)):∀ {l:List SV} {vs:List Value},l.all (SV.fixIn k B)=true→SVs.rel S ι l vs→SVs.rel T ι (l.map (SV.fix k (ι k).1)) vs
 | [],[],_,_=>trivial
 | _::_,_::_,hu,hr=>by
  simp only [List.all_cons,Bool.and_eq_true] at hu
  exact ⟨SV.rel_fix hT hk hu.1 hr.1,SVs.rel_fix hT hk hu.2 hr.2⟩
 | [],_::_,_,hr=>hr.elim
 | _::_,[],_,hr=>hr.elim
theorem LV.rel_stay (hT:Stay B S T) {s:LV} (hu:s.inUse B=true) {v:Value} (hr:s.rel S ι v):s.rel T ι v:=by
 cases s with
 | sv s=>exact SV.rel_stay hT hu hr
 | tup l=>obtain ⟨arr,e,hl⟩:=hr;exact ⟨arr,e,SVs.rel_stay hT hu hl⟩
theorem LV.rel_fix (hT:Stay B S T) (hk:∃ b,S k=some (some b)) {s:LV} (hu:s.fixIn k B=true) {v:Value} (hr:s.rel S ι v):(s.fix k (ι k).1).rel T ι v:=by
 cases s with
 | sv s=>exact SV.rel_fix hT hk hu hr
 | tup l=>obtain ⟨arr,e,hl⟩:=hr;exact ⟨arr,e,SVs.rel_fix hT hk hu hl⟩
theorem Box.rel_stay (hT:Stay B S T) {b:Box} (hu:b.cells.all (CV.inUse B)=true) {vs:List Value} (hr:b.rel S ι vs):b.rel T ι vs:=by
 unfold Box.rel at hr ⊢
 cases hb:b.row with
 | res R=>rw [hb] at hr;exact hr.elim
 | bool r =>
  cases r with
  | false=>rw [hb] at hr;exact CVs.rel_stay hT hu hr
  | true=>rw [hb] at hr;obtain ⟨us,sp,e,hl⟩:=hr;exact ⟨us,sp,e,CVs.rel_stay hT hu hl⟩
theorem Box.rel_fix (hT:Stay B S T) (hk:∃ b,S k=some (some b)) {b:Box} (hu:b.cells.all (CV.fixIn k B)=true) {vs:List Value} (hr:b.rel S ι vs):(b.fix k (ι k).1).rel T ι vs:=by
 obtain ⟨e,cs,r⟩:=b
 unfold Box.rel at hr ⊢
 simp only [Box.fix] at hu hr ⊢
 cases r with
 | res R=>exact hr.elim
 | bool r =>
  cases r with
  | false=>exact CVs.rel_fix hT hk hu hr
  | true=>obtain ⟨us,sp,e,hl⟩:=hr;exact ⟨us,sp,e,CVs.rel_fix hT hk hu hl⟩
end
theorem look_fixS (k b d:Nat) (s:List (Nat×LV)):look d (fixS k b s)=(look d s).map (LV.fix k b):=by
 induction s with
 | nil=>rfl
 | cons p s ih =>
  obtain ⟨d',lv⟩:=p
  show cond (Nat.beq d' d) _ (look d (fixS k b s))=(cond (Nat.beq d' d) _ (look d s)).map _
  cases Nat.beq d' d with
  | true=>rfl
  | false=>exact ih
theorem look_fixB (k b d:Nat) (s:List (Nat×Option Box)):look d (fixB k b s)=(look d s).map (fun x=>x.map (Box.fix k b)):=by
 induction s with
 | nil=>rfl
 | cons p s ih =>
  obtain ⟨d',lv⟩:=p
  show cond (Nat.beq d' d) _ (look d (fixB k b s))=(cond (Nat.beq d' d) _ (look d s)).map _
  cases Nat.beq d' d with
  | true=>rfl
  | false=>exact ih
section
variable {P:Program} {n:Nat} {C:Ctx} {c:Code} {Q:Exit→St→Prop} {X:Nat→Option Obj}
theorem Rel.fixN {ι:Nat→Nat×Nat} {a:Act} {w:World} {s0 s:List (Nat×LV)} {b0 bx:List (Nat×Option Box)} {k:Nat} {b:Box} {H:Nat→Option Obj} {F:Nat→Nat→Option Obj}
  (hk:look k (b0++bx)=none) (hs:s.all (fun p=>p.2.inUse (b0++bx))=true) (hb:bx.all (fun p=>match p.2 with|some b=>b.cells.all (CV.inUse (b0++bx))|none=>true)=true)
  (hs0:s0.all (fun p=>p.2.fixIn k (b0++bx))=true) (hb0:b0.all (fun p=>match p.2 with|some b=>b.cells.all (CV.fixIn k (b0++bx))|none=>true)=true)
  (hr:Rel n C ι ⟨s0++s,b0++(k,some b)::bx,X⟩ a w)
  (hH:∀ i o,H i=some o→w.heap[i]? = some o∧X i=none∧∀ j bj,(⟨s0++s,b0++(k,some b)::bx,X⟩:St).stat j=some (some bj)→(ι j).1=i→j=k)
  (hF:ResAt (fun b=>C.own b∨C.w0.heap.size≤b) ι F (⟨s0++s,b0++(k,some b)::bx,X⟩:St).stat X w) (hFH:∀ j,j≠k→∀ i,F j i≠none→H i=none):
  Rel n C ι ⟨fixS k (ι k).1 s0++s,fixB k (ι k).1 b0++bx,joinM X H⟩ a w:=by
 have hk1:look k b0=none∧look k bx=none:=by
  rw [look_append] at hk
  cases h:look k b0 with
  | none=>rw [h] at hk;exact ⟨rfl,hk⟩
  | some x=>rw [h] at hk;cases hk
 have hstat:∀ j,(⟨s0++s,b0++(k,some b)::bx,X⟩:St).stat j=(look j b0).or (if j=k then some (some b) else look j bx):=fun j=>by
  show look j (b0++(k,some b)::bx)=_
  rw [look_append]
  have:=stat_cons [] bx X k j (some b)
  simp only [St.stat] at this
  rw [this]
 have hnew:∀ j,(⟨fixS k (ι k).1 s0++s,fixB k (ι k).1 b0++bx,joinM X H⟩:St).stat j=((look j b0).map (fun x=>x.map (Box.fix k (ι k).1))).or (look j bx):=fun j=>by
  show look j (fixB k (ι k).1 b0++bx)=_
  rw [look_append,look_fixB]
 have hst:(⟨s0++s,b0++(k,some b)::bx,X⟩:St).stat k=some (some b):=by rw [hstat,hk1.1,if_pos rfl];rfl
 have live:∀ j x,(⟨fixS k (ι k).1 s0++s,fixB k (ι k).1 b0++bx,joinM X H⟩:St).stat j=some x→j≠k∧((∃ y,look j b0=some y∧x=y.map (Box.fix k (ι k).1)∧(⟨s0++s,b0++(k,some b)::bx,X⟩:St).stat j=some y)∨(look j b0=none∧look j bx=some x∧(⟨s0++s,b0++(k,some b)::bx,X⟩:St).stat j=some x)):=fun j x hj=>by
  rw [hnew] at hj
  cases h0:look j b0 with
  | some y =>
   rw [h0] at hj
   have hj:some (y.map (Box.fix k (ι k).1))=some x:=hj
   cases hj
   exact ⟨fun e=>(by rw [e,hk1.1] at h0;cases h0),.inl ⟨y,rfl,rfl,by rw [hstat,h0];rfl⟩⟩
  | none =>
   rw [h0] at hj
   have hj:look j bx=some x:=hj
   have hne:j≠k:=fun e=>by rw [e,hk1.2] at hj;cases hj
   exact ⟨hne,.inr ⟨rfl,hj,by rw [hstat,h0,if_neg hne];exact hj⟩⟩
 have hT:Stay (b0++bx) (⟨s0++s,b0++(k,some b)::bx,X⟩:St).stat (⟨fixS k (ι k).1 s0++s,fixB k (ι k).1 b0++bx,joinM X H⟩:St).stat:=fun j hj=>by
  rw [look_append] at hj
  rw [hnew,hstat]
  cases h0:look j b0 with
  | some y =>
   refine ⟨y.map (Box.fix k (ι k).1),y,rfl,rfl,?_⟩
   cases y<;>rfl
  | none =>
   rw [h0] at hj
   have hj:(look j bx).isSome=true:=hj
   obtain ⟨x,hx⟩:=Option.isSome_iff_exists.1 hj
   have hne:j≠k:=fun e=>by rw [e,hk1.2] at hx;cases hx
   rw [if_neg hne,hx]
   exact ⟨x,x,rfl,rfl,rfl⟩
 have live2:∀ j bj,(⟨fixS k (ι k).1 s0++s,fixB k (ι k).1 b0++bx,joinM X H⟩:St).stat j=some (some bj)→j≠k∧∃ bj0,(⟨s0++s,b0++(k,some b)::bx,X⟩:St).stat j=some (some bj0)∧bj.row=bj0.row:=fun j bj hj=>by
  obtain ⟨hne,h⟩:=live j _ hj
  rcases h with ⟨y,_,h2,h3⟩|⟨_,_,h3⟩
  ·cases y with
   | none=>cases h2
   | some y =>
    have h2:some bj=some (y.fix k (ι k).1):=h2
    cases h2
    exact ⟨hne,y,h3,rfl⟩
  ·exact ⟨hne,bj,h3,rfl⟩
 have hHk:∀ j bj,(⟨fixS k (ι k).1 s0++s,fixB k (ι k).1 b0++bx,joinM X H⟩:St).stat j=some (some bj)→H (ι j).1=none:=fun j bj hj=>by
  obtain ⟨hne,bj0,h1,_⟩:=live2 j bj hj
  cases hc:H (ι j).1 with
  | none=>rfl
  | some o=>exact absurd ((hH _ o hc).2.2 j bj0 h1 rfl) hne
 exact {
  defers:=hr.defers,size:=hr.size
  slots:=fun d lv hd=>by
   have hd:look d (fixS k (ι k).1 s0++s)=some lv:=hd
   rw [look_append,look_fixS] at hd
   cases h0:look d s0 with
   | some lv0 =>
    rw [h0] at hd
    have hd:some (lv0.fix k (ι k).1)=some lv:=hd
    cases hd
    obtain ⟨v,hv,hvr⟩:=hr.slots d lv0 (by show look d (s0++s)=_;rw [look_append,h0];rfl)
    exact ⟨v,hv,LV.rel_fix hT ⟨b,hst⟩ (List.all_eq_true.1 hs0 _ (look_mem h0)) hvr⟩
   | none =>
    rw [h0] at hd
    have hd:look d s=some lv:=hd
    obtain ⟨v,hv,hvr⟩:=hr.slots d lv (by show look d (s0++s)=_;rw [look_append,h0];exact hd)
    exact ⟨v,hv,LV.rel_stay hT (List.all_eq_true.1 hs _ (look_mem hd)) hvr⟩
  boxes:=fun j bj hj hbk=>by
   obtain ⟨hne,h⟩:=live j _ hj
   rcases h with ⟨y,h1,h2,h3⟩|⟨h1,h2,h3⟩
   ·cases y with
    | none=>cases h2
    | some y =>
     have h2:some bj=some (y.fix k (ι k).1):=h2
     cases h2
     obtain ⟨arr,fr,g1,g2,g3,g4⟩:=hr.boxes j y h3 hbk
     exact ⟨arr,fr,g1,g2,g3,Box.rel_fix hT ⟨b,hst⟩ (by simpa using List.all_eq_true.1 hb0 _ (look_mem h1)) g4⟩
   ·obtain ⟨arr,fr,g1,g2,g3,g4⟩:=hr.boxes j bj h3 hbk
    exact ⟨arr,fr,g1,g2,g3,Box.rel_stay hT (by simpa using List.all_eq_true.1 hb _ (look_mem h2)) g4⟩
  own:=fun j bj hj=>by
   obtain ⟨hne,bj0,h1,_⟩:=live2 j bj hj
   obtain ⟨h2,h3⟩:=hr.own j bj0 h1
   exact ⟨h2,(joinM_out (hHk j bj hj)).trans h3⟩
  inj:=fun i j bi bj hi hj he=>by
   obtain ⟨_,bi0,h1,_⟩:=live2 i bi hi
   obtain ⟨_,bj0,h2,_⟩:=live2 j bj hj
   exact hr.inj i j bi0 bj0 h1 h2 he
  keep:=fun j bj hj hge=>by
   obtain ⟨_,bj0,h1,_⟩:=live2 j bj hj
   exact hr.keep j bj0 h1 hge
  ext:=fun i o hi=>by
   have hi:joinM X H i=some o:=hi
   cases hc:H i with
   | none=>rw [joinM_out hc] at hi;exact hr.ext i o hi
   | some o' =>
    rw [joinM_in hc] at hi
    cases hi
    exact (hH i o hc).1
  res:=by
   refine ⟨fun j=>open Classical in if j=k then fun _=>none else F j,fun j e' cs' R' hj => ?_,fun j i o ho => ?_,fun i j i' h1 h2 => ?_⟩
   ·obtain ⟨hne,h⟩:=live j _ hj
    rw [if_neg hne]
    rcases h with ⟨y,h1,h2,h3⟩|⟨h1,h2,h3⟩
    ·cases y with
     | none=>cases h2
     | some y =>
      obtain ⟨ye,yc,yr⟩:=y
      have h2:some (⟨e',cs',.res R'⟩:Box)=some (Box.fix k (ι k).1 ⟨ye,yc,yr⟩):=h2
      simp only [Box.fix,Option.some.injEq,Box.mk.injEq] at h2
      obtain ⟨_,_,e3⟩:=h2
      subst e3
      exact hF.holds j _ _ R' h3
    ·exact hF.holds j _ _ R' h3
   ·by_cases ej:j=k
    ·rw [if_pos ej] at ho;cases ho
    ·rw [if_neg ej] at ho
     obtain ⟨⟨e1,cs1,R1,h1⟩,h2,h3,h4,h5,h6⟩:=hF.mem j i o ho
     refine ⟨?_,h2,h3,h4,(joinM_out (hFH j ej i (by rw [ho];simp))).trans h5,fun i2 bi hi ei => ?_⟩
     ·rw [hstat,if_neg ej] at h1
      unfold isRes
      rw [hnew]
      cases h0:look j b0 with
      | some y =>
       rw [h0] at h1
       have h1:some y=some (some ⟨e1,cs1,.res R1⟩):=h1
       cases h1
       exact ⟨_,_,_,rfl⟩
      | none =>
       rw [h0] at h1
       have h1:look j bx=some (some ⟨e1,cs1,.res R1⟩):=h1
       exact ⟨_,_,_,h1⟩
     ·obtain ⟨_,bi0,h7,_⟩:=live2 i2 bi hi
      exact h6 i2 bi0 h7 ei
   ·by_cases ei:i=k
    ·rw [if_pos ei] at h1;exact absurd rfl h1
    ·by_cases ej:j=k
     ·rw [if_pos ej] at h2;exact absurd rfl h2
     ·rw [if_neg ei] at h1
      rw [if_neg ej] at h2
      exact hF.apart i j i' h1 h2
  frame:=hr.frame,big:=hr.big,os:=hr.os,tape:=hr.tape,output:=hr.output }
def oneM (blk:Nat) (o:Obj):Nat→Option Obj:=fun i=>if i=blk then some o else none
theorem joinM_one (X:Nat→Option Obj) (blk:Nat) (o:Obj):joinM X (oneM blk o)=withBlock X blk o:=by
 funext i
 unfold joinM oneM withBlock
 by_cases e:i=blk<;>simp [e]
theorem Rel.fixBox {ι:Nat→Nat×Nat} {a:Act} {w:World} {s0 s:List (Nat×LV)} {b0 bx:List (Nat×Option Box)} {k:Nat} {el:TypeId} {vals:List Value} {row:Bool}
  (hk:look k (b0++bx)=none) (hs:s.all (fun p=>p.2.inUse (b0++bx))=true) (hb:bx.all (fun p=>match p.2 with|some b=>b.cells.all (CV.inUse (b0++bx))|none=>true)=true)
  (hs0:s0.all (fun p=>p.2.fixIn k (b0++bx))=true) (hb0:b0.all (fun p=>match p.2 with|some b=>b.cells.all (CV.fixIn k (b0++bx))|none=>true)=true)
  (hr:Rel n C ι ⟨s0++s,b0++(k,some ⟨el,vals.map .val,row⟩)::bx,X⟩ a w):
  ∃ (blk:Nat) (arr:Array Value) (fr:Nat×Nat),X blk=none∧Frozen C blk arr fr∧(∃ sp,arr.toList=vals++sp) ∧
   Rel n C ι ⟨fixS k blk s0++s,fixB k blk b0++bx,withBlock X blk (.cells arr el fr)⟩ a w:=by
 have hst:(⟨s0++s,b0++(k,some ⟨el,vals.map .val,row⟩)::bx,X⟩:St).stat k=some (some ⟨el,vals.map .val,row⟩):=by
  show look k (b0++(k,some ⟨el,vals.map .val,row⟩)::bx)=_
  rw [look_append] at hk ⊢
  cases h:look k b0 with
  | none=>simp [look]
  | some x=>rw [h] at hk;cases hk
 obtain ⟨arr,fr,harr,hth,hsz,hbr⟩:=hr.boxes k _ hst rfl
 obtain ⟨F,hF⟩:=hr.res
 obtain ⟨hown,hX⟩:=hr.own k _ hst
 have hsp:∃ sp,arr.toList=vals++sp:=by
  unfold Box.rel at hbr
  cases row with
  | false=>exact ⟨[],by rw [List.append_nil];exact rel_vals hbr⟩
  | true =>
   obtain ⟨us,sp,e,hl⟩:=hbr
   exact ⟨sp,by rw [e,rel_vals hl]⟩
 refine ⟨(ι k).1,arr,fr,hX,⟨hown,hth⟩,hsp,?_⟩
 rw [← joinM_one]
 refine hr.fixN hk hs hb hs0 hb0 (fun i o hi => ?_) hF (fun j hj i hi => ?_)
 ·unfold oneM at hi
  split at hi
  ·rename_i e
   subst e
   cases hi
   exact ⟨harr,hX,fun j bj hj he=>hr.inj j k bj _ hj hst he⟩
  ·cases hi
 ·unfold oneM
  split
  ·rename_i e
   subst e
   cases hc:F j (ι k).1 with
   | none=>exact absurd hc hi
   | some o =>
    obtain ⟨_,_,_,_,_,h6⟩:=hF.mem j _ o hc
    exact absurd (h6 k _ hst rfl).symm hj
  ·rfl
theorem Rel.fixRsc {ι:Nat→Nat×Nat} {a:Act} {w:World} {s0 s:List (Nat×LV)} {b0 bx:List (Nat×Option Box)} {k:Nat} {e:TypeId} {cs:List CV} {R:Rsc}
  (hk:look k (b0++bx)=none) (hs:s.all (fun p=>p.2.inUse (b0++bx))=true) (hb:bx.all (fun p=>match p.2 with|some b=>b.cells.all (CV.inUse (b0++bx))|none=>true)=true)
  (hs0:s0.all (fun p=>p.2.fixIn k (b0++bx))=true) (hb0:b0.all (fun p=>match p.2 with|some b=>b.cells.all (CV.fixIn k (b0++bx))|none=>true)=true)
  (hr:Rel n C ι ⟨s0++s,b0++(k,some ⟨e,cs,.res R⟩)::bx,X⟩ a w):
  ∃ (ρ:Nat×Nat) (H:Nat→Option Obj),R.holds ρ H∧OwnedM C X H ∧
   Rel n C ι ⟨fixS k ρ.1 s0++s,fixB k ρ.1 b0++bx,joinM X H⟩ a w:=by
 have hst:(⟨s0++s,b0++(k,some ⟨e,cs,.res R⟩)::bx,X⟩:St).stat k=some (some ⟨e,cs,.res R⟩):=by
  show look k (b0++(k,some ⟨e,cs,.res R⟩)::bx)=_
  rw [look_append] at hk ⊢
  cases h:look k b0 with
  | none=>simp [look]
  | some x=>rw [h] at hk;cases hk
 obtain ⟨F,hF⟩:=hr.res
 refine ⟨ι k,F k,(hF.holds k _ _ _ hst).1,⟨fun b o hb=>let h:=hF.mem k b o hb;⟨h.2.2.2.1,h.2.2.1,h.2.2.2.2.1⟩⟩,?_⟩
 refine hr.fixN hk hs hb hs0 hb0 (fun i o hi => ?_) hF (fun j hj i hi => ?_)
 ·obtain ⟨_,h2,_,_,h5,h6⟩:=hF.mem k i o hi
  exact ⟨h2,h5,fun j bj hj he=>h6 j bj hj he⟩
 ·cases hc:F k i with
  | none=>rfl
  | some o=>exact absurd (hF.apart j k i hi (by rw [hc];simp)) hj
theorem Leads.fixBox {Mid:St→Prop} (s0:List (Nat×LV)) (b0:List (Nat×Option Box)) {s:List (Nat×LV)} {bx:List (Nat×Option Box)} {k:Nat} {el:TypeId} {vals:List Value} {row:Bool}
  (hk:look k (b0++bx)=none) (hs:s.all (fun p=>p.2.inUse (b0++bx))=true) (hb:bx.all (fun p=>match p.2 with|some b=>b.cells.all (CV.inUse (b0++bx))|none=>true)=true)
  (hs0:s0.all (fun p=>p.2.fixIn k (b0++bx))=true) (hb0:b0.all (fun p=>match p.2 with|some b=>b.cells.all (CV.fixIn k (b0++bx))|none=>true)=true)
  (h:∀ (blk:Nat) (arr:Array Value) (fr:Nat×Nat),X blk=none→Frozen C blk arr fr→(∃ sp,arr.toList=vals++sp) →
   Leads n C Mid ⟨fixS k blk s0++s,fixB k blk b0++bx,withBlock X blk (.cells arr el fr)⟩):
  Leads n C Mid ⟨s0++s,b0++(k,some ⟨el,vals.map .val,row⟩)::bx,X⟩:=by
 refine ⟨fun ι a w hr => ?_⟩
 obtain ⟨blk,arr,fr,h1,h2,h5,h6⟩:=hr.fixBox hk hs hb hs0 hb0
 exact (h blk arr fr h1 h2 h5).out ι a w h6
theorem Leads.fixRsc {Mid:St→Prop} (s0:List (Nat×LV)) (b0:List (Nat×Option Box)) {s:List (Nat×LV)} {bx:List (Nat×Option Box)} {k:Nat} {e:TypeId} {cs:List CV} {R:Rsc}
  (hk:look k (b0++bx)=none) (hs:s.all (fun p=>p.2.inUse (b0++bx))=true) (hb:bx.all (fun p=>match p.2 with|some b=>b.cells.all (CV.inUse (b0++bx))|none=>true)=true)
  (hs0:s0.all (fun p=>p.2.fixIn k (b0++bx))=true) (hb0:b0.all (fun p=>match p.2 with|some b=>b.cells.all (CV.fixIn k (b0++bx))|none=>true)=true)
  (h:∀ (ρ:Nat×Nat) (H:Nat→Option Obj),R.holds ρ H→OwnedM C X H→Leads n C Mid ⟨fixS k ρ.1 s0++s,fixB k ρ.1 b0++bx,joinM X H⟩):
  Leads n C Mid ⟨s0++s,b0++(k,some ⟨e,cs,.res R⟩)::bx,X⟩:=by
 refine ⟨fun ι a w hr => ?_⟩
 obtain ⟨ρ,H,h1,h2,h3⟩:=hr.fixRsc hk hs hb hs0 hb0
 exact (h ρ H h1 h2).out ι a w h3
end
section
variable {P:Program} {n:Nat} {ops os:List Oper} {acc:List Eff} {K:List Eff→St→Prop} {s:List (Nat×LV)} {bx:List (Nat×Option Box)} {X:Nat→Option Obj} {σ:St}
theorem LOK.makeFuncP {d k off:Nat} {fn:Fn} {x:Operand} {b:Box} (hx:σ.ev x=some (.sv (.one (.ptr k off)))) (hk:σ.stat k=some (some b)):
  LOK P n ops ⟨some d,.makeFunc fn #[] #[x],ty,pos,after_,g⟩ σ ⟨[(d,.sv (.one (.fn fn (fun i=>[.pointer (some ⟨i,off,none⟩)]) k)))],[k],[]⟩:=
 LOK.value fun σ' ha C ι a w hr=>by
  have hk':=(ha.stat k (.inl (by simp))).trans hk
  have hv:=hr.ev ((ha.ev (x:=x) (by simp [Op.operands])).trans hx)
  simp only [LV.rel,SV.rel,CV.rel,hk'] at hv
  refine ⟨.func fn #[] #[.pointer (some ⟨(ι k).1,off,none⟩)],by simp [execOp,Instr.makeFunc,hv],?_⟩
  simp only [LV.rel,SV.rel,CV.rel,hk']
theorem K.makeFuncP {d k off:Nat} {fn:Fn} {x:Operand} {b:Box} (hx:(⟨s,bx,X⟩:St).ev x=some (.sv (.one (.ptr k off)))) (hk:(⟨s,bx,X⟩:St).stat k=some (some b)) (hw:Want ops s g)
  (kont:RunK P n ops os ⟨(d,.sv (.one (.fn fn (fun i=>[.pointer (some ⟨i,off,none⟩)]) k)))::s,bx,X⟩ (⟨[(d,.sv (.one (.fn fn (fun i=>[.pointer (some ⟨i,off,none⟩)]) k)))],[k],[]⟩::acc) K):
  RunK P n ops (⟨some d,.makeFunc fn #[] #[x],ty,pos,after_,g⟩::os) ⟨s,bx,X⟩ acc K:=RunK.g1 (LOK.makeFuncP hx hk) hw kont
end
section
variable {P:Program} {n:Nat} {ops os:List Oper} {acc:List Eff} {K:List Eff→St→Prop} {s:List (Nat×LV)} {bx:List (Nat×Option Box)} {X:Nat→Option Obj} {σ:St}
def isFunc (P:Program) (t:TypeId):Bool:=match P.underlying t with|some (.func _ _ _)=>true|_=>false
theorem isFunc_spec {t:TypeId} (h:isFunc P t=true):∃ a b c,P.underlying t=some (.func a b c):=by
 unfold isFunc at h
 split at h
 ·rename_i a b c e;exact ⟨a,b,c,e⟩
 ·cases h
theorem run_equal_func (w:World) (t:TypeId) (f:Fn) (ns:Array Value) (cs:Array Value) (h:isFunc P t=true):(Op.equal t (.func f ns cs) .nilFunc).run P w = .ok false w:=by
 obtain ⟨a,b,c,hu⟩:=isFunc_spec h
 have key:∀ d,(Op.equalIn (d+1) t (.func f ns cs) .nilFunc).run P w = .ok false w:=fun d=>by simp [Op.equalIn,run_underlying hu]
 exact key 9999
theorem run_equal_nilFunc (w:World) (t:TypeId) (h:isFunc P t=true):(Op.equal t .nilFunc .nilFunc).run P w = .ok true w:=by
 obtain ⟨a,b,c,hu⟩:=isFunc_spec h
 have key:∀ d,(Op.equalIn (d+1) t .nilFunc .nilFunc).run P w = .ok true w:=fun d=>by simp [Op.equalIn,run_underlying hu]
 exact key 9999
theorem LOK.funcNil {d:Nat} {t t':TypeId} {x:Operand} {r:Bool} {v:Value} (hx:σ.ev x=some (.sv (.one (.val v)))) (ht:isFunc P t=true)
  (hv:(v = .nilFunc∧r=true)∨((∃ f ns cs,v = .func f ns cs)∧r=false)):
  LOK P n ops ⟨some d,.binOp .eql t x (.const .nilFunc) t',ty,pos,after_,g⟩ σ ⟨[(d,.sv (.one (.val (.bool r))))],[],[]⟩:=
 LOK.value fun σ' ha C ι a w hr=>by
  have hv':a.eval x=v:=hr.ev ((ha.ev (x:=x) (by simp [Op.operands])).trans hx)
  have hc:a.eval (.const .nilFunc) = .nilFunc:=rfl
  rcases hv with ⟨rfl,rfl⟩|⟨⟨f,ns,cs,rfl⟩,rfl⟩
  ·exact ⟨_,by simp only [execOp,hv',hc,eqGuard,Sem.run_bind];simp [binOp,run_equal_nilFunc w t ht],rfl⟩
  ·exact ⟨_,by simp only [execOp,hv',hc,eqGuard,Sem.run_bind];simp [binOp,run_equal_func w t f ns cs ht],rfl⟩
theorem K.funcNil {d:Nat} {t t':TypeId} {x:Operand} {r:Bool} {v:Value} (hx:(⟨s,bx,X⟩:St).ev x=some (.sv (.one (.val v)))) (ht:isFunc P t=true)
  (hv:(v = .nilFunc∧r=true)∨((∃ f ns cs,v = .func f ns cs)∧r=false)) (hw:Want ops s g)
  (kont:RunK P n ops os ⟨(d,.sv (.one (.val (.bool r))))::s,bx,X⟩ (⟨[(d,.sv (.one (.val (.bool r))))],[],[]⟩::acc) K):
  RunK P n ops (⟨some d,.binOp .eql t x (.const .nilFunc) t',ty,pos,after_,g⟩::os) ⟨s,bx,X⟩ acc K:=RunK.g1 (LOK.funcNil hx ht hv) hw kont
end
end Go.Lg
end
section
namespace Go.Lg
open Go Go.RowKit
section
variable {P:Program} {n:Nat} {C:Ctx} {c:Code} {Q:Exit→St→Prop} {X:Nat→Option Obj}
theorem rel_unslc {S:Nat→Option (Option Box)} {ι:Nat→Nat×Nat} {A B:List CV} {k off len sz:Nat} {x:Box} (hsk:S k=some (some x)) {vs:List Value} (h:CVs.rel S ι (A ++ .slc k off len sz::B) vs):∃ cap:Nat,len≤cap∧off+cap*sz≤(ι k).2∧CVs.rel S ι (A ++ .val (.slice (some ⟨(ι k).1,off,none⟩) len cap)::B) vs:=by
 obtain ⟨va,v,vb,rfl,h1,h2,h3⟩:=rel_mid h
 simp only [CV.rel] at h2
 rw [hsk] at h2
 obtain ⟨cap,rfl,hc,hf⟩:=h2
 exact ⟨cap,hc,hf,CVs.rel_append h1 ⟨rfl,h3⟩⟩
theorem Rel.unslc {ι:Nat→Nat×Nat} {a:Act} {w:World} {s:List (Nat×LV)} {bx:List (Nat×Option Box)} {j k off len sz:Nat} {e:TypeId} {A B:List CV} {row:Bool} {x:Box}
  (hj:Nat.beq j k=false) (hkx:look k bx=some (some x))
  (hr:Rel n C ι ⟨s,(j,some ⟨e,A ++ .slc k off len sz::B,row⟩)::bx,X⟩ a w):
  ∃ cap:Nat,len≤cap∧off+cap*sz≤(ι k).2∧Rel n C ι ⟨s,(j,some ⟨e,A ++ .val (.slice (some ⟨(ι k).1,off,none⟩) len cap)::B,row⟩)::bx,X⟩ a w:=by
 have hkj:k≠j:=fun h=>by rw [h,Nat.beq_refl] at hj;cases hj
 obtain ⟨arr,fr,g1,g2,g3,g4⟩:=hr.boxes j ⟨e,A ++ .slc k off len sz::B,row⟩ (by rw [stat_hd,if_pos rfl]) rfl
 have hsk:(⟨s,(j,some ⟨e,A ++ .slc k off len sz::B,row⟩)::bx,X⟩:St).stat k=some (some x):=by rw [stat_hd,if_neg hkj];exact hkx
 have key:∃ cap:Nat,len≤cap∧off+cap*sz≤(ι k).2∧Box.rel (⟨s,(j,some ⟨e,A ++ .slc k off len sz::B,row⟩)::bx,X⟩:St).stat ι ⟨e,A ++ .val (.slice (some ⟨(ι k).1,off,none⟩) len cap)::B,row⟩ arr.toList:=by
  unfold Box.rel at g4 ⊢
  cases row with
  | false=>exact rel_unslc hsk g4
  | true =>
   obtain ⟨us,sp,e1,h1⟩:=g4
   obtain ⟨cap,hc,hf,h2⟩:=rel_unslc hsk h1
   exact ⟨cap,hc,hf,us,sp,e1,h2⟩
 obtain ⟨cap,hc,hf,g5⟩:=key
 refine ⟨cap,hc,hf,?_⟩
 generalize hcs:A ++ .slc k off len sz::B=cs at *
 generalize hcs':A ++ .val (.slice (some ⟨(ι k).1,off,none⟩) len cap)::B=cs' at *
 have hlater:=later_hd (s:=s) (bx:=bx) (k:=j) ι ⟨e,cs,row⟩ ⟨e,cs',row⟩ X X
 have live:∀ i b,(⟨s,(j,some ⟨e,cs',row⟩)::bx,X⟩:St).stat i=some (some b)→∃ b0,(⟨s,(j,some ⟨e,cs,row⟩)::bx,X⟩:St).stat i=some (some b0)∧(i≠j→b=b0):=fun i b hi=>by
  rw [stat_hd] at hi ⊢
  by_cases e:i=j
  ·rw [if_pos e];exact ⟨_,rfl,fun h=>absurd e h⟩
  ·rw [if_neg e] at hi ⊢;exact ⟨b,hi,fun _=>rfl⟩
 exact {
  defers:=hr.defers,size:=hr.size
  slots:=fun d lv hd=>by
   obtain ⟨v,hv,hvr⟩:=hr.slots d lv hd
   exact ⟨v,hv,LV.rel_later hlater hvr⟩
  boxes:=fun i b hi hbk=>by
   by_cases ei:i=j
   ·subst ei
    rw [stat_hd,if_pos rfl] at hi
    simp only [Option.some.injEq] at hi
    subst hi
    exact ⟨arr,fr,g1,g2,g3,Box.rel_later hlater g5⟩
   ·obtain ⟨b0,h0,h1⟩:=live i b hi
    have:=h1 ei
    subst this
    obtain ⟨arr,fr,g1,g2,g3,g4⟩:=hr.boxes i b h0 hbk
    exact ⟨arr,fr,g1,g2,g3,Box.rel_later hlater g4⟩
  own:=fun i b hi=>by obtain ⟨b0,h0,_⟩:=live i b hi;exact hr.own i b0 h0
  inj:=fun i i' bi bj hi hj he=>by
   obtain ⟨b1,h1,_⟩:=live i bi hi
   obtain ⟨b2,h2,_⟩:=live i' bj hj
   exact hr.inj i i' b1 b2 h1 h2 he
  keep:=fun i b hi hge=>by obtain ⟨b0,h0,_⟩:=live i b hi;exact hr.keep i b0 h0 hge
  ext:=hr.ext
  res:=by
   obtain ⟨F,hG⟩:=hr.res
   refine hG.keep (fun i e cs R hi => ?_) (fun _ _ _ _ _ hi=>hi) (fun _ _ ho=>ho) (fun b _ hx _ _=>hx) (fun i bi hi => ?_)
   ·rw [stat_hd] at hi ⊢
    by_cases e:i=j
    ·rw [if_pos e] at hi;cases hi
    ·rw [if_neg e] at hi ⊢;exact ⟨hi,rfl⟩
   ·obtain ⟨b0,h0,_⟩:=live i bi hi
    exact .inl ⟨b0,h0,rfl⟩
  frame:=hr.frame,big:=hr.big,os:=hr.os,tape:=hr.tape,output:=hr.output }
theorem Rel.fixAlone {ι:Nat→Nat×Nat} {a:Act} {w:World} {s:List (Nat×LV)} {bx:List (Nat×Option Box)} {k:Nat} {e:TypeId} {cs:List CV} {R:Rsc}
  (hs:s.all (fun p=>p.2.inUse bx)=true) (hb:bx.all (fun p=>match p.2 with|some b=>b.cells.all (CV.inUse bx)|none=>true)=true) (hk:look k bx=none)
  (hr:Rel n C ι ⟨s,(k,some ⟨e,cs,.res R⟩)::bx,X⟩ a w):
  ∃ (H:Nat→Option Obj),R.holds (ι k) H∧OwnedM C X H∧Rel n C ι ⟨s,bx,joinM X H⟩ a w:=by
 have hst:(⟨s,(k,some ⟨e,cs,.res R⟩)::bx,X⟩:St).stat k=some (some ⟨e,cs,.res R⟩):=by simp [St.stat,look]
 have hlk:∀ k' x,look k' bx=some x→k'≠k:=fun k' x h' e=>by rw [e,hk] at h';cases h'
 have hstb:∀ k' x,look k' bx=some x→(⟨s,(k,some ⟨e,cs,.res R⟩)::bx,X⟩:St).stat k'=some x:=fun k' x h'=>by
  simp only [St.stat,look]
  cases e:Nat.beq k k' with
  | true=>exact absurd (Nat.eq_of_beq_eq_true e).symm (hlk k' x h')
  | false=>exact h'
 have hback:∀ j x,j≠k→(⟨s,(k,some ⟨e,cs,.res R⟩)::bx,X⟩:St).stat j=some x→look j bx=some x:=fun j x hj h'=>by
  simp only [St.stat,look] at h'
  cases e:Nat.beq k j with
  | true=>exact absurd (Nat.eq_of_beq_eq_true e).symm hj
  | false=>rw [e] at h';exact h'
 obtain ⟨F,hF⟩:=hr.res
 obtain ⟨hR,_⟩:=hF.holds k _ _ _ hst
 refine ⟨F k,hR,⟨fun b o hb=>let h:=hF.mem k b o hb;⟨h.2.2.2.1,h.2.2.1,h.2.2.2.2.1⟩⟩,?_⟩
 have hon:SameOn bx (⟨s,(k,some ⟨e,cs,.res R⟩)::bx,X⟩:St).stat (fun k=>look k bx):=fun k' x h'=>(hstb k' x h').trans h'.symm
 have hnot:∀ j b,look j bx=some (some b)→F k (ι j).1=none:=fun j b hj=>by
  cases hc:F k (ι j).1 with
  | none=>rfl
  | some o=>exact absurd ((hF.mem k _ o hc).2.2.2.2.2 j b (hstb j _ hj) rfl) (hlk j _ hj)
 exact {
  defers:=hr.defers,size:=hr.size
  slots:=fun d' lv hd=>by
   obtain ⟨v',hv',hr'⟩:=hr.slots d' lv hd
   exact ⟨v',hv',LV.rel_on hon (List.all_eq_true.1 hs _ (look_mem hd)) hr'⟩
  boxes:=fun k' b hb' hbk=>by
   have hb':look k' bx=some (some b):=hb'
   obtain ⟨arr',fr',h1,h2,h3,h4⟩:=hr.boxes k' b (hstb k' _ hb') hbk
   exact ⟨arr',fr',h1,h2,h3,Box.rel_on hon (by simpa using List.all_eq_true.1 hb _ (look_mem hb')) h4⟩
  own:=fun k' b hb'=>by
   have hb':look k' bx=some (some b):=hb'
   obtain ⟨h1,h2⟩:=hr.own k' b (hstb k' _ hb')
   exact ⟨h1,(joinM_out (hnot k' b hb')).trans h2⟩
  inj:=fun k1 k2 b1 b2 h1 h2 he=>hr.inj k1 k2 b1 b2 (hstb k1 _ h1) (hstb k2 _ h2) he
  keep:=fun k' b hb' hge=>hr.keep k' b (hstb k' _ hb') hge
  ext:=fun b o hbo=>by
   have hbo:joinM X (F k) b=some o:=hbo
   cases hc:F k b with
   | none=>rw [joinM_out hc] at hbo;exact hr.ext b o hbo
   | some o' =>
    rw [joinM_in hc] at hbo
    cases hbo
    exact (hF.mem k b _ hc).2.1
  res:=by
   refine ⟨fun j=>open Classical in if j=k then fun _=>none else F j,fun j e' cs' R' hj => ?_,fun j b o ho => ?_,fun i j b h1 h2 => ?_⟩
   ·have hj:look j bx=some (some ⟨e',cs',.res R'⟩):=hj
    rw [if_neg (hlk j _ hj)]
    exact hF.holds j e' cs' R' (hstb j _ hj)
   ·by_cases ej:j=k
    ·rw [if_pos ej] at ho;cases ho
    ·rw [if_neg ej] at ho
     obtain ⟨⟨e1,cs1,R1,h1⟩,h2,h3,h4,h5,h6⟩:=hF.mem j b o ho
     refine ⟨⟨e1,cs1,R1,hback j _ ej h1⟩,h2,h3,h4,?_,fun i bi hi ei=>h6 i bi (hstb i _ hi) ei⟩
     have hc:F k b=none:=by
      cases hc:F k b with
      | none=>rfl
      | some o'=>exact absurd (hF.apart j k b (by rw [ho];simp) (by rw [hc];simp)) ej
     exact (joinM_out hc).trans h5
   ·by_cases ei:i=k
    ·rw [if_pos ei] at h1;exact absurd rfl h1
    ·by_cases ej:j=k
     ·rw [if_pos ej] at h2;exact absurd rfl h2
     ·rw [if_neg ei] at h1
      rw [if_neg ej] at h2
      exact hF.apart i j b h1 h2
  frame:=hr.frame,big:=hr.big,os:=hr.os,tape:=hr.tape,output:=hr.output }
theorem Rel.fixCell {ι:Nat→Nat×Nat} {a:Act} {w:World} {s:List (Nat×LV)} {bx:List (Nat×Option Box)} {j k off len sz:Nat} {e e2:TypeId} {A B cs:List CV} {row:Bool} {R:Rsc}
  (hs:s.all (fun p=>p.2.inUse ((j,none)::bx))=true) (hA:A.all (CV.inUse ((j,none)::bx))=true) (hB:B.all (CV.inUse ((j,none)::bx))=true) (hb:bx.all (fun p=>match p.2 with|some b=>b.cells.all (CV.inUse ((j,none)::bx))|none=>true)=true) (hk:look k bx=none) (hjk:Nat.beq j k=false)
  (hr:Rel n C ι ⟨s,(j,some ⟨e2,A ++ .slc k off len sz::B,row⟩)::(k,some ⟨e,cs,.res R⟩)::bx,X⟩ a w):
  ∃ (ρ:Nat×Nat) (H:Nat→Option Obj) (cap:Nat),R.holds ρ H∧OwnedM C X H∧len≤cap∧off+cap*sz≤ρ.2 ∧
   Rel n C ι ⟨s,(j,some ⟨e2,A ++ .val (.slice (some ⟨ρ.1,off,none⟩) len cap)::B,row⟩)::bx,joinM X H⟩ a w:=by
 have hlk:look k ((k,some (⟨e,cs,.res R⟩:Box))::bx)=some (some ⟨e,cs,.res R⟩):=by simp [look]
 obtain ⟨cap,hc,hf,hr2⟩:=hr.unslc hjk hlk
 have hr3:Rel n C ι ⟨s,(k,some ⟨e,cs,.res R⟩)::(j,some ⟨e2,A ++ .val (.slice (some ⟨(ι k).1,off,none⟩) len cap)::B,row⟩)::bx,X⟩ a w:=
  hr2.same ⟨fun _=>rfl,fun i=>look_swap hjk,rfl⟩
 have any:∀ (y:Option Box) {c:CV},c.inUse ((j,none)::bx)=true→c.inUse ((j,y)::bx)=true:=fun y c h=>by
  cases c<;>first|rfl|(simp only [CV.inUse,look] at h ⊢;cases hjj:Nat.beq j _<;>simp_all)
 have anyS:∀ (y:Option Box) {c:SV},c.inUse ((j,none)::bx)=true→c.inUse ((j,y)::bx)=true:=fun y c h=>by
  cases c with
  | one c=>exact any y h
  | agg l=>exact List.all_eq_true.2 fun c hc=>any y (List.all_eq_true.1 h c hc)
 have anyL:∀ (y:Option Box) {c:LV},c.inUse ((j,none)::bx)=true→c.inUse ((j,y)::bx)=true:=fun y c h=>by
  cases c with
  | sv c=>exact anyS y h
  | tup l=>exact List.all_eq_true.2 fun c hc=>anyS y (List.all_eq_true.1 h c hc)
 obtain ⟨H,hR,hO,hr4⟩:=hr3.fixAlone (List.all_eq_true.2 fun p hp=>anyL _ (List.all_eq_true.1 hs p hp)) (by
  rw [List.all_cons,Bool.and_eq_true]
  refine ⟨?_,List.all_eq_true.2 fun p hp => ?_⟩
  ·show (A ++ .val _::B).all _=true
   rw [List.all_append,List.all_cons,Bool.and_eq_true,Bool.and_eq_true]
   exact ⟨List.all_eq_true.2 fun c hc=>any _ (List.all_eq_true.1 hA c hc),rfl,List.all_eq_true.2 fun c hc=>any _ (List.all_eq_true.1 hB c hc)⟩
  ·have:=List.all_eq_true.1 hb p hp
   cases hp2:p.2 with
   | none=>rfl
   | some b =>
    rw [hp2] at this
    exact List.all_eq_true.2 fun c hc=>any _ (List.all_eq_true.1 this c hc)) (by
  simp only [look,hjk]
  exact hk)
 exact ⟨ι k,H,cap,hR,hO,hc,hf,hr4⟩
theorem Leads.fixCell {Mid:St→Prop} {s:List (Nat×LV)} {bx:List (Nat×Option Box)} {j k off len sz:Nat} {e e2:TypeId} {A B cs:List CV} {row:Bool} {R:Rsc}
  (hs:s.all (fun p=>p.2.inUse ((j,none)::bx))=true) (hA:A.all (CV.inUse ((j,none)::bx))=true) (hB:B.all (CV.inUse ((j,none)::bx))=true) (hb:bx.all (fun p=>match p.2 with|some b=>b.cells.all (CV.inUse ((j,none)::bx))|none=>true)=true) (hk:look k bx=none) (hjk:Nat.beq j k=false)
  (h:∀ (ρ:Nat×Nat) (H:Nat→Option Obj) (cap:Nat),R.holds ρ H→OwnedM C X H→len≤cap→off+cap*sz≤ρ.2→Leads n C Mid ⟨s,(j,some ⟨e2,A ++ .val (.slice (some ⟨ρ.1,off,none⟩) len cap)::B,row⟩)::bx,joinM X H⟩):
  Leads n C Mid ⟨s,(j,some ⟨e2,A ++ .slc k off len sz::B,row⟩)::(k,some ⟨e,cs,.res R⟩)::bx,X⟩:=⟨fun ι a w hr=>by
 obtain ⟨ρ,H,cap,h1,h2,h3,h4,h5⟩:=hr.fixCell hs hA hB hb hk hjk
 exact (h ρ H cap h1 h2 h3 h4).out ι a w h5⟩
end
end Go.Lg
end
section
namespace Go.Lg
open Go Go.RowKit
section
variable {P:Program} {X:Nat→Option Obj} {pre:List (Nat×Option Box)} {ι:Nat→Nat×Nat} {H:Nat→Nat→Option Obj} {w:World}
theorem lentBox_mem (hM:MemOf X ι H pre w) {k:Nat} {b:Box} (hst:stOf pre k=some (some b)):LentBox (fun i=>w.heap[i]?) b (ι k).1 (ι k).2:=by
 obtain ⟨e,cs,row⟩:=b
 cases row with
 | bool r =>
  obtain ⟨arr,fr,harr,_,hsz,hbr⟩:=hM.boxes k _ hst rfl
  unfold Box.rel at hbr
  cases r with
  | false=>exact ⟨arr,fr,arr.toList,[],harr,hsz,by simp,fun vals e=>by simp only at e hbr;rw [e] at hbr;exact rel_vals hbr⟩
  | true =>
   obtain ⟨us,sp,e,hl⟩:=hbr
   exact ⟨arr,fr,us,sp,harr,hsz,e,fun vals e=>by simp only at e hl;rw [e] at hl;exact rel_vals hl⟩
 | res R=>exact ⟨H k,(hM.res.holds k _ _ _ hst).1,fun i o h=>(hM.res.mem k i o h).2.1⟩
theorem lentC_mem (hM:MemOf X ι H pre w) (ks:List Nat) {c:CV} {u:Value} (hl:lendC (stOf pre) ks c=true) (h:c.rel (stOf pre) ι u):LentC (stOf pre) (fun i=>w.heap[i]?) c u:=by
 cases c with
 | val v=>exact h
 | slc k off len sz =>
  simp only [lendC,Bool.and_eq_true] at hl
  cases hs:stOf pre k with
  | none=>rw [hs] at hl;exact absurd hl.2 (by simp)
  | some x =>
   cases x with
   | none=>rw [hs] at hl;exact absurd hl.2 (by simp)
   | some b =>
    simp only [CV.rel,hs] at h
    obtain ⟨cap,rfl,h3,h4⟩:=h
    exact ⟨b,_,cap,_,hs,rfl,h3,h4,lentBox_mem hM hs⟩
 | ptr _ _=>cases hl
 | mp _=>cases hl
 | fn _ _ _=>cases hl
 | hang _ _ _=>cases hl
 | junk=>cases hl
theorem lentCs_mem (hM:MemOf X ι H pre w) (ks:List Nat):∀ {cs:List CV} {us:List Value},cs.all (lendC (stOf pre) ks)=true→CVs.rel (stOf pre) ι cs us→LentCs (stOf pre) (fun i=>w.heap[i]?) cs us
 | [],[],_,_=>rfl
 | [],_::_,_,h=>h.elim
 | _::_,[],_,h=>h.elim
 | c::l,u::us,hl,h=>by
  simp only [List.all_cons,Bool.and_eq_true] at hl
  exact ⟨u,us,rfl,lentC_mem hM ks hl.1 h.1,lentCs_mem hM ks hl.2 h.2⟩
theorem lentLs_mem (hM:MemOf X ι H pre w) (ks:List Nat):∀ {lvs:List LV} {us:List Value},lvs.all (lendL (stOf pre) ks)=true→LVs.rel (stOf pre) ι lvs us→LentLs (stOf pre) (fun i=>w.heap[i]?) lvs us
 | [],[],_,_=>rfl
 | [],_::_,_,h=>h.elim
 | _::_,[],_,h=>h.elim
 | lv::l,u::us,hl,h=>by
  simp only [List.all_cons,Bool.and_eq_true] at hl
  refine ⟨u,us,rfl,?_,lentLs_mem hM ks hl.2 h.2⟩
  have h1:=h.1
  have h2:=hl.1
  match lv with
  | .sv (.one c)=>exact lentC_mem hM ks h2 h1
  | .sv (.agg cs) =>
   obtain ⟨arr,rfl,hl'⟩:=h1
   exact ⟨arr.toList,by simp,lentCs_mem hM ks h2 hl'⟩
  | .tup _=>cases h2
theorem Box.rel_means {bx:List (Nat×Option Box)} {S:Nat→Option (Option Box)} {κ:Nat→Nat×Nat} (h:∀ k,(look k bx).isSome=true→κ k=ι k) {b:Box} (hu:b.cells.all (CV.inUse bx)=true) {vs:List Value} (hr:b.rel S ι vs):b.rel S κ vs:=by
 unfold Box.rel at hr ⊢
 cases hb:b.row with
 | res R=>rw [hb] at hr;exact hr.elim
 | bool r =>
  cases r with
  | false=>rw [hb] at hr;exact CVs.rel_means h hu hr
  | true =>
   rw [hb] at hr
   obtain ⟨us,sp,e,hl⟩:=hr
   exact ⟨us,sp,e,CVs.rel_means h hu hl⟩
theorem MSpec.lend {f:FuncId} {lvs:List LV} {r:LV} {post:List (Nat×Option Box)} (hent:Program.enters P f=true) (hl:lvs.all (lendL (stOf pre) (pre.map (·.1)))=true)
  (hub:pre.all (fun p=>match p.2 with|some b=>b.cells.all (CV.inUse pre)|none=>true)=true) (hup:post.all (fun p=>match p.2 with|some b=>b.cells.all (CV.inUse post)|none=>true)=true) (hur:r.inUse post=true) (hdis:post.all (fun p=>(look p.1 pre).isNone)=true)
  (hs:∀ (Y:Nat→Option Obj) (us:List Value),(∀ b o,X b=some o→Y b=some o)→LentLs (stOf pre) Y lvs us→MSpec P Y f (us.map toLV) [] r post):MSpec P X f lvs pre r (pre++post):=by
 refine ⟨hent,fun w vals ι H hM hargs => ?_⟩
 have hlent:=lentLs_mem hM (pre.map (·.1)) hl hargs
 have hM0:MemOf (fun b=>w.heap[b]?) (fun _=>(0,0)) (fun _ _=>none) [] w:=⟨fun k b h=>(by cases h),fun k b h=>(by cases h),fun k k' b b' h=>(by cases h),fun b o h=>h,⟨fun k e cs R h=>(by cases h),fun k b o h=>(by cases h),fun k k' b h=>absurd rfl h⟩⟩
 have hc:=(hs _ _ hM.ext hlent).out w vals (fun _=>(0,0)) (fun _ _=>none) hM0 (args_rel _)
 refine hc.mono ?_
 rintro e w' ⟨v,ι',H',rfl,hv,hM',hP⟩
 have hno:∀ b,¬ LentB [] (fun _=>(0,0)) (fun _ _=>none) b:=fun b h=>by
  rcases h with ⟨k,b0,h,_⟩|⟨k,h⟩
  ·cases h
  ·exact h rfl
 have hst:∀ k,stOf (pre++post) k=(look k pre).or (look k post):=fun k=>look_append _ _ _
 have hp1:∀ k x,look k pre=some x→stOf (pre++post) k=some x:=fun k x h=>by rw [hst,h];rfl
 have hdj:∀ k x,look k post=some x→look k pre=none:=fun k x h=>by
  have:=List.all_eq_true.1 hdis _ (look_mem h)
  simpa using this
 have hp2:∀ k x,look k post=some x→stOf (pre++post) k=some x:=fun k x h=>by rw [hst,hdj k x h,h];rfl
 have hback:∀ k x,stOf (pre++post) k=some x→look k pre=some x∨(look k pre=none∧look k post=some x):=fun k x h=>by
  rw [hst] at h
  cases hp:look k pre with
  | none=>rw [hp] at h;exact .inr ⟨rfl,h⟩
  | some y=>rw [hp] at h;exact .inl h
 have hgrow:∀ b o,w.heap[b]? = some o→w'.heap[b]? = some o:=fun b o h=>hM'.ext b o h
 have hin:∀ k b,look k pre=some (some b)→∃ o,w.heap[(ι k).1]? = some o:=fun k b h=>by
  cases hb:b.blk with
  | true =>
   obtain ⟨arr,fr,h1,_⟩:=hM.boxes k b h hb
   exact ⟨_,h1⟩
  | false =>
   obtain ⟨e,cs,R,rfl⟩:=Box.res_of hb
   have h1:=(hM.res.holds k _ _ _ h).2
   cases ho:H k (ι k).1 with
   | none=>exact absurd ho h1
   | some o=>exact ⟨o,(hM.res.mem k _ o ho).2.1⟩
 have hout:∀ k b,look k post=some (some b)→w.heap[(ι' k).1]? = none:=fun k b h=>hM'.apart k b h
 have hX:∀ b,w.heap[b]? = none→X b=none:=fun b h=>by
  cases hx:X b with
  | none=>rfl
  | some o=>rw [hM.ext b o hx] at h;cases h
 generalize hκ:(fun k=>if (look k pre).isSome=true then ι k else ι' k)=κ
 generalize hG:(fun k=>if (look k pre).isSome=true then H k else H' k)=G
 have k1:∀ k x,look k pre=some x→κ k=ι k:=fun k x h=>by rw [← hκ];exact if_pos (by rw [h];rfl)
 have k2:∀ k,look k pre=none→κ k=ι' k:=fun k h=>by rw [← hκ];exact if_neg (by rw [h];decide)
 have g1:∀ k x,look k pre=some x→G k=H k:=fun k x h=>by rw [← hG];exact if_pos (by rw [h];rfl)
 have g2:∀ k,look k pre=none→G k=H' k:=fun k h=>by rw [← hG];exact if_neg (by rw [h];decide)
 have on1:SameOn pre (stOf pre) (stOf (pre++post)):=fun k x h=>h.trans (hp1 k x h).symm
 have on2:SameOn post (stOf post) (stOf (pre++post)):=fun k x h=>h.trans (hp2 k x h).symm
 have mn1:∀ k,(look k pre).isSome=true→κ k=ι k:=fun k h=>by
  obtain ⟨x,hx⟩:=Option.isSome_iff_exists.1 h
  exact k1 k x hx
 have mn2:∀ k,(look k post).isSome=true→κ k=ι' k:=fun k h=>by
  obtain ⟨x,hx⟩:=Option.isSome_iff_exists.1 h
  exact k2 k (hdj k x hx)
 have hcp:∀ k b,look k pre=some (some b)→b.cells.all (CV.inUse pre)=true:=fun k b h=>by simpa using List.all_eq_true.1 hub _ (look_mem h)
 have hcq:∀ k b,look k post=some (some b)→b.cells.all (CV.inUse post)=true:=fun k b h=>by simpa using List.all_eq_true.1 hup _ (look_mem h)
 have hHin:∀ k b,H k b≠none→(∃ x,look k pre=some x)∧∃ o,w.heap[b]? = some o:=fun k b h=>by
  cases ho:H k b with
  | none=>exact absurd ho h
  | some o =>
   obtain ⟨⟨_,_,_,h1⟩,h2,_⟩:=hM.res.mem k b o ho
   exact ⟨⟨_,h1⟩,o,h2⟩
 have hHout:∀ k b,H' k b≠none→w.heap[b]? = none:=fun k b h=>by
  cases ho:H' k b with
  | none=>exact absurd ho h
  | some o=>exact (hM'.res.mem k b o ho).2.2.2.2.1
 refine ⟨v,κ,G,rfl,LV.rel_means mn2 hur (LV.rel_on on2 hur hv),?_,?_⟩
 ·refine ⟨fun k b hk hb => ?_,fun k b hk => ?_,fun k k' b b' hk hk' he => ?_,fun b o hb=>hgrow b o (hM.ext b o hb),?_⟩
  ·rcases hback k _ hk with h|⟨h,h'⟩
   ·obtain ⟨arr,fr,q1,q2,q3,q4⟩:=hM.boxes k b h hb
    rw [k1 k _ h]
    exact ⟨arr,fr,hgrow _ _ q1,q2,q3,Box.rel_means mn1 (hcp k b h) (Box.rel_on on1 (hcp k b h) q4)⟩
   ·obtain ⟨arr,fr,q1,q2,q3,q4⟩:=hM'.boxes k b h' hb
    rw [k2 k h]
    exact ⟨arr,fr,q1,q2,q3,Box.rel_means mn2 (hcq k b h') (Box.rel_on on2 (hcq k b h') q4)⟩
  ·rcases hback k _ hk with h|⟨h,h'⟩
   ·rw [k1 k _ h];exact hM.apart k b h
   ·rw [k2 k h];exact hX _ (hout k b h')
  ·rcases hback k _ hk with h|⟨h,h'⟩
   ·rcases hback k' _ hk' with i|⟨i,i'⟩
    ·rw [k1 k _ h,k1 k' _ i] at he
     exact hM.inj k k' b b' h i he
    ·rw [k1 k _ h,k2 k' i] at he
     obtain ⟨o,ho⟩:=hin k b h
     rw [he,hout k' b' i'] at ho
     cases ho
   ·rcases hback k' _ hk' with i|⟨i,i'⟩
    ·rw [k2 k h,k1 k' _ i] at he
     obtain ⟨o,ho⟩:=hin k' b' i
     rw [← he,hout k b h'] at ho
     cases ho
    ·rw [k2 k h,k2 k' i] at he
     exact hM'.inj k k' b b' h' i' he
  ·refine ⟨fun k e cs R hk => ?_,fun k b o ho => ?_,fun k k' b q1 q2 => ?_⟩
   ·rcases hback k _ hk with h|⟨h,h'⟩
    ·rw [k1 k _ h,g1 k _ h];exact hM.res.holds k e cs R h
    ·rw [k2 k h,g2 k h];exact hM'.res.holds k e cs R h'
   ·cases h:look k pre with
    | some x =>
     rw [g1 k x h] at ho
     obtain ⟨⟨e1,cs1,R1,q0⟩,q1,q2,q3,q4,q5⟩:=hM.res.mem k b o ho
     refine ⟨⟨e1,cs1,R1,hp1 k _ q0⟩,hgrow _ _ q1,q2,trivial,q4,fun j bj hj e2 => ?_⟩
     rcases hback j _ hj with i|⟨i,i'⟩
     ·rw [k1 j _ i] at e2;exact q5 j bj i e2
     ·rw [k2 j i] at e2
      have:=hout j bj i'
      rw [e2,q1] at this
      cases this
    | none =>
     rw [g2 k h] at ho
     obtain ⟨⟨e1,cs1,R1,q0⟩,q1,q2,q3,q4,q5⟩:=hM'.res.mem k b o ho
     refine ⟨⟨e1,cs1,R1,hp2 k _ q0⟩,q1,q2,trivial,hX b q4,fun j bj hj e2 => ?_⟩
     rcases hback j _ hj with i|⟨i,i'⟩
     ·rw [k1 j _ i] at e2
      obtain ⟨o2,ho2⟩:=hin j bj i
      rw [e2] at ho2
      rw [show w.heap[b]? = none from q4] at ho2
      cases ho2
     ·rw [k2 j i] at e2;exact q5 j bj i' e2
   ·cases h:look k pre with
    | some x =>
     rw [g1 k x h] at q1
     cases h2:look k' pre with
     | some y=>rw [g1 k' y h2] at q2;exact hM.res.apart k k' b q1 q2
     | none =>
      rw [g2 k' h2] at q2
      obtain ⟨_,o,ho⟩:=hHin k b q1
      rw [hHout k' b q2] at ho
      cases ho
    | none =>
     rw [g2 k h] at q1
     cases h2:look k' pre with
     | some y =>
      rw [g1 k' y h2] at q2
      obtain ⟨_,o,ho⟩:=hHin k' b q2
      rw [hHout k b q1] at ho
      cases ho
     | none=>rw [g2 k' h2] at q2;exact hM'.res.apart k k' b q1 q2
 ·refine ⟨fun k b hk hn => ?_,fun k b hk hn => ?_,fun k b h => ?_,fun b hb _=>hP.frame b hb (hno b),hP.big,hP.os,hP.tape,hP.output⟩
  ·rcases hback k _ hk with h|⟨h,_⟩
   ·exact ⟨⟨b,h⟩,k1 k _ h⟩
   ·exact absurd h hn
  ·rcases hback k _ hk with h|⟨h,h'⟩
   ·have h2:look k pre=none:=hn
    rw [h] at h2;cases h2
   ·rw [k2 k h]
    rcases hP.new k b h' rfl with q|q
    ·exact .inl q
    ·exact absurd q (hno _)
  ·cases hp:look k pre with
   | some x=>rw [g1 k x hp] at h;exact .inr (.inr ⟨k,h⟩)
   | none =>
    rw [g2 k hp] at h
    rcases hP.newH k b h with q|q
    ·exact .inl q
    ·exact absurd q (hno _)
end
end Go.Lg
end
section
namespace Go.Lg
open Go Go.RowKit
section
variable {P:Program} {n:Nat} {ops os:List Oper} {acc:List Eff} {K:List Eff→St→Prop} {s:List (Nat×LV)} {bx:List (Nat×Option Box)} {X:Nat→Option Obj} {σ:St}
structure MadeOf (P:Program) (t:TypeId) (e:TypeId) (sz bytes:Nat) (z:List Value):Prop where
 under:P.underlying t=some (.slice e)
 info:(P.info? e).map (fun i=>(i.size,i.zero.map (fun z=>z.cells),i.bytes))=some (sz,some z.toArray,bytes)
 len:z.length=sz
end
end Go.Lg
end
section
namespace Go.Lg
open Go
def RowsIn (X:Nat→Option Obj) (ad:Option Addr) (sz:Nat) (rows:List (List Value)):Prop:=
 ∀ i r,rows[i]? = some r→∃ (blk off:Nat) (arr:Array Value) (el:TypeId) (fr:Nat×Nat),ad=some ⟨blk,off,none⟩∧X blk=some (.cells arr el fr)∧off+i*sz+sz≤arr.size∧(arr.toList.drop (off+i*sz)).take sz=r
theorem RowsIn.mono {X Y:Nat→Option Obj} {ad:Option Addr} {sz:Nat} {rows:List (List Value)} (h:RowsIn X ad sz rows) (hm:∀ b o,X b=some o→Y b=some o):RowsIn Y ad sz rows:=fun i r hi=>by
 obtain ⟨blk,off,arr,el,fr,h1,h2,h3,h4⟩:=h i r hi
 exact ⟨blk,off,arr,el,fr,h1,hm _ _ h2,h3,h4⟩
theorem flat_row {sz:Nat}:∀ {rows:List (List Value)} (_:∀ r∈rows,r.length=sz) {sp:List Value} {i:Nat} {r:List Value} (_:rows[i]? = some r),i*sz+sz≤(rows.flatten++sp).length∧((rows.flatten++sp).drop (i*sz)).take sz=r
 | [],_,_,i,r,h=>by simp at h
 | r0::rows,hl,sp,0,r,h=>by
  simp only [List.getElem?_cons_zero,Option.some.injEq] at h
  subst h
  have h0:=hl r0 (by simp)
  simp only [List.flatten_cons,List.append_assoc,List.length_append,Nat.zero_mul,List.drop_zero]
  refine ⟨by omega,?_⟩
  rw [← h0,List.take_left]
 | r0::rows,hl,sp,i+1,r,h=>by
  have h0:=hl r0 (by simp)
  obtain ⟨h1,h2⟩:=flat_row (rows:=rows) (fun x hx=>hl x (by simp [hx])) (sp:=sp) (i:=i) (r:=r) (by simpa using h)
  simp only [List.flatten_cons,List.append_assoc,List.length_append] at h1 ⊢
  have e:(i+1)*sz=i*sz+sz:=by rw [Nat.add_mul,Nat.one_mul]
  refine ⟨by omega,?_⟩
  rw [e,Nat.add_comm,← List.drop_drop,← h0,List.drop_left,h0]
  exact h2
end Go.Lg
namespace Go.Lg.Fld
open Go Go.Lg
end Go.Lg.Fld
end
section
namespace Go.Lg
open Go Go.RowKit
section
variable {P:Program} {n:Nat} {ops os:List Oper} {acc:List Eff} {K:List Eff→St→Prop} {s:List (Nat×LV)} {bx:List (Nat×Option Box)} {X:Nat→Option Obj}
theorem kmv {d:Nat} {x:Operand} {ty:TypeId} {pos:String} {after:Array Edge} {lv:LV} (hx:(⟨s,bx,X⟩:St).ev x=some lv) (kont:RunK P n ops os ⟨(d,lv)::s,bx,X⟩ (⟨[(d,lv)],[],[]⟩::acc) K):
  RunK P n ops (⟨some d,.move x,ty,pos,after,none⟩::os) ⟨s,bx,X⟩ acc K:=Go.Lg.K.move hx .plain kont
theorem gmv {d:Nat} {x:Operand} {ty:TypeId} {pos:String} {after:Array Edge} {lv:LV} (hx:(⟨s,bx,X⟩:St).ev x=some lv) {gj gt:Nat} {gb:Bool} (g1:(ops[gj]?).bind (·.dst)=some gt) (g2:look gt s=some (.sv (.one (.val (.bool gb))))) (kont:RunK P n ops os ⟨(d,lv)::s,bx,X⟩ (⟨[(d,lv)],[],[]⟩::acc) K):
  RunK P n ops (⟨some d,.move x,ty,pos,after,some (gj,gb)⟩::os) ⟨s,bx,X⟩ acc K:=Go.Lg.K.move hx (.taken g1 g2) kont
theorem kas {d:Nat} {x:Operand} {ty:TypeId} {pos:String} {after:Array Edge} {lv:LV} (hx:(⟨s,bx,X⟩:St).ev x=some lv) (kont:RunK P n ops os ⟨(d,lv)::s,bx,X⟩ (⟨[(d,lv)],[],[]⟩::acc) K):
  RunK P n ops (⟨some d,.assign x,ty,pos,after,none⟩::os) ⟨s,bx,X⟩ acc K:=Go.Lg.K.assign hx .plain kont
theorem kpt {d:Nat} {c x y:Operand} {ty:TypeId} {pos:String} {after:Array Edge} {lv:LV} (hc:(⟨s,bx,X⟩:St).ev c=some (.sv (.one (.val (.bool true))))) (hx:(⟨s,bx,X⟩:St).ev x=some lv) (kont:RunK P n ops os ⟨(d,lv)::s,bx,X⟩ (⟨[(d,lv)],[],[]⟩::acc) K):
  RunK P n ops (⟨some d,.pick c x y,ty,pos,after,none⟩::os) ⟨s,bx,X⟩ acc K:=Go.Lg.K.pickT hc hx .plain kont
theorem kpf {d:Nat} {c x y:Operand} {ty:TypeId} {pos:String} {after:Array Edge} {lv:LV} (hc:(⟨s,bx,X⟩:St).ev c=some (.sv (.one (.val (.bool false))))) (hy:(⟨s,bx,X⟩:St).ev y=some lv) (kont:RunK P n ops os ⟨(d,lv)::s,bx,X⟩ (⟨[(d,lv)],[],[]⟩::acc) K):
  RunK P n ops (⟨some d,.pick c x y,ty,pos,after,none⟩::os) ⟨s,bx,X⟩ acc K:=Go.Lg.K.pickF hc hy .plain kont
theorem kex {s0:List (Nat×LV)} {d:Nat} {x:Operand} {i:Nat} {ty:TypeId} {pos:String} {after:Array Edge} {l:List SV} {s:SV} (hx:(⟨s0,bx,X⟩:St).ev x=some (.tup l)) (hi:l[i]? = some s) (kont:RunK P n ops os ⟨(d,.sv s)::s0,bx,X⟩ (⟨[(d,.sv s)],[],[]⟩::acc) K):
  RunK P n ops (⟨some d,.extract x i,ty,pos,after,none⟩::os) ⟨s0,bx,X⟩ acc K:=Go.Lg.K.extract hx hi .plain kont
theorem kad {d:Nat} {t:TypeId} {t':TypeId} {x:Operand} {y:Operand} {ty:TypeId} {pos:String} {after:Array Edge} {k:IntKind} {a:Int} {b:Int} {c:Int} (hx:(⟨s,bx,X⟩:St).ev x=some (.sv (.one (.val (.int k a))))) (hy:(⟨s,bx,X⟩:St).ev y=some (.sv (.one (.val (.int k b))))) (hc:k.wrap (a+b)=c) (kont:RunK P n ops os ⟨(d,.sv (.one (.val (.int k c))))::s,bx,X⟩ (⟨[(d,.sv (.one (.val (.int k c))))],[],[]⟩::acc) K):
  RunK P n ops (⟨some d,.binOp .add t x y t',ty,pos,after,none⟩::os) ⟨s,bx,X⟩ acc K:=Go.Lg.K.add hx hy hc .plain kont
theorem keq {d:Nat} {t:TypeId} {t':TypeId} {x:Operand} {y:Operand} {ty:TypeId} {pos:String} {after:Array Edge} {k:IntKind} {a:Int} {b:Int} {r:Bool} (hx:(⟨s,bx,X⟩:St).ev x=some (.sv (.one (.val (.int k a))))) (hy:(⟨s,bx,X⟩:St).ev y=some (.sv (.one (.val (.int k b))))) (hc:(a==b)=r) (kont:RunK P n ops os ⟨(d,.sv (.one (.val (.bool r))))::s,bx,X⟩ (⟨[(d,.sv (.one (.val (.bool r))))],[],[]⟩::acc) K):
  RunK P n ops (⟨some d,.binOp .eql t x y t',ty,pos,after,none⟩::os) ⟨s,bx,X⟩ acc K:=Go.Lg.K.eql hx hy hc .plain kont
theorem kne {d:Nat} {t:TypeId} {t':TypeId} {x:Operand} {y:Operand} {ty:TypeId} {pos:String} {after:Array Edge} {k:IntKind} {a:Int} {b:Int} {r:Bool} (hx:(⟨s,bx,X⟩:St).ev x=some (.sv (.one (.val (.int k a))))) (hy:(⟨s,bx,X⟩:St).ev y=some (.sv (.one (.val (.int k b))))) (hc:(a != b)=r) (kont:RunK P n ops os ⟨(d,.sv (.one (.val (.bool r))))::s,bx,X⟩ (⟨[(d,.sv (.one (.val (.bool r))))],[],[]⟩::acc) K):
  RunK P n ops (⟨some d,.binOp .neq t x y t',ty,pos,after,none⟩::os) ⟨s,bx,X⟩ acc K:=Go.Lg.K.neq hx hy hc .plain kont
theorem klt {d:Nat} {t:TypeId} {t':TypeId} {x:Operand} {y:Operand} {ty:TypeId} {pos:String} {after:Array Edge} {k:IntKind} {a:Int} {b:Int} {r:Bool} (hx:(⟨s,bx,X⟩:St).ev x=some (.sv (.one (.val (.int k a))))) (hy:(⟨s,bx,X⟩:St).ev y=some (.sv (.one (.val (.int k b))))) (hc:decide (a<b)=r) (kont:RunK P n ops os ⟨(d,.sv (.one (.val (.bool r))))::s,bx,X⟩ (⟨[(d,.sv (.one (.val (.bool r))))],[],[]⟩::acc) K):
  RunK P n ops (⟨some d,.binOp .lss t x y t',ty,pos,after,none⟩::os) ⟨s,bx,X⟩ acc K:=Go.Lg.K.lss hx hy hc .plain kont
theorem kse {d:Nat} {t:TypeId} {t':TypeId} {x:Operand} {y:Operand} {ty:TypeId} {pos:String} {after:Array Edge} {r:Bool} {p q:ByteArray} (hx:(⟨s,bx,X⟩:St).ev x=some (.sv (.one (.val (.string p))))) (hy:(⟨s,bx,X⟩:St).ev y=some (.sv (.one (.val (.string q))))) (hc:(p.toList==q.toList)=r) (kont:RunK P n ops os ⟨(d,.sv (.one (.val (.bool r))))::s,bx,X⟩ (⟨[(d,.sv (.one (.val (.bool r))))],[],[]⟩::acc) K):
  RunK P n ops (⟨some d,.binOp .eql t x y t',ty,pos,after,none⟩::os) ⟨s,bx,X⟩ acc K:=Go.Lg.K.strEq hx hy hc .plain kont
theorem kca {d:Nat} {f:FuncId} {args:List Operand} {tys:Array TypeId} {ty:TypeId} {pos:String} {after:Array Edge} {lvs:List LV} {r:LV} (hargs:evs ⟨s,bx,X⟩ args=some lvs) (hcl:lvs.all LV.closed=true) (hs:PSpec P X f lvs r) (kont:RunK P n ops os ⟨(d,r)::s,bx,X⟩ (⟨[(d,r)],[],[]⟩::acc) K):
  RunK P n ops (⟨some d,.call ⟨.value (.func f),args.toArray,tys⟩,ty,pos,after,none⟩::os) ⟨s,bx,X⟩ acc K:=Go.Lg.K.call hargs hcl hs .plain kont
theorem gca {d:Nat} {f:FuncId} {args:List Operand} {tys:Array TypeId} {ty:TypeId} {pos:String} {after:Array Edge} {lvs:List LV} {r:LV} (hargs:evs ⟨s,bx,X⟩ args=some lvs) (hcl:lvs.all LV.closed=true) (hs:PSpec P X f lvs r) {gj gt:Nat} {gb:Bool} (g1:(ops[gj]?).bind (·.dst)=some gt) (g2:look gt s=some (.sv (.one (.val (.bool gb))))) (kont:RunK P n ops os ⟨(d,r)::s,bx,X⟩ (⟨[(d,r)],[],[]⟩::acc) K):
  RunK P n ops (⟨some d,.call ⟨.value (.func f),args.toArray,tys⟩,ty,pos,after,some (gj,gb)⟩::os) ⟨s,bx,X⟩ acc K:=Go.Lg.K.call hargs hcl hs (.taken g1 g2) kont
theorem kl1 {d:Nat} {t:TypeId} {x:Operand} {ty:TypeId} {pos:String} {after:Array Edge} {k off:Nat} {e:TypeId} {cs:List CV} {row:Bool} {c:CV} [i:OneT P t] (hx:(⟨s,bx,X⟩:St).ev x=some (.sv (.one (.ptr k off)))) (hk:(⟨s,bx,X⟩:St).stat k=some (some ⟨e,cs,row⟩)) (hc:cs[off]? = some c) (kont:RunK P n ops os ⟨(d,.sv (.one c))::s,bx,X⟩ (⟨[(d,.sv (.one c))],[k],[]⟩::acc) K):
  RunK P n ops (⟨some d,.load t x,ty,pos,after,none⟩::os) ⟨s,bx,X⟩ acc K:=Go.Lg.K.loadOne hx hk hc .plain kont
theorem kfa {d:Nat} {t:TypeId} {x:Operand} {ty:TypeId} {pos:String} {after:Array Edge} {i k off o m:Nat} [f:FieldT P t i o m] (hx:(⟨s,bx,X⟩:St).ev x=some (.sv (.one (.ptr k off)))) {off':Nat} (ho:Nat.add off o=off') (kont:RunK P n ops os ⟨(d,.sv (.one (.ptr k off')))::s,bx,X⟩ (⟨[(d,.sv (.one (.ptr k off')))],[],[]⟩::acc) K):
  RunK P n ops (⟨some d,.fieldAddr t x i,ty,pos,after,none⟩::os) ⟨s,bx,X⟩ acc K:=Go.Lg.K.fieldAddr hx ho .plain kont
theorem kln {d:Nat} {t:TypeId} {x:Operand} {ty:TypeId} {pos:String} {after:Array Edge} {s0:List (Nat×LV)} {s:ByteArray} [StrT P t] (hx:(⟨s0,bx,X⟩:St).ev x=some (.sv (.one (.val (.string s))))) (kont:RunK P n ops os ⟨(d,.sv (.one (.val (.int .i64 s.size))))::s0,bx,X⟩ (⟨[(d,.sv (.one (.val (.int .i64 s.size))))],[],[]⟩::acc) K):
  RunK P n ops (⟨some d,.call ⟨.builtin .len,#[x],#[t]⟩,ty,pos,after,none⟩::os) ⟨s0,bx,X⟩ acc K:=Go.Lg.K.lenStr hx .plain kont
theorem kcv {d:Nat} {t:TypeId} {t':TypeId} {x:Operand} {ty:TypeId} {pos:String} {after:Array Edge} {k k':IntKind} {a c:Int} {ks:IntKind} [i:IntT P t ks] [i':IntT P t' k'] (hx:(⟨s,bx,X⟩:St).ev x=some (.sv (.one (.val (.int k a))))) (hc:k'.wrap a=c) (kont:RunK P n ops os ⟨(d,.sv (.one (.val (.int k' c))))::s,bx,X⟩ (⟨[(d,.sv (.one (.val (.int k' c))))],[],[]⟩::acc) K):
  RunK P n ops (⟨some d,.convert t t' x,ty,pos,after,none⟩::os) ⟨s,bx,X⟩ acc K:=Go.Lg.K.conv hx hc .plain kont
end
section
variable {P:Program} {n:Nat} {C:Ctx} {Q:Exit→St→Prop} {σ:St} {id:Nat} {ops:List Oper}
theorem rgN (h:RunK P n ops ops σ [] fun _ σ'=>Q .normal σ') (hd:dstsOK n ops=true:=by kernel_rfl):LWP P n C (.region id ops.toArray false) Q σ:=LWP.region hd h
theorem rgD (hm:P.follows .mixedOrders=true) (h:RunK P n ops ops σ [] fun es σ'=>check ops es=true∧Q .normal σ') (hd:dstsOK n ops=true:=by kernel_rfl):LWP P n C (.region id ops.toArray true) Q σ:=LWP.draws hm hd h
theorem rgA {a b:Prop} (h:b) (ha:a:=by kernel_rfl):a∧b:=⟨ha,h⟩
end
end Go.Lg
end
section
namespace Go.Lg
open Go Go.RowKit
structure Wr (B:Prop):Prop where w:B
theorem wg {α:Type} {l:List α} {i:Nat} (h:i<l.length):∃ x,l[i]? = some x:=⟨_,List.getElem?_eq_getElem h⟩
theorem wl {α:Type} {l:List α} {i:Nat} {x:α} (h:l[i]? = some x):i<l.length:=(List.getElem?_eq_some_iff.1 h).1
theorem wo (o i k:Nat):o+Int.toNat (i:Int)*k=o+i*k:=by simp
theorem wi (i:Nat) (h:i<9223372036854775807):IntKind.i64.wrap (((i:Nat):Int)+1)=((i+1:Nat):Int):=by rw [wrap_i64 (by omega)];omega
theorem stepQ {A B:Prop} (k:B) (h:B→A:=by first
  | exact fun k=>LWP.seq k
  | exact fun k=>RunK.nil k
  | exact fun k=>rgN k
  | exact fun k=>kmv rfl k
  | exact fun k=>kas rfl k
  | exact fun k=>RunK.passed rfl rfl rfl k
  | exact fun k=>kfa rfl rfl k
  | exact fun k=>kl1 rfl rfl rfl k
  | exact fun k=>LWP.condF rfl k
  | exact fun k=>LWP.skip k
  | exact fun k=>LWP.ret k
  | exact fun k=>LWP.condT rfl k
  | exact fun k=>K.loadAll rfl rfl rfl .plain k
  | exact fun k=>K.box rfl rfl rfl .plain k
  | exact fun k=>K.storeAll rfl rfl rfl rfl rfl rfl .plain k
  | exact fun k=>kca rfl rfl (by assumption) k
  | exact fun k=>K.alloc rfl .plain k
  | exact fun k=>gmv rfl rfl rfl k
  | exact fun k=>LWP.block k
  | exact fun k=>kpf rfl rfl k
  | exact fun k=>kex rfl rfl k
  | exact fun k=>K.fieldAddr rfl rfl (.taken rfl rfl) k
  | exact fun k=>K.loadOne rfl rfl rfl (.taken rfl rfl) k
  | exact fun k=>kpt rfl rfl k
  | exact fun k=>K.indexX rfl rfl SliceT.h (by omega) (by assumption) .plain k
  | exact fun k=>K.lenX rfl SliceT.h rfl .plain k
  | exact fun k=>RunK.passedU rfl rfl k
  | exact fun k=>K.loadXagg rfl (by assumption) (by kernel_rfl) (by assumption) (by assumption) .plain k
  | exact fun k=>klt rfl rfl (decide_eq_true (by omega)) k
  | exact fun k=>K.not rfl rfl .plain k
  | exact fun k=>K.loadX rfl (by assumption) rfl (by assumption) .plain k
  | exact fun k=>klt rfl rfl (decide_eq_false (by omega)) k
  | exact fun k=>rgA k
  | exact fun k=>LWP.exit k
  | exact fun k=>K.fieldAddrX rfl rfl .plain k
  | exact fun k=>keq rfl rfl (beq_eq_false_iff_ne.2 (by omega)) k
  | exact fun k=>K.build rfl rfl (by exact rfl) (by exact nl3 rfl rfl rfl rfl) .plain k
  | exact fun k=>kad rfl rfl (by assumption) k
  | exact fun k=>K.indexX rfl rfl SliceT.h (by assumption) (by assumption) .plain k
  | exact fun k=>gca rfl rfl (by assumption) rfl rfl k
  | exact fun k=>K.not rfl rfl (.taken rfl rfl) k
  | exact fun k=>K.pickT rfl rfl (.taken rfl rfl) k
  | exact fun k=>kne rfl rfl (r:=false) rfl k
  | exact fun k=>keq rfl rfl (r:=false) rfl k
  | exact fun k=>K.gtr rfl rfl (decide_eq_false (by omega)) (.taken rfl rfl) k
  | exact fun k=>kad rfl rfl (wrap_i64 (by omega)) k
  | exact fun k=>K.pickF rfl rfl (.taken rfl rfl) k
  | exact fun k=>K.loadAll rfl rfl rfl (.taken rfl rfl) k
  | exact fun k=>K.indexArr rfl rfl (by omega) rfl .plain k
  | exact fun k=>K.lenX rfl SliceT.h rfl (.taken rfl rfl) k
  | exact fun k=>keq rfl rfl (r:=true) rfl k
  | exact fun k=>K.geq rfl rfl (decide_eq_false (by omega)) .plain k
  | exact fun k=>K.geq rfl rfl (decide_eq_true (by omega)) .plain k
  | exact fun k=>kne rfl rfl ((bne_eq_false_iff_eq.2 (by omega))) k
  | exact fun k=>K.gtr rfl rfl (decide_eq_true (by omega)) (.taken rfl rfl) k
  | exact fun k=>keq rfl rfl (beq_iff_eq.2 (by omega)) k
  | exact fun k=>K.lss rfl rfl (decide_eq_false (by omega)) (.taken rfl rfl) k
  | exact fun k=>K.build rfl rfl (by exact rfl) (by exact nl2 rfl rfl rfl) .plain k
  | exact fun k=>K.gtr rfl rfl (decide_eq_false (by omega)) .plain k
  | exact fun k=>kln rfl k
  | exact fun k=>K.build rfl rfl (by exact rfl) (by exact nl6 rfl rfl rfl rfl rfl rfl rfl) .plain k
  | exact fun k=>K.geq rfl rfl (r:=true) rfl .plain k
  | exact fun k=>K.leq rfl rfl (r:=false) rfl (.taken rfl rfl) k
  | exact fun k=>K.nilCheck rfl .plain k
  | exact fun k=>K.lenSlc rfl SliceT.h rfl .plain k
  | exact fun k=>K.loadPart rfl rfl rfl (by exact nl3 rfl rfl rfl rfl) (.taken rfl rfl) k
  | exact fun k=>K.gtr rfl rfl (decide_eq_true (by omega)) .plain k
  | exact fun k=>K.indexSlc rfl rfl (by omega) (by assumption) .plain k
  | exact fun k=>K.loadX rfl (by assumption) rfl (by assumption) (.taken rfl rfl) k
  | exact fun k=>K.indexX rfl rfl SliceT.h (by omega) (by assumption) (.taken rfl rfl) k
  | exact fun k=>K.fieldAddrX rfl rfl (.taken rfl rfl) k
  | exact fun k=>K.sub rfl rfl (by assumption) .plain k
  | exact fun k=>kne rfl rfl (bne_iff_ne.2 (by omega)) k
  | exact fun k=>K.build rfl rfl (by exact rfl) (by exact nl3 rfl rfl rfl rfl) (.taken rfl rfl) k
  | exact fun k=>K.eql rfl rfl (by assumption) (.taken rfl rfl) k
  | exact fun k=>K.sub rfl rfl (wrap_u64 (by omega)) .plain k
  | exact fun k=>K.indexStr rfl rfl (by omega) (by assumption) .plain k
  | exact fun k=>K.eql rfl rfl (beq_iff_eq.2 (by omega)) (.taken rfl rfl) k
  | exact fun k=>K.build rfl rfl (by exact rfl) (by exact rfl) .plain k
  | exact fun k=>kcv rfl (by assumption) k
  | exact fun k=>K.storeOne rfl rfl rfl rfl rfl (nl3 rfl rfl rfl rfl) .plain k
  | exact fun k=>K.eql rfl rfl (beq_eq_false_iff_ne.2 (by omega)) (.taken rfl rfl) k
  | exact fun k=>K.neq rfl rfl (bne_iff_ne.2 hno2) (.taken rfl rfl) k
  | exact fun k=>K.box1 rfl rfl rfl .plain k
  | exact fun k=>K.eql rfl rfl (r:=true) rfl (.taken rfl rfl) k
  | exact fun k=>K.indexX rfl rfl SliceT.h (by assumption) (by assumption) (.taken rfl rfl) k
  | exact fun k=>K.geq rfl rfl (decide_eq_false (by omega)) (.taken rfl rfl) k
  | exact fun k=>K.loadXagg rfl (by assumption) (by kernel_rfl) (by assumption) (by assumption) (.taken rfl rfl) k
  | exact fun k=>keq rfl rfl (r:=false) (beq_eq_false_iff_ne.2 (by omega)) k
  | exact fun k=>K.leq rfl rfl (decide_eq_false (by omega)) .plain k
  | exact fun k=>K.mul rfl rfl (wrap_u64 (by omega)) (.taken rfl rfl) k
  | exact fun k=>kne rfl rfl (r:=true) (bne_iff_ne.2 (by omega)) k):A:=h k
theorem U1 {A B:Prop} (k:B) (h:Wr B→A:=by (intro q;iterate 1 refine stepQ ?_);exact q.w):A:=h ⟨k⟩
theorem U2 {A B:Prop} (k:B) (h:Wr B→A:=by (intro q;iterate 2 refine stepQ ?_);exact q.w):A:=h ⟨k⟩
theorem U3 {A B:Prop} (k:B) (h:Wr B→A:=by (intro q;iterate 3 refine stepQ ?_);exact q.w):A:=h ⟨k⟩
theorem U4 {A B:Prop} (k:B) (h:Wr B→A:=by (intro q;iterate 4 refine stepQ ?_);exact q.w):A:=h ⟨k⟩
theorem U5 {A B:Prop} (k:B) (h:Wr B→A:=by (intro q;iterate 5 refine stepQ ?_);exact q.w):A:=h ⟨k⟩
theorem U6 {A B:Prop} (k:B) (h:Wr B→A:=by (intro q;iterate 6 refine stepQ ?_);exact q.w):A:=h ⟨k⟩
theorem U7 {A B:Prop} (k:B) (h:Wr B→A:=by (intro q;iterate 7 refine stepQ ?_);exact q.w):A:=h ⟨k⟩
theorem U8 {A B:Prop} (k:B) (h:Wr B→A:=by (intro q;iterate 8 refine stepQ ?_);exact q.w):A:=h ⟨k⟩
theorem U9 {A B:Prop} (k:B) (h:Wr B→A:=by (intro q;iterate 9 refine stepQ ?_);exact q.w):A:=h ⟨k⟩
theorem U10 {A B:Prop} (k:B) (h:Wr B→A:=by (intro q;iterate 10 refine stepQ ?_);exact q.w):A:=h ⟨k⟩
theorem U11 {A B:Prop} (k:B) (h:Wr B→A:=by (intro q;iterate 11 refine stepQ ?_);exact q.w):A:=h ⟨k⟩
theorem U12 {A B:Prop} (k:B) (h:Wr B→A:=by (intro q;iterate 12 refine stepQ ?_);exact q.w):A:=h ⟨k⟩
theorem U13 {A B:Prop} (k:B) (h:Wr B→A:=by (intro q;iterate 13 refine stepQ ?_);exact q.w):A:=h ⟨k⟩
theorem U14 {A B:Prop} (k:B) (h:Wr B→A:=by (intro q;iterate 14 refine stepQ ?_);exact q.w):A:=h ⟨k⟩
theorem U15 {A B:Prop} (k:B) (h:Wr B→A:=by (intro q;iterate 15 refine stepQ ?_);exact q.w):A:=h ⟨k⟩
theorem U16 {A B:Prop} (k:B) (h:Wr B→A:=by (intro q;iterate 16 refine stepQ ?_);exact q.w):A:=h ⟨k⟩
theorem U17 {A B:Prop} (k:B) (h:Wr B→A:=by (intro q;iterate 17 refine stepQ ?_);exact q.w):A:=h ⟨k⟩
theorem U18 {A B:Prop} (k:B) (h:Wr B→A:=by (intro q;iterate 18 refine stepQ ?_);exact q.w):A:=h ⟨k⟩
theorem U19 {A B:Prop} (k:B) (h:Wr B→A:=by (intro q;iterate 19 refine stepQ ?_);exact q.w):A:=h ⟨k⟩
theorem U20 {A B:Prop} (k:B) (h:Wr B→A:=by (intro q;iterate 20 refine stepQ ?_);exact q.w):A:=h ⟨k⟩
theorem U21 {A B:Prop} (k:B) (h:Wr B→A:=by (intro q;iterate 21 refine stepQ ?_);exact q.w):A:=h ⟨k⟩
theorem U22 {A B:Prop} (k:B) (h:Wr B→A:=by (intro q;iterate 22 refine stepQ ?_);exact q.w):A:=h ⟨k⟩
theorem U23 {A B:Prop} (k:B) (h:Wr B→A:=by (intro q;iterate 23 refine stepQ ?_);exact q.w):A:=h ⟨k⟩
theorem U24 {A B:Prop} (k:B) (h:Wr B→A:=by (intro q;iterate 24 refine stepQ ?_);exact q.w):A:=h ⟨k⟩
theorem U25 {A B:Prop} (k:B) (h:Wr B→A:=by (intro q;iterate 25 refine stepQ ?_);exact q.w):A:=h ⟨k⟩
theorem U26 {A B:Prop} (k:B) (h:Wr B→A:=by (intro q;iterate 26 refine stepQ ?_);exact q.w):A:=h ⟨k⟩
theorem U27 {A B:Prop} (k:B) (h:Wr B→A:=by (intro q;iterate 27 refine stepQ ?_);exact q.w):A:=h ⟨k⟩
theorem U28 {A B:Prop} (k:B) (h:Wr B→A:=by (intro q;iterate 28 refine stepQ ?_);exact q.w):A:=h ⟨k⟩
theorem U29 {A B:Prop} (k:B) (h:Wr B→A:=by (intro q;iterate 29 refine stepQ ?_);exact q.w):A:=h ⟨k⟩
theorem U30 {A B:Prop} (k:B) (h:Wr B→A:=by (intro q;iterate 30 refine stepQ ?_);exact q.w):A:=h ⟨k⟩
theorem U31 {A B:Prop} (k:B) (h:Wr B→A:=by (intro q;iterate 31 refine stepQ ?_);exact q.w):A:=h ⟨k⟩
theorem U32 {A B:Prop} (k:B) (h:Wr B→A:=by (intro q;iterate 32 refine stepQ ?_);exact q.w):A:=h ⟨k⟩
theorem U33 {A B:Prop} (k:B) (h:Wr B→A:=by (intro q;iterate 33 refine stepQ ?_);exact q.w):A:=h ⟨k⟩
theorem U34 {A B:Prop} (k:B) (h:Wr B→A:=by (intro q;iterate 34 refine stepQ ?_);exact q.w):A:=h ⟨k⟩
theorem U35 {A B:Prop} (k:B) (h:Wr B→A:=by (intro q;iterate 35 refine stepQ ?_);exact q.w):A:=h ⟨k⟩
theorem U36 {A B:Prop} (k:B) (h:Wr B→A:=by (intro q;iterate 36 refine stepQ ?_);exact q.w):A:=h ⟨k⟩
theorem U37 {A B:Prop} (k:B) (h:Wr B→A:=by (intro q;iterate 37 refine stepQ ?_);exact q.w):A:=h ⟨k⟩
theorem U38 {A B:Prop} (k:B) (h:Wr B→A:=by (intro q;iterate 38 refine stepQ ?_);exact q.w):A:=h ⟨k⟩
theorem U39 {A B:Prop} (k:B) (h:Wr B→A:=by (intro q;iterate 39 refine stepQ ?_);exact q.w):A:=h ⟨k⟩
theorem U40 {A B:Prop} (k:B) (h:Wr B→A:=by (intro q;iterate 40 refine stepQ ?_);exact q.w):A:=h ⟨k⟩
theorem U41 {A B:Prop} (k:B) (h:Wr B→A:=by (intro q;iterate 41 refine stepQ ?_);exact q.w):A:=h ⟨k⟩
theorem U42 {A B:Prop} (k:B) (h:Wr B→A:=by (intro q;iterate 42 refine stepQ ?_);exact q.w):A:=h ⟨k⟩
theorem U43 {A B:Prop} (k:B) (h:Wr B→A:=by (intro q;iterate 43 refine stepQ ?_);exact q.w):A:=h ⟨k⟩
theorem U44 {A B:Prop} (k:B) (h:Wr B→A:=by (intro q;iterate 44 refine stepQ ?_);exact q.w):A:=h ⟨k⟩
theorem U45 {A B:Prop} (k:B) (h:Wr B→A:=by (intro q;iterate 45 refine stepQ ?_);exact q.w):A:=h ⟨k⟩
theorem U46 {A B:Prop} (k:B) (h:Wr B→A:=by (intro q;iterate 46 refine stepQ ?_);exact q.w):A:=h ⟨k⟩
theorem U47 {A B:Prop} (k:B) (h:Wr B→A:=by (intro q;iterate 47 refine stepQ ?_);exact q.w):A:=h ⟨k⟩
theorem U48 {A B:Prop} (k:B) (h:Wr B→A:=by (intro q;iterate 48 refine stepQ ?_);exact q.w):A:=h ⟨k⟩
theorem U49 {A B:Prop} (k:B) (h:Wr B→A:=by (intro q;iterate 49 refine stepQ ?_);exact q.w):A:=h ⟨k⟩
theorem U50 {A B:Prop} (k:B) (h:Wr B→A:=by (intro q;iterate 50 refine stepQ ?_);exact q.w):A:=h ⟨k⟩
theorem U51 {A B:Prop} (k:B) (h:Wr B→A:=by (intro q;iterate 51 refine stepQ ?_);exact q.w):A:=h ⟨k⟩
theorem U52 {A B:Prop} (k:B) (h:Wr B→A:=by (intro q;iterate 52 refine stepQ ?_);exact q.w):A:=h ⟨k⟩
theorem U53 {A B:Prop} (k:B) (h:Wr B→A:=by (intro q;iterate 53 refine stepQ ?_);exact q.w):A:=h ⟨k⟩
theorem U54 {A B:Prop} (k:B) (h:Wr B→A:=by (intro q;iterate 54 refine stepQ ?_);exact q.w):A:=h ⟨k⟩
theorem U55 {A B:Prop} (k:B) (h:Wr B→A:=by (intro q;iterate 55 refine stepQ ?_);exact q.w):A:=h ⟨k⟩
theorem U56 {A B:Prop} (k:B) (h:Wr B→A:=by (intro q;iterate 56 refine stepQ ?_);exact q.w):A:=h ⟨k⟩
theorem U57 {A B:Prop} (k:B) (h:Wr B→A:=by (intro q;iterate 57 refine stepQ ?_);exact q.w):A:=h ⟨k⟩
theorem U58 {A B:Prop} (k:B) (h:Wr B→A:=by (intro q;iterate 58 refine stepQ ?_);exact q.w):A:=h ⟨k⟩
theorem U59 {A B:Prop} (k:B) (h:Wr B→A:=by (intro q;iterate 59 refine stepQ ?_);exact q.w):A:=h ⟨k⟩
theorem U60 {A B:Prop} (k:B) (h:Wr B→A:=by (intro q;iterate 60 refine stepQ ?_);exact q.w):A:=h ⟨k⟩
theorem V0 {A:Prop} (h:A:=by repeat' (first|refine all_cons_true ?_ ?_|rfl|exact bytes_inUse|exact vals_inUse|exact mid_inUse rfl)):A:=h
theorem V1 {A:Prop} (h:A:=by repeat' (first|exact trivial|refine And.intro ⟨_,rfl,?_⟩ ?_|refine And.intro ⟨_,rfl⟩ ?_|rfl|exact Box.ren_bytes _ _ _ _|exact Box.ren_vals _ _ _ _|exact Box.ren_mid rfl)):A:=h
theorem V10 {A:Prop} (h:A:=by exact ⟨rfl,rfl,rfl,rfl,rfl,trivial⟩):A:=h
theorem V11 {A:Prop} (h:A:=by exact ⟨rfl,rfl,rfl,rfl,rfl,rfl,trivial⟩):A:=h
theorem V12 {A:Prop} (h:A:=by exact (.box rfl rfl (.box rfl rfl (.box rfl (Box.ren_bytes _ _ _ _) (.dead rfl .nil))))):A:=h
theorem V13 {A:Prop} (h:A:=by exact ⟨rfl,trivial⟩):A:=h
theorem V14 {A:Prop} (h:A:=by exact ⟨rfl,rfl,rfl,rfl,rfl,rfl,rfl,trivial⟩):A:=h
theorem V15 {A:Prop} (h:A:=by exact ⟨rfl,rfl,rfl,rfl,rfl,rfl,rfl,rfl,trivial⟩):A:=h
theorem V16 {A:Prop} (h:A:=by exact (all_cons_true (all_cons_true rfl (all_cons_true rfl rfl)) rfl)):A:=h
theorem V17 {A:Prop} (h:A:=by exact (And.intro ⟨_,rfl,rfl⟩ trivial)):A:=h
theorem V18 {A:Prop} (h:A:=by exact (.box rfl (Box.ren_vals _ _ _ _) .nil)):A:=h
theorem V19 {A:Prop} (h:A:=by exact (.box rfl rfl .nil)):A:=h
theorem V1A {A:Prop} (h:A:=by exact ⟨[_,_],⟨⟨_,_,rfl,rfl,rfl,.inl ⟨AggT.h,rfl⟩⟩,⟨_,_,rfl,rfl,rfl,.inl ⟨AggT.h,rfl⟩⟩,trivial⟩,rfl⟩):A:=h
theorem V1B {A:Prop} (h:A:=by exact ⟨rfl,rfl,rfl,rfl,rfl,rfl,rfl,rfl,rfl,trivial⟩):A:=h
theorem V1C {A:Prop} (h:A:=by exact ⟨[],⟨[_,_],⟨rfl,rfl,trivial⟩,rfl⟩,trivial,rfl,rfl⟩):A:=h
theorem V1D {A:Prop} (h:A:=by exact (.box rfl (Box.ren_vals _ _ _ _) (.box rfl (Box.ren_vals _ _ _ _) .nil))):A:=h
theorem V1E {A:Prop} (h:A:=by exact ⟨[_,_],⟨rfl,rfl,trivial⟩,rfl⟩):A:=h
theorem V1F {A:Prop} (h:A:=by repeat' (first|refine all_cons_true ?_ ?_|rfl|exact vals_inUse)):A:=h
theorem V2 {A:Prop} (h:A:=by exact rfl):A:=h
theorem V20 {A:Prop} (h:A:=by exact ⟨[],⟨[_],⟨rfl,trivial⟩,rfl⟩,⟨⟨_,rfl,rfl⟩,trivial⟩,rfl,rfl⟩):A:=h
theorem V21 {A:Prop} (h:A:=by simp):A:=h
theorem V22 {A:Prop} (h:A:=by rw [hlen];omega):A:=h
theorem V23 {A:Prop} (h:A:=by exact (.box rfl rfl (.box rfl rfl (.box rfl rfl .nil)))):A:=h
theorem V24 {A:Prop} (h:A:=by exact ⟨rfl,rfl,rfl,rfl,rfl,rfl,rfl,rfl,rfl,rfl,trivial⟩):A:=h
theorem V25 {A:Prop} (h:A:=by simp only [List.length_append,List.length_singleton];omega):A:=h
theorem V26 {A:Prop} (h:A:=by exact nl4 rfl rfl rfl rfl rfl):A:=h
theorem V27 {A:Prop} (h:A:=by exact (.box rfl rfl (.box rfl rfl .nil))):A:=h
theorem V28 {A:Prop} (h:A:=by exact nl3 rfl rfl rfl rfl):A:=h
theorem V29 {A:Prop} (h:A:=by rw [List.length_map];omega):A:=h
theorem V2A {A:Prop} (h:A:=by unfold R127;omega):A:=h
theorem V2B {A:Prop} (h:A:=by exact .nil):A:=h
theorem V2C {A:Prop} (h:A:=by exact wrap_u64 (by omega)):A:=h
theorem V2D {A:Prop} (h:A:=by have:=(wl hy);omega):A:=h
theorem V2E {A:Prop} (h:A:=by simpa using h):A:=h
theorem V2F {A:Prop} (h:A:=by show 0<2;omega):A:=h
theorem V3 {A:Prop} (h:A:=by omega):A:=h
theorem V30 {A:Prop} (h:A:=by exact ⟨rfl,rfl⟩):A:=h
theorem V31 {A:Prop} (h:A:=by rfl):A:=h
theorem V32 {A:Prop} (h:A:=by simp [Tr.flat,hy]):A:=h
theorem V33 {A:Prop} (h:A:=by simp [zv];omega):A:=h
theorem V34 {A:Prop} (h:A:=by rw [hc];decide):A:=h
theorem V4 {A:Prop} (h:A:=by exact ⟨[_,_],⟨⟨_,_,rfl,rfl,rfl,.inl ⟨AggT.h,rfl⟩⟩,rfl,trivial⟩,rfl⟩):A:=h
theorem V5 {A:Prop} (h:A:=by kernel_rfl):A:=h
theorem V6 {A:Prop} (h:A:=by exact ⟨[_],⟨rfl,trivial⟩,rfl⟩):A:=h
theorem V7 {A:Prop} (h:A:=by exact (by repeat' (first|refine all_cons_true ?_ ?_|rfl|exact bytes_inUse|exact vals_inUse|exact mid_inUse rfl))):A:=h
theorem V8 {A:Prop} (h:A:=by exact ⟨rfl,rfl,rfl,rfl,trivial⟩):A:=h
theorem V9 {A:Prop} (h:A:=by exact ⟨rfl,rfl,rfl,trivial⟩):A:=h
theorem VA {A:Prop} (h:A:=by decide):A:=h
theorem VB {A:Prop} (h:A:=by exact (all_cons_true (all_cons_true rfl (all_cons_true rfl rfl)) (all_cons_true (all_cons_true rfl rfl) (all_cons_true bytes_inUse rfl)))):A:=h
theorem VC {A:Prop} (h:A:=by exact trivial):A:=h
theorem VD {A:Prop} (h:A:=by exact (And.intro ⟨_,rfl,rfl⟩ (And.intro ⟨_,rfl,rfl⟩ (And.intro ⟨_,rfl,(Box.ren_bytes _ _ _ _)⟩ trivial)))):A:=h
theorem VE {A:Prop} (h:A:=by exact ⟨rfl,rfl,trivial⟩):A:=h
theorem VF {A:Prop} (h:A:=by exact ⟨[_],⟨⟨_,_,rfl,rfl,rfl,.inl ⟨AggT.h,rfl⟩⟩,trivial⟩,rfl⟩):A:=h
end Go.Lg
end
section
namespace Go.Lg
open Go Go.RowKit Go.ChangeShapes Go.WideShapes Go.Joins
section
variable {H:Type} {enc:TypeId×Value→H} {P:Program} {w:World}
theorem below_trodAll (hl:laidOutB P=true) {W W':World} (hb:Below W.heap.size W W'):∀ {ts:List TypeId} {vs:List Value} {ds:List (DataW H)} {ps:List MemPlace},
  (ts.all fun t=>P.readableRec t&&Nat.blt t P.types.size)=true→DataW.TrodAll enc P W 0 (fun _=>true) true ts vs ds ps→(∀ x∈ps,x.block<W.heap.size) →
  DataW.TrodAll enc P W' 0 (fun b=>decide (b<W.heap.size)) true ts vs ds ps
 | [],vs,ds,ps,_,h,_=>by
  obtain ⟨rfl,rfl,rfl⟩:=trodAll_nil h
  exact trodAll_mk0
 | t::ts,vs,ds,ps,ht,h,hlt=>by
  simp only [List.all_cons,Bool.and_eq_true,Nat.blt_eq] at ht
  obtain ⟨v,vs',d,ds',p,q,rfl,rfl,rfl,hd,hrest⟩:=trodAll_cons h
  have h1:=Below.trod hl ht.1.1 ht.1.2 hd hb (fun x hx=>hlt x (by simp [hx]))
  have h2:=below_trodAll hl hb (by simpa [Bool.and_eq_true,Nat.blt_eq] using ht.2) hrest (fun x hx=>hlt x (by simp [hx]))
  exact ⟨p,q,h1,h2,rfl⟩
def OneIn (X:Nat→Option Obj) (ad:Option Addr) (vs:List Value):Prop := ∀ i v,vs[i]? = some v→∃ (blk off:Nat) (arr:Array Value) (el:TypeId) (fr:Nat×Nat),ad=some ⟨blk,off,none⟩∧X blk=some (.cells arr el fr)∧arr[off+i]? = some v
theorem cell_at {a:Addr} {k:Nat} {c:Value} (hs:a.spot=none) (h:w.cell? (a.add k)=some c):∃ (arr:Array Value) (el:TypeId) (fr:Nat×Nat),w.heap[a.block]? = some (.cells arr el fr)∧arr[a.off+k]? = some c:=by
 obtain ⟨b,o,s⟩:=a
 simp only at hs
 subst hs
 rw [Addr.add_lit] at h
 unfold World.cell? at h
 split at h
 ·rename_i arr el fr he
  exact ⟨arr,el,fr,he,by simpa using h⟩
 ·cases h
theorem spot_none {a:Addr} {c:Value} (h:w.cell? (a.add 0)=some c):a.spot=none:=by
 have e1:a.add 0=a:=by unfold Addr.add;rw [if_pos rfl]
 rw [e1] at h
 unfold World.cell? at h
 split at h
 ·cases hs:a.spot with
  | none=>rfl
  | some _=>rw [hs] at h;simp at h
 ·cases h
theorem map_of {α β:Type} {f:β→α} {q:β→Prop}:∀ {vs:List α},(∀ u,u∈vs→∃ k,u=f k∧q k)→∃ ks:List β,vs=ks.map f∧∀ k,k∈ks→q k
 | [],_=>⟨[],rfl,fun k hk=>by simp at hk⟩
 | v::vs,h=>by
  obtain ⟨k,rfl,hq⟩:=h v (by simp)
  obtain ⟨ks,rfl,hqs⟩:=map_of (vs:=vs) (fun u hu=>h u (by simp [hu]))
  refine ⟨k::ks,rfl,fun j hj => ?_⟩
  rcases List.mem_cons.1 hj with rfl|h2
  ·exact hq
  ·exact hqs j h2
end
theorem rel_args:∀ (vals:List Value),LVs.rel noS (fun _=>(0,0)) (vals.map toLV) vals
 | []=>trivial
 | v::vs=>⟨toLV_rel _ _ v,rel_args vs⟩
theorem law_calls {P:Program} {f:FuncId} {W:World} (vals:List Value) (hp:PSpec P (fun b=>W.heap[b]?) f (vals.map toLV) (.sv (.one (.val (.bool true))))):
  Calls P f vals.toArray W (fun e W'=>e = .returned (.bool true)∧Below W.heap.size W W'):=by
 refine (hp.out W vals.toArray (fun _ _ h=>h) (by simpa using rel_args vals)).mono ?_
 rintro e W' ⟨v,rfl,hr,hb⟩
 simp only [LV.rel,SV.rel,CV.rel] at hr
 exact ⟨by rw [hr],hb⟩
end Go.Lg
end
section
namespace Go.Lg
open Go Go.RowKit
theorem O.{u} {α : Sort u} {a : α} : a = a := rfl
abbrev dS := @Want.plain
abbrev dT := @Want.taken
abbrev aA := @LWP.seq
abbrev aS := @K.gtr
abbrev aT := @K.build
abbrev aU := @K.callM
abbrev aX := @K.neq
abbrev aZ := @K.buildSlc
abbrev bA := @K.sub
abbrev bB := @K.indexStr
abbrev bC := @K.eql
abbrev bD := @K.geq
abbrev bE := @K.callMp
abbrev bG := @K.storeOne
abbrev bI := @K.nilCheck
abbrev bJ := @K.loadPart
abbrev bK := @K.lss
abbrev bL := @K.mul
abbrev bM := @K.strAdd
abbrev bN := @K.sliceStr
abbrev bO := @K.shr
abbrev bQ := @K.appendSlc
abbrev bR := @K.aggEq
abbrev bS := @K.convStr
abbrev bT := @all_cons_true
abbrev bU := @vals_inUse
abbrev bY := @Box.ren_vals
abbrev cC := @SliceT.h
abbrev cD := @Leads.done
abbrev cE := @Leads.le
abbrev cF := @PSpec.intro
abbrev cG := @MSpec.intro
abbrev cH := @wrap_i64
abbrev cJ := @withBlock_old
abbrev cL := @LWP.loop
abbrev cM := @LWP.loopL
abbrev cN := @withBlock_at
abbrev cO := @decide_eq_false
abbrev cP := @decide_eq_true
abbrev cR := @And.intro
theorem cS {α : Type} [BEq α] [LawfulBEq α] {x y : α} (h : x ≠ y) : (x == y) = false := beq_eq_false_iff_ne.2 h
theorem cT {α : Type} [BEq α] [LawfulBEq α] {x y : α} (h : x = y) : (x != y) = false := bne_eq_false_iff_eq.2 h
theorem cU {α : Type} [BEq α] [LawfulBEq α] {x y : α} (h : x ≠ y) : (x != y) = true := bne_iff_ne.2 h
theorem cV {α : Type} [BEq α] [LawfulBEq α] {x y : α} (h : x = y) : (x == y) = true := beq_iff_eq.2 h
abbrev cW := @List.length_append
abbrev cX := @List.length_map
abbrev cY := @List.getElem?_eq_getElem
abbrev cZ := @List.length_singleton
abbrev dA := @List.length_take
abbrev dC := @List.length_drop
abbrev dE := @List.mem_of_getElem?
abbrev dF := @List.length_replicate
abbrev dG := @List.take_length
abbrev dH := @Int.toNat_natCast
abbrev dI := @List.map_append
abbrev dJ := @List.length_cons
abbrev dK := @List.append_nil
abbrev dM := @List.getElem?_map
abbrev dN := @List.append_assoc
abbrev dO := @Nat.le_refl
abbrev dP := @List.length_nil
abbrev dR := @List.getElem?_append_left
end Go.Lg
end
section
namespace Go.Lg
open Go Go.RowKit Go.ChangeShapes Go.WideShapes Go.Joins
section
variable {H:Type} {enc:TypeId×Value→H} {P:Program} {w:World}
theorem cells_row {a:Addr} {sz:Nat} {cs:List Value} (hs:a.spot=none) (hsz:1≤sz) {i:Nat} (hl:cs.length=sz) (h:∀ j,j<sz→w.cell? ((a.add (i*sz)).add j)=cs[j]?):
  ∃ (arr:Array Value) (el:TypeId) (fr:Nat×Nat),w.heap[a.block]? = some (.cells arr el fr)∧a.off+i*sz+sz≤arr.size∧(arr.toList.drop (a.off+i*sz)).take sz=cs:=by
 obtain ⟨b,o,sp⟩:=a
 simp only at hs
 subst hs
 have h2:∀ j,j<sz→∃ u,cs[j]? = some u∧w.cell? ((⟨b,o,none⟩:Addr).add (i*sz+j))=some u:=fun j hj=>by
  have h3:=h j hj
  rw [Deep.add_add] at h3
  rw [List.getElem?_eq_getElem (by omega)] at h3
  exact ⟨_,List.getElem?_eq_getElem (by omega),h3⟩
 obtain ⟨u0,_,h0⟩:=h2 0 (by omega)
 obtain ⟨arr,el,fr,hh,_⟩:=cell_at (a:=⟨b,o,none⟩) rfl h0
 have hall:∀ j,j<sz→arr[o+(i*sz+j)]? = cs[j]? := fun j hj=>by
  obtain ⟨u,hu,hc⟩:=h2 j hj
  obtain ⟨arr',el',fr',hh',hc'⟩:=cell_at (a:=⟨b,o,none⟩) rfl hc
  rw [hh] at hh'
  cases hh'
  rw [hu];exact hc'
 have hlast:o+(i*sz+(sz-1))<arr.size:=by
  have h3:=hall (sz-1) (by omega)
  rw [List.getElem?_eq_getElem (by omega)] at h3
  exact (Array.getElem?_eq_some_iff.1 h3).1
 refine ⟨arr,el,fr,hh,by show o+i*sz+sz≤arr.size;omega,?_⟩
 apply List.ext_getElem?
 intro j
 rw [List.getElem?_take]
 by_cases hj:j<sz
 ·rw [if_pos hj,List.getElem?_drop,Array.getElem?_toList,← hall j hj]
  show arr[o+i*sz+j]? = _
  rw [Nat.add_assoc]
 ·rw [if_neg hj,List.getElem?_eq_none (by omega)]
end
end Go.Lg
end
section
namespace Go.Lg
open Go Go.RowKit Go.ChangeShapes Go.WideShapes Go.Joins
section
variable {H:Type} {enc:TypeId×Value→H} {P:Program} {w:World}
def Light (P:Program) (t:TypeId) (d:DataW H):Prop := ∀ n∈d.weights P t,n≤reachBytes
theorem Light.all {P:Program} {e:TypeId}:∀ {l:List (DataW H)},(∀ n∈DataW.weightsAll P e l,n≤reachBytes)→∀ d∈l,Light P e d
 | x::t,h,d,hd=>by
  simp only [DataW.weightsAll,List.mem_append] at h
  rcases List.mem_cons.1 hd with rfl|hd
  ·exact fun n hn=>h n (.inl hn)
  ·exact Light.all (fun n hn=>h n (.inr hn)) d hd
 | [],_,d,hd=>by cases hd
theorem Light.slice {P:Program} {t e:TypeId} {elems spare:List (DataW H)} (ht:P.underlying t=some (.slice e)) (h:Light P t (.slice elems spare)):(elems.length+spare.length)*P.bytesOf e≤reachBytes∧∀ d∈elems,Light P e d:=by
 unfold Light at h
 simp only [DataW.weights,ht,List.mem_cons,List.mem_append] at h
 exact ⟨h _ (.inl rfl),Light.all fun n hn=>h n (.inr (.inl hn))⟩
theorem Light.struct2 {P:Program} {t:TypeId} {f0 f1:Field} {a b:DataW H} (ht:P.underlying t=some (.struct #[f0,f1])) (h:Light P t (.agg [a,b])):Light P f0.type a∧Light P f1.type b:=by
 unfold Light at h
 simp only [DataW.weights,ht,List.map_cons,List.map_nil,DataW.weightsEach,List.append_nil,List.mem_append] at h
 exact ⟨fun n hn=>h n (.inl hn),fun n hn=>h n (.inr hn)⟩
theorem Light.struct3 {P:Program} {t:TypeId} {f0 f1 f2:Field} {a b c:DataW H} (ht:P.underlying t=some (.struct #[f0,f1,f2])) (h:Light P t (.agg [a,b,c])):Light P f0.type a∧Light P f1.type b∧Light P f2.type c:=by
 unfold Light at h
 simp only [DataW.weights,ht,List.map_cons,List.map_nil,DataW.weightsEach,List.append_nil,List.mem_append] at h
 exact ⟨fun n hn=>h n (.inl hn),fun n hn=>h n (.inr (.inl hn)),fun n hn=>h n (.inr (.inr hn))⟩
theorem Light.arg {ts:List TypeId} {ds:List (DataW H)} (h:(DataW.weightsEach P ts ds).all (· ≤ reachBytes)=true) {j:Nat} {t:TypeId} {d:DataW H} (ht:ts[j]? = some t) (hd:ds[j]? = some d):Light P t d:=fun n hn=>by
 have:=List.all_eq_true.1 h n (DataW.weights_mem_each ht hd n hn)
 simpa using this
theorem open_rows_w {t e:TypeId} {sz fuel:Nat} {l:List Value} {x:DataW H×List MemPlace} (ht:P.underlying t=some (.slice e)) (hc:P.cellsOf e=sz) (hsz:1≤sz) (hf:DataW.trod enc P w 0 (fun _=>true) true fuel t l=some x) (hw:Light P t x.1):
  ∃ (ad:Option Addr) (cap:Nat) (rows:List (List Value)),l=[.slice ad rows.length cap]∧rows.length*P.bytesOf e≤reachBytes∧rows.length≤cap∧cap≤maxLen∧RowsIn (fun b=>w.heap[b]?) ad sz rows ∧
   ∀ u,u∈rows→u.length=sz∧∃ (n:Nat) (x:DataW H×List MemPlace),DataW.trod enc P w 0 (fun _=>true) true n e u=some x∧Light P e x.1:=by
 rcases Deep.open_slice ht hf with ⟨h0,_⟩|⟨a',len',cap',m,n,D,Pl,h0,hb,hl,hm,hmm,hd,hx⟩
 ·exact ⟨none,0,[],h0,by simp,Nat.le_refl _,Nat.zero_le _,fun i r h=>by simp at h,fun u hu=>by simp at hu⟩
 ·rw [if_pos rfl] at hmm
  subst hmm
  rw [hd] at hw
  obtain ⟨hw1,hw2⟩:=Light.slice ht hw
  rw [hc] at hx
  have hch:∃ f:Nat→List Value,∀ i,i<m→w.cells? 0 (a'.add (i*sz)) sz=some (f i)∧DataW.trod enc P w 0 (fun _=>true) true n e (f i)=some (D i,Pl i):=by
   refine ⟨fun i=>if hi:i<m then (hx i hi).choose else [],fun i hi => ?_⟩
   simp only [dif_pos hi]
   exact (hx i hi).choose_spec
  obtain ⟨f,hf2⟩:=hch
  have hlen:((List.range len').map f).length=len':=by rw [List.length_map,List.length_range]
  refine ⟨some a',m,(List.range len').map f,by rw [hlen];exact h0,?_,by rw [hlen];exact hl,hm,?_,?_⟩
  ·rw [hlen]
   rw [List.length_map,List.length_range] at hw1
   exact Nat.le_trans (Nat.mul_le_mul_right _ (Nat.le_add_right _ _)) hw1
  ·intro i u hi
   have hi2:i<len':=by
    have:=(List.getElem?_eq_some_iff.1 hi).1
    simpa using this
   have e:u=f i:=by
    rw [List.getElem?_map,List.getElem?_range hi2] at hi
    simpa using hi.symm
   subst e
   have hspot:a'.spot=none:=by
    obtain ⟨h1,_⟩:=hf2 0 (by omega)
    obtain ⟨_,hlen,hcell⟩:=World.cells?_some h1
    have e0:=hcell 0 (by omega)
    rw [Deep.add_add,Nat.zero_mul,Nat.zero_add] at e0
    rw [List.getElem?_eq_getElem (by omega)] at e0
    exact spot_none e0
   obtain ⟨h1,_⟩:=hf2 i (by omega)
   obtain ⟨_,hlen,hcell⟩:=World.cells?_some h1
   obtain ⟨arr,el,fr,hh,hsz2,htk⟩:=cells_row hspot hsz hlen hcell
   refine ⟨a'.block,a'.off,arr,el,fr,?_,hh,hsz2,htk⟩
   obtain ⟨b,o,sp⟩:=a'
   simp only at hspot
   subst hspot
   rfl
  ·intro u hu
   obtain ⟨i,hi,rfl⟩:=List.mem_map.1 hu
   have hi:=List.mem_range.1 hi
   obtain ⟨h1,h2⟩:=hf2 i (by omega)
   exact ⟨(World.cells?_some h1).2.1,n,_,h2,hw2 _ (List.mem_map.2 ⟨i,List.mem_range.2 hi,rfl⟩)⟩
end
end Go.Lg
end
section
set_option maxHeartbeats 12800000
set_option maxRecDepth 100000
namespace Go.Proofs.YtopiioklkkiedaaGreatDoor
open Go Go.Lg
theorem mixed:Tryz.prog.follows .mixedOrders=true:=by kernel_rfl
instance:OneT Tryz.prog 3:=⟨by kernel_rfl⟩
instance:IntT Tryz.prog 3 .i64:=⟨by kernel_rfl⟩
instance:OneT Tryz.prog 4:=⟨by kernel_rfl⟩
instance:BoolT Tryz.prog 4:=⟨by kernel_rfl⟩
instance:OneT Tryz.prog 5:=⟨by kernel_rfl⟩
instance:IntT Tryz.prog 5 .u8:=⟨by kernel_rfl⟩
instance:OneT Tryz.prog 9:=⟨by kernel_rfl⟩
instance:StrT Tryz.prog 9:=⟨by kernel_rfl⟩
instance:OneT Tryz.prog 22:=⟨by kernel_rfl⟩
instance:SliceT Tryz.prog 22 3:=⟨by kernel_rfl⟩
instance:ZeroT Tryz.prog 24 [(.val (.int .i64 0)),(.val (.string ⟨#[]⟩)),(.val (.slice none 0 0))]:=⟨by kernel_rfl⟩
instance:AggT Tryz.prog 24 3:=⟨by kernel_rfl⟩
instance:FieldT Tryz.prog 24 0 0 0:=⟨by kernel_rfl⟩
instance:FieldT Tryz.prog 24 1 1 0:=⟨by kernel_rfl⟩
instance:FieldT Tryz.prog 24 2 2 0:=⟨by kernel_rfl⟩
instance:StructT Tryz.prog 24 [(.int .i64 0),(.string ⟨#[]⟩),(.slice none 0 0)] [(0,1),(1,1),(2,1)]:=⟨by kernel_rfl⟩
instance:OneT Tryz.prog 25:=⟨by kernel_rfl⟩
instance:SliceT Tryz.prog 25 1:=⟨by kernel_rfl⟩
instance:ZeroT Tryz.prog 27 [(.val (.int .i64 0)),(.val (.int .i64 0)),(.val (.slice none 0 0))]:=⟨by kernel_rfl⟩
instance:AggT Tryz.prog 27 3:=⟨by kernel_rfl⟩
instance:FieldT Tryz.prog 27 0 0 0:=⟨by kernel_rfl⟩
instance:FieldT Tryz.prog 27 1 1 0:=⟨by kernel_rfl⟩
instance:FieldT Tryz.prog 27 2 2 0:=⟨by kernel_rfl⟩
instance:StructT Tryz.prog 27 [(.int .i64 0),(.int .i64 0),(.slice none 0 0)] [(0,1),(1,1),(2,1)]:=⟨by kernel_rfl⟩
instance:OneT Tryz.prog 28:=⟨by kernel_rfl⟩
instance:SliceT Tryz.prog 28 3:=⟨by kernel_rfl⟩
instance:OneT Tryz.prog 31:=⟨by kernel_rfl⟩
instance:SliceT Tryz.prog 31 3:=⟨by kernel_rfl⟩
instance:AggT Tryz.prog 33 2:=⟨by kernel_rfl⟩
instance:FieldT Tryz.prog 33 0 0 0:=⟨by kernel_rfl⟩
instance:FieldT Tryz.prog 33 1 1 0:=⟨by kernel_rfl⟩
instance:OneT Tryz.prog 34:=⟨by kernel_rfl⟩
instance:SliceT Tryz.prog 34 3:=⟨by kernel_rfl⟩
instance:AggT Tryz.prog 36 3:=⟨by kernel_rfl⟩
instance:FieldT Tryz.prog 36 0 0 0:=⟨by kernel_rfl⟩
instance:FieldT Tryz.prog 36 1 1 0:=⟨by kernel_rfl⟩
instance:FieldT Tryz.prog 36 2 2 0:=⟨by kernel_rfl⟩
instance:StructT Tryz.prog 36 [(.int .i64 0),(.int .i64 0),(.slice none 0 0)] [(0,1),(1,1),(2,1)]:=⟨by kernel_rfl⟩
instance:OneT Tryz.prog 37:=⟨by kernel_rfl⟩
instance:SliceT Tryz.prog 37 1:=⟨by kernel_rfl⟩
instance:ZeroT Tryz.prog 39 [(.val (.int .i64 0)),(.val (.int .i64 0)),(.val (.slice none 0 0))]:=⟨by kernel_rfl⟩
instance:AggT Tryz.prog 39 3:=⟨by kernel_rfl⟩
instance:FieldT Tryz.prog 39 0 0 0:=⟨by kernel_rfl⟩
instance:FieldT Tryz.prog 39 1 1 0:=⟨by kernel_rfl⟩
instance:FieldT Tryz.prog 39 2 2 0:=⟨by kernel_rfl⟩
instance:StructT Tryz.prog 39 [(.int .i64 0),(.int .i64 0),(.slice none 0 0)] [(0,1),(1,1),(2,1)]:=⟨by kernel_rfl⟩
instance:OneT Tryz.prog 40:=⟨by kernel_rfl⟩
instance:SliceT Tryz.prog 40 3:=⟨by kernel_rfl⟩
instance:ZeroT Tryz.prog 42 [(.val (.int .i64 0)),(.val (.int .i64 0)),(.val (.slice none 0 0))]:=⟨by kernel_rfl⟩
instance:AggT Tryz.prog 42 3:=⟨by kernel_rfl⟩
instance:FieldT Tryz.prog 42 0 0 0:=⟨by kernel_rfl⟩
instance:FieldT Tryz.prog 42 1 1 0:=⟨by kernel_rfl⟩
instance:FieldT Tryz.prog 42 2 2 0:=⟨by kernel_rfl⟩
instance:StructT Tryz.prog 42 [(.int .i64 0),(.int .i64 0),(.slice none 0 0)] [(0,1),(1,1),(2,1)]:=⟨by kernel_rfl⟩
instance:SliceT Tryz.prog 56 2:=⟨by kernel_rfl⟩
instance:ZeroT Tryz.prog 59 [(.val (.int .i64 0)),(.val (.slice none 0 0))]:=⟨by kernel_rfl⟩
instance:AggT Tryz.prog 59 2:=⟨by kernel_rfl⟩
instance:FieldT Tryz.prog 59 0 0 0:=⟨by kernel_rfl⟩
instance:FieldT Tryz.prog 59 1 1 0:=⟨by kernel_rfl⟩
instance:StructT Tryz.prog 59 [(.int .i64 0),(.slice none 0 0)] [(0,1),(1,1)]:=⟨by kernel_rfl⟩
instance:IntT Tryz.prog 73 .u64:=⟨by kernel_rfl⟩
instance:OneT Tryz.prog 81:=⟨by kernel_rfl⟩
instance:ZeroT Tryz.prog 83 [(.val (.string ⟨#[]⟩)),(.val (.int .i64 0)),(.val (.int .i64 0))]:=⟨by kernel_rfl⟩
instance:AggT Tryz.prog 83 3:=⟨by kernel_rfl⟩
instance:FieldT Tryz.prog 83 0 0 0:=⟨by kernel_rfl⟩
instance:FieldT Tryz.prog 83 1 1 0:=⟨by kernel_rfl⟩
instance:FieldT Tryz.prog 83 2 2 0:=⟨by kernel_rfl⟩
instance:StructT Tryz.prog 83 [(.string ⟨#[]⟩),(.int .i64 0),(.int .i64 0)] [(0,1),(1,1),(2,1)]:=⟨by kernel_rfl⟩
instance:OneT Tryz.prog 84:=⟨by kernel_rfl⟩
instance:IntT Tryz.prog 84 .u64:=⟨by kernel_rfl⟩
instance:ZeroT Tryz.prog 86 [(.val (.bool false)),(.val (.int .u64 0)),(.val (.int .u64 0))]:=⟨by kernel_rfl⟩
instance:AggT Tryz.prog 86 3:=⟨by kernel_rfl⟩
instance:FieldT Tryz.prog 86 0 0 0:=⟨by kernel_rfl⟩
instance:FieldT Tryz.prog 86 1 1 0:=⟨by kernel_rfl⟩
instance:FieldT Tryz.prog 86 2 2 0:=⟨by kernel_rfl⟩
instance:StructT Tryz.prog 86 [(.bool false),(.int .u64 0),(.int .u64 0)] [(0,1),(1,1),(2,1)]:=⟨by kernel_rfl⟩
instance:ZeroT Tryz.prog 88 [(.val (.int .i64 0)),(.val (.int .i64 0)),(.val (.int .i64 0)),(.val (.bool false)),(.val (.int .u64 0)),(.val (.int .u64 0))]:=⟨by kernel_rfl⟩
instance:AggT Tryz.prog 88 6:=⟨by kernel_rfl⟩
instance:FieldT Tryz.prog 88 0 0 0:=⟨by kernel_rfl⟩
instance:FieldT Tryz.prog 88 1 1 0:=⟨by kernel_rfl⟩
instance:FieldT Tryz.prog 88 2 2 0:=⟨by kernel_rfl⟩
instance:FieldT Tryz.prog 88 3 3 2:=⟨by kernel_rfl⟩
instance:StructT Tryz.prog 88 [(.int .i64 0),(.int .i64 0),(.int .i64 0),(.bool false),(.int .u64 0),(.int .u64 0)] [(0,1),(1,1),(2,1),(3,3)]:=⟨by kernel_rfl⟩
instance:SliceT Tryz.prog 90 6:=⟨by kernel_rfl⟩
instance:SliceT Tryz.prog 91 6:=⟨by kernel_rfl⟩
instance:ZeroT Tryz.prog 92 [(.val (.int .i64 0)),(.val (.int .i64 0)),(.val (.int .i64 0)),(.val (.bool false)),(.val (.int .u64 0)),(.val (.int .u64 0))]:=⟨by kernel_rfl⟩
instance:AggT Tryz.prog 92 6:=⟨by kernel_rfl⟩
instance:FieldT Tryz.prog 92 0 0 0:=⟨by kernel_rfl⟩
instance:FieldT Tryz.prog 92 1 1 0:=⟨by kernel_rfl⟩
instance:FieldT Tryz.prog 92 2 2 0:=⟨by kernel_rfl⟩
instance:FieldT Tryz.prog 92 3 3 2:=⟨by kernel_rfl⟩
instance:StructT Tryz.prog 92 [(.int .i64 0),(.int .i64 0),(.int .i64 0),(.bool false),(.int .u64 0),(.int .u64 0)] [(0,1),(1,1),(2,1),(3,3)]:=⟨by kernel_rfl⟩
instance:OneT Tryz.prog 94:=⟨by kernel_rfl⟩
instance:SliceT Tryz.prog 94 1:=⟨by kernel_rfl⟩
instance:AggT Tryz.prog 100 2:=⟨by kernel_rfl⟩
instance:FieldT Tryz.prog 100 0 0 0:=⟨by kernel_rfl⟩
instance:FieldT Tryz.prog 100 1 1 0:=⟨by kernel_rfl⟩
instance:StructT Tryz.prog 100 [(.slice none 0 0),(.int .i64 0)] [(0,1),(1,1)]:=⟨by kernel_rfl⟩
instance:SliceT Tryz.prog 102 2:=⟨by kernel_rfl⟩
instance:ZeroT Tryz.prog 103 [(.val (.slice none 0 0))]:=⟨by kernel_rfl⟩
instance:OneT Tryz.prog 103:=⟨by kernel_rfl⟩
instance:SliceT Tryz.prog 103 1:=⟨by kernel_rfl⟩
instance:FieldT Tryz.prog 114 0 0 0:=⟨by kernel_rfl⟩
instance:StructT Tryz.prog 114 [(.int .i64 0),(.int .i64 0)] [(0,1),(1,1)]:=⟨by kernel_rfl⟩
instance:OneT Tryz.prog 117:=⟨by kernel_rfl⟩
instance:SliceT Tryz.prog 117 1:=⟨by kernel_rfl⟩
instance:ZeroT Tryz.prog 132 []:=⟨by kernel_rfl⟩
instance:AggT Tryz.prog 132 0:=⟨by kernel_rfl⟩
instance:StructT Tryz.prog 132 [] []:=⟨by kernel_rfl⟩
instance:ZeroT Tryz.prog 155 [(.val (.int .i64 0)),(.val (.slice none 0 0))]:=⟨by kernel_rfl⟩
instance:AggT Tryz.prog 155 2:=⟨by kernel_rfl⟩
instance:FieldT Tryz.prog 155 0 0 0:=⟨by kernel_rfl⟩
instance:FieldT Tryz.prog 155 1 1 0:=⟨by kernel_rfl⟩
instance:StructT Tryz.prog 155 [(.int .i64 0),(.slice none 0 0)] [(0,1),(1,1)]:=⟨by kernel_rfl⟩
instance:SliceT Tryz.prog 158 2:=⟨by kernel_rfl⟩
instance:ZeroT Tryz.prog 161 [(.val (.int .i64 0)),(.val (.int .i64 0))]:=⟨by kernel_rfl⟩
instance:AggT Tryz.prog 161 2:=⟨by kernel_rfl⟩
instance:FieldT Tryz.prog 161 0 0 0:=⟨by kernel_rfl⟩
instance:FieldT Tryz.prog 161 1 1 0:=⟨by kernel_rfl⟩
instance:StructT Tryz.prog 161 [(.int .i64 0),(.int .i64 0)] [(0,1),(1,1)]:=⟨by kernel_rfl⟩
instance:ZeroT Tryz.prog 164 [(.val (.int .i64 0)),(.val (.int .i64 0)),(.val (.int .i64 0)),(.val (.int .i64 0)),(.val (.int .i64 0)),(.val (.int .i64 0)),(.val (.int .i64 0)),(.val (.int .i64 0)),(.val (.int .i64 0)),(.val (.int .i64 0)),(.val (.int .i64 0))]:=⟨by kernel_rfl⟩
instance:AggT Tryz.prog 164 11:=⟨by kernel_rfl⟩
instance:ArrT Tryz.prog 164 11 1:=⟨by kernel_rfl⟩
instance:SliceT Tryz.prog 181 6:=⟨by kernel_rfl⟩
instance:AggT Tryz.prog 186 3:=⟨by kernel_rfl⟩
instance:FieldT Tryz.prog 186 0 0 0:=⟨by kernel_rfl⟩
instance:FieldT Tryz.prog 186 1 1 0:=⟨by kernel_rfl⟩
instance:FieldT Tryz.prog 186 2 2 0:=⟨by kernel_rfl⟩
instance:StructT Tryz.prog 186 [(.bool false),(.bool false),(.bool false)] [(0,1),(1,1),(2,1)]:=⟨by kernel_rfl⟩
instance:OneT Tryz.prog 188:=⟨by kernel_rfl⟩
instance:ZeroT Tryz.prog 190 [(.val (.string ⟨#[]⟩)),(.val (.int .i64 0)),(.val (.bool false)),(.val (.bool false)),(.val (.bool false)),(.val (.nilFunc))]:=⟨by kernel_rfl⟩
instance:AggT Tryz.prog 190 6:=⟨by kernel_rfl⟩
instance:FieldT Tryz.prog 190 1 1 0:=⟨by kernel_rfl⟩
instance:FieldT Tryz.prog 190 2 2 2:=⟨by kernel_rfl⟩
instance:FieldT Tryz.prog 190 3 5 0:=⟨by kernel_rfl⟩
instance:StructT Tryz.prog 190 [(.string ⟨#[]⟩),(.int .i64 0),(.bool false),(.bool false),(.bool false),(.nilFunc)] [(0,1),(1,1),(2,3),(5,1)]:=⟨by kernel_rfl⟩
instance:ZeroT Tryz.prog 198 [(.val (.int .u64 0)),(.val (.int .u64 0)),(.val (.int .u64 0)),(.val (.int .u64 0)),(.val (.int .u64 0)),(.val (.int .u64 0)),(.val (.int .u64 0)),(.val (.int .u64 0)),(.val (.int .u64 0)),(.val (.int .u64 0)),(.val (.int .u64 0))]:=⟨by kernel_rfl⟩
instance:AggT Tryz.prog 198 11:=⟨by kernel_rfl⟩
instance:ArrT Tryz.prog 198 11 1:=⟨by kernel_rfl⟩
instance:ArrT Tryz.prog 200 40 1:=⟨by kernel_rfl⟩
instance:ZeroT Tryz.prog 202 ([(.val (.bool false))]++List.replicate 40 (.val (.int .i64 0))):=⟨by kernel_rfl⟩
instance:AggT Tryz.prog 202 41:=⟨by kernel_rfl⟩
instance:FieldT Tryz.prog 202 0 0 0:=⟨by kernel_rfl⟩
instance:FieldT Tryz.prog 202 1 1 39:=⟨by kernel_rfl⟩
instance:StructT Tryz.prog 202 ([(.bool false)]++List.replicate 40 (.int .i64 0)) [(0,1),(1,40)]:=⟨by kernel_rfl⟩
instance:OneT Tryz.prog 212:=⟨by kernel_rfl⟩
instance:FieldT Tryz.prog 214 0 0 0:=⟨by kernel_rfl⟩
instance:FieldT Tryz.prog 214 1 1 0:=⟨by kernel_rfl⟩
instance:StructT Tryz.prog 214 [(.pointer none),(.int .i64 0)] [(0,1),(1,1)]:=⟨by kernel_rfl⟩
instance:ZeroT Tryz.prog 237 [(.val (.int .u64 0)),(.val (.int .u64 0))]:=⟨by kernel_rfl⟩
instance:AggT Tryz.prog 237 2:=⟨by kernel_rfl⟩
instance:FieldT Tryz.prog 237 0 0 0:=⟨by kernel_rfl⟩
instance:FieldT Tryz.prog 237 1 1 0:=⟨by kernel_rfl⟩
instance:StructT Tryz.prog 237 [(.int .u64 0),(.int .u64 0)] [(0,1),(1,1)]:=⟨by kernel_rfl⟩
instance:ZeroT Tryz.prog 240 (List.replicate 18 (.val (.int .i64 0))):=⟨by kernel_rfl⟩
instance:AggT Tryz.prog 240 18:=⟨by kernel_rfl⟩
instance:ArrT Tryz.prog 240 18 1:=⟨by kernel_rfl⟩
instance:ZeroT Tryz.prog 245 [(.val (.string ⟨#[]⟩)),(.val (.int .i64 0)),(.val (.int .u64 0)),(.val (.int .u64 0))]:=⟨by kernel_rfl⟩
instance:AggT Tryz.prog 245 4:=⟨by kernel_rfl⟩
instance:StructT Tryz.prog 245 [(.string ⟨#[]⟩),(.int .i64 0),(.int .u64 0),(.int .u64 0)] [(0,1),(1,1),(2,1),(3,1)]:=⟨by kernel_rfl⟩
instance:FieldT Tryz.prog 248 0 0 0:=⟨by kernel_rfl⟩
instance:FieldT Tryz.prog 248 1 1 0:=⟨by kernel_rfl⟩
instance:StructT Tryz.prog 248 [(.string ⟨#[]⟩),(.bool false)] [(0,1),(1,1)]:=⟨by kernel_rfl⟩
instance:FieldT Tryz.prog 262 0 0 0:=⟨by kernel_rfl⟩
instance:StructT Tryz.prog 262 [(.slice none 0 0)] [(0,1)]:=⟨by kernel_rfl⟩
end Go.Proofs.YtopiioklkkiedaaGreatDoor
end
section
set_option maxHeartbeats 12800000
set_option maxRecDepth 100000
namespace Go.Lg
open Go Go.RowKit
theorem strs_eq {p q:ByteArray} {r:Bool} (h:(p.data.toList==q.data.toList)=r):(p.toList==q.toList)=r:=by rw [ByteArray.toList_eq,ByteArray.toList_eq,h]
theorem str_at {l:List UInt8} {i:Nat} {b:UInt8} (h:l[i]? = some b):(⟨l.toArray⟩:ByteArray)[i]? = some b:=by
 obtain ⟨hi,h⟩:=List.getElem?_eq_some_iff.1 h
 have hs:i<(⟨l.toArray⟩:ByteArray).size:=by simpa [ByteArray.size] using hi
 rw [getElem?_pos _ i hs]
 exact congrArg some h
theorem str_add (a b:List UInt8):(⟨a.toArray⟩:ByteArray)++⟨b.toArray⟩=⟨(a++b).toArray⟩:=by
 apply ByteArray.ext
 rw [ByteArray.data_append]
 simp
theorem str_cut (l:List UInt8) (a b:Nat):(⟨l.toArray⟩:ByteArray).extract a b=⟨((l.drop a).take (b-a)).toArray⟩:=by
 apply ByteArray.ext
 apply Array.ext'
 rw [Lib.extract_data]
theorem ev_bool {b c:Bool} (h:b=c):some (LV.sv (.one (.val (.bool b))))=some (LV.sv (.one (.val (.bool c)))):=by rw [h]
end Go.Lg
namespace Go.Proofs.YtopiioklkkiedaaGreatDoor
open Go Go.Lg
abbrev Lb (b:Bool):LV:=.sv (.one (.val (.bool b)))
abbrev Ln (k:IntKind) (n:Int):LV:=.sv (.one (.val (.int k n)))
abbrev Ls (l:List UInt8):LV:=.sv (.one (.val (.string ⟨l.toArray⟩)))
abbrev Sb (b:Bool):SV:=.one (.val (.bool b))
abbrev Sn (k:IntKind) (n:Int):SV:=.one (.val (.int k n))
abbrev Ss (l:List UInt8):SV:=.one (.val (.string ⟨l.toArray⟩))
abbrev Lp (k:Nat):LV:=.sv (.one (.ptr k 0))
abbrev vs (l:List UInt8):CV:=.val (.string ⟨l.toArray⟩)
end Go.Proofs.YtopiioklkkiedaaGreatDoor
end
section
set_option maxHeartbeats 12800000
set_option maxRecDepth 100000
namespace Go.Proofs.YtopiioklkkiedaaGreatDoor
open Go Go.Lg
abbrev Li (b:Bool) (h l:Int):LV:=.sv (.agg [.val (.bool b),.val (.int .u64 h),.val (.int .u64 l)])
abbrev Lz (h l:Int):LV:=.sv (.agg [.val (.int .u64 h),.val (.int .u64 l)])
abbrev LI (b:Bool) (N:Int):LV:=Li b (N/18446744073709551616) (N%18446744073709551616)
abbrev LZ (N:Int):LV:=Lz (N/18446744073709551616) (N%18446744073709551616)
abbrev SZ (N:Int):SV:=.agg [.val (.int .u64 (N/18446744073709551616)),.val (.int .u64 (N%18446744073709551616))]
abbrev SI (b:Bool) (N:Int):SV:=.agg [.val (.bool b),.val (.int .u64 (N/18446744073709551616)),.val (.int .u64 (N%18446744073709551616))]
def In2 (N:Int):Prop:=0≤N∧N<340282366920938463463374607431768211456
variable (X:Nat→Option Obj)
theorem sizeOf_spec (b:Bool) (h l:Int):PSpec Tryz.prog X 145 [Li b h l] (Lz h l):=by
 refine cF Tryz.func145 rfl V5 rfl rfl ?_
 intro C
 refine U15 ?_
 exact VF
theorem zero_spec (N:Int) (hN:In2 N) (r:Bool) (hr:(N==0)=r):PSpec Tryz.prog X 147 [LZ N] (Lb r):=by
 subst hr
 obtain ⟨h0,h1⟩:=hN
 refine cF Tryz.func147 rfl V5 rfl rfl ?_
 intro C
 by_cases ha:N/18446744073709551616=0
 ·by_cases hb:N%18446744073709551616=0
  ·refine U18 ?_
   exact ⟨[_],⟨rfl,trivial⟩,by rw [show (N==0)=true from cV V3];rfl⟩
  ·refine U18 ?_
   exact ⟨[_],⟨rfl,trivial⟩,by rw [show (N==0)=false from cS V3];rfl⟩
 ·refine U18 ?_
  exact ⟨[_],⟨rfl,trivial⟩,by rw [show (N==0)=false from cS V3];rfl⟩
theorem fits_spec (N:Int) (hN:In2 N) (r:Bool) (hr:decide (N<170141183460469231731687303715884105728)=r):PSpec Tryz.prog X 146 [LZ N] (Lb r):=by
 subst hr
 obtain ⟨h0,h1⟩:=hN
 refine cF Tryz.func146 rfl V5 rfl rfl ?_
 intro C
 (refine U9 ?_;refine klt rfl rfl rfl ?_;refine U3 ?_)
 exact ⟨[_],⟨rfl,trivial⟩,by rw [decide_eq_decide.2 (show (N/18446744073709551616<9223372036854775808)↔N<170141183460469231731687303715884105728 by omega)];rfl⟩
def formB (b:Bool) (N:Int):Bool:=decide (N<170141183460469231731687303715884105728) && !(b&&N==0)
theorem Form_spec (b:Bool) (N:Int) (hN:In2 N) (r:Bool) (hr:formB b N=r):PSpec Tryz.prog X 106 [LI b N] (Lb r):=by
 subst hr
 refine cF Tryz.func106 rfl V5 rfl rfl ?_
 intro C
 cases b
 ·(refine U16 ?_;refine kca rfl rfl (sizeOf_spec _ _ _ _)<|kca rfl rfl (fits_spec _ _ hN _ rfl) ?_;refine U3 ?_)
  exact ⟨[_],⟨rfl,trivial⟩,by simp [formB,resOf]⟩
 ·by_cases hf:N<170141183460469231731687303715884105728
  ·(refine U15 ?_;refine kca rfl rfl (sizeOf_spec _ _ _ _)<|kca rfl rfl (fits_spec _ _ hN true (cP hf)) ?_;refine U2 ?_;refine gca rfl rfl (sizeOf_spec _ _ _ _) rfl rfl<|gca rfl rfl (zero_spec _ _ hN _ rfl) rfl rfl ?_;refine U5 ?_)
   exact ⟨[_],⟨rfl,trivial⟩,by simp [formB,resOf,hf]⟩
  ·(refine U15 ?_;refine kca rfl rfl (sizeOf_spec _ _ _ _)<|kca rfl rfl (fits_spec _ _ hN false (cO hf)) ?_;refine U9 ?_)
   exact ⟨[_],⟨rfl,trivial⟩,by simp [formB,resOf,hf]⟩
end Go.Proofs.YtopiioklkkiedaaGreatDoor
end
section
set_option maxHeartbeats 12800000
set_option maxRecDepth 100000
namespace Go.Proofs.YtopiioklkkiedaaGreatDoor
open Go Go.Lg
variable (X:Nat→Option Obj)
theorem add64 {x y c:Int} (hb:0≤x∧0≤y∧0≤c∧c≤1) {s t:Int} (hs:(x+y+c)%18446744073709551616=s) (ht:(x+y+c)/18446744073709551616=t):
  NSpec Tryz.prog 230 [.int .u64 x,.int .u64 y,.int .u64 c] (.tuple #[.int .u64 s,.int .u64 t]):=
 NSpec.add64 Tryz.func230 V5 V5 V5 V5 x y c hb hs ht
theorem sub64 {x y c:Int} (hb:0≤x∧0≤y∧0≤c∧c≤1∧y≤18446744073709551615) {s t:Int} (hs:(x-y-c)%18446744073709551616=s) (ht:(if x<y+c then 1 else 0)=t):
  NSpec Tryz.prog 231 [.int .u64 x,.int .u64 y,.int .u64 c] (.tuple #[.int .u64 s,.int .u64 t]):=
 NSpec.sub64 Tryz.func231 V5 V5 V5 V5 x y c hb hs ht
theorem bothForm_spec (b c:Bool) (M N:Int) (hM:In2 M) (hN:In2 N) (r:Bool) (hr:(formB b M&&formB c N)=r):PSpec Tryz.prog X 198 [LI b M,LI c N] (Lb r):=by
 subst hr
 refine cF Tryz.func198 rfl V5 rfl rfl ?_
 intro C
 cases h1:formB b M
 ·(refine U9 ?_;refine kca rfl rfl (Form_spec _ _ _ hM _ h1) ?_;refine U7 ?_)
  exact ⟨[_],⟨rfl,trivial⟩,by simp [resOf]⟩
 ·(refine U9 ?_;refine kca rfl rfl (Form_spec _ _ _ hM _ h1) ?_;refine U2 ?_;refine gca rfl rfl (Form_spec _ _ _ hN _ rfl) rfl rfl ?_;refine U4 ?_)
  exact ⟨[_],⟨rfl,trivial⟩,by simp [resOf]⟩
def sg (b:Bool) (N:Int):Bool:=b && !(N==0)
theorem number_spec (b:Bool) (N:Int) (hN:In2 N) (r:Bool) (hr:sg b N=r):PSpec Tryz.prog X 204 [Lb b,LZ N] (LI r N):=by
 subst hr
 refine cF Tryz.func204 rfl V5 rfl rfl ?_
 intro C
 cases b
 ·(refine U6 ?_;refine rgD mixed ?_;refine U15 ?_)
  exact VF
 ·(refine U6 ?_;refine rgD mixed ?_;refine U3 ?_;refine gca rfl rfl (zero_spec _ _ hN _ rfl) rfl rfl ?_;refine U11 ?_)
  exact VF
theorem plus_spec (M N:Int) (hM:In2 M) (hN:In2 N) (hS:In2 (M+N)):PSpec Tryz.prog X 213 [LZ M,LZ N] (LZ (M+N)):=by
 unfold In2 at *
 refine cF Tryz.func213 rfl V5 rfl rfl ?_
 intro C
 (refine U12 ?_;refine K.callN O O (add64 (s:=(M+N)%18446744073709551616) (t:=(M%18446744073709551616+N%18446744073709551616)/18446744073709551616) V3 V3 V3) O dS ?_;refine U13 ?_;refine K.callN O O (add64 (s:=(M+N)/18446744073709551616) (t:=0) V3 V3 V3) O dS ?_;refine U14 ?_)
 exact VF
theorem minus_spec (M N:Int) (hM:In2 M) (hN:In2 N) (hS:N≤M):PSpec Tryz.prog X 214 [LZ M,LZ N] (LZ (M-N)):=by
 unfold In2 at *
 refine cF Tryz.func214 rfl V5 rfl rfl ?_
 intro C
 (refine U12 ?_;refine K.callN O O (sub64 (s:=(M-N)%18446744073709551616) (t:=(if M%18446744073709551616<N%18446744073709551616 then 1 else 0)) V3 V3 V21) O dS ?_;refine U13 ?_;refine K.callN O O (sub64 (s:=(M-N)/18446744073709551616) (t:=0) V3 V3 V3) O dS ?_;refine U14 ?_)
 exact VF
end Go.Proofs.YtopiioklkkiedaaGreatDoor
end
section
set_option maxHeartbeats 12800000
set_option maxRecDepth 100000
namespace Go.Proofs.YtopiioklkkiedaaGreatDoor
open Go Go.Lg
variable (X:Nat→Option Obj)
theorem isNaN_spec (a:Int):PSpec Tryz.prog X 235 [Ln .u64 a] (Lb false):=by
 refine cF Tryz.func235 rfl V5 rfl rfl ?_
 intro C
 refine U12 ?_
 exact V6
def cmpI (a b:Int):Int:=if a<b then -1 else if b<a then 1 else 0
theorem Compare_spec (a b:Int) (r:Int) (hr:cmpI a b=r):PSpec Tryz.prog X 225 [Ln .u64 a,Ln .u64 b] (Ln .i64 r):=by
 subst hr
 refine cF Tryz.func225 rfl V5 rfl rfl ?_
 intro C
 by_cases h:a<b
 ·(refine U7 ?_;refine kca rfl rfl (isNaN_spec _ _) ?_;refine U5 ?_;refine kca rfl rfl (isNaN_spec _ _) ?_;refine U29 ?_)
  exact ⟨[_],⟨rfl,trivial⟩,by simp [cmpI,h,resOf]⟩
 ·by_cases h':b<a
  ·(refine U7 ?_;refine kca rfl rfl (isNaN_spec _ _) ?_;refine U5 ?_;refine kca rfl rfl (isNaN_spec _ _) ?_;refine U38 ?_)
   exact ⟨[_],⟨rfl,trivial⟩,by simp [cmpI,h,h',resOf]⟩
  ·(refine U7 ?_;refine kca rfl rfl (isNaN_spec _ _) ?_;refine U5 ?_;refine kca rfl rfl (isNaN_spec _ _) ?_;refine U39 ?_)
   exact ⟨[_],⟨rfl,trivial⟩,by simp [cmpI,h,h',resOf]⟩
theorem compare_spec (M N:Int) (r:Int) (hr:cmpI M N=r):PSpec Tryz.prog X 199 [LZ M,LZ N] (Ln .i64 r):=by
 refine cF Tryz.func199 rfl V5 rfl rfl ?_
 intro C
 by_cases h:M/18446744073709551616=N/18446744073709551616
 ·(refine U23 ?_;refine kca rfl rfl (Compare_spec _ _ _ r (by subst hr;unfold cmpI;(repeat' split)<;>omega)) ?_;refine U3 ?_)
  exact V6
 ·(refine U22 ?_;refine kca rfl rfl (Compare_spec _ _ _ r (by subst hr;unfold cmpI;(repeat' split)<;>omega)) ?_;refine U3 ?_)
  exact V6
abbrev S0:SV:=.agg [.val (.bool false),.val (.int .u64 0),.val (.int .u64 0)]
theorem bounded_ok (b:Bool) (S:Int) (hS:0≤S∧S<170141183460469231731687303715884105728) (r:Bool) (hr:sg b S=r):PSpec Tryz.prog X 212 [Lb b,LZ S] (.tup [SI r S,Sn .i64 0]):=by
 have h2:In2 S:=⟨hS.1,by omega⟩
 refine cF Tryz.func212 rfl V5 rfl rfl ?_
 intro C
 (refine U10 ?_;refine kca rfl rfl (fits_spec _ _ h2 true (cP V3)) ?_;refine U8 ?_;refine kca rfl rfl (number_spec _ _ _ h2 _ hr) ?_;refine U4 ?_)
 exact V4
theorem bounded_no (b:Bool) (S:Int) (hS:170141183460469231731687303715884105728≤S) (h2:In2 S):PSpec Tryz.prog X 212 [Lb b,LZ S] (.tup [S0,Sn .i64 3]):=by
 refine cF Tryz.func212 rfl V5 rfl rfl ?_
 intro C
 (refine U10 ?_;refine kca rfl rfl (fits_spec _ _ h2 false (cO V3)) ?_;refine U10 ?_)
 exact V4
def Lim (N:Int):Prop:=0≤N∧N<170141183460469231731687303715884105728
theorem formB_lim {b:Bool} {N:Int} (hN:In2 N) (h:formB b N=true):Lim N∧(b=true→N≠0):=by
 simp only [formB,Bool.and_eq_true,decide_eq_true_eq,Bool.not_eq_true',Bool.and_eq_false_iff,beq_eq_false_iff_ne] at h
 refine ⟨⟨hN.1,h.1⟩,fun hb => ?_⟩
 rcases h.2 with h2|h2
 ·rw [hb] at h2;simp at h2
 ·exact h2
theorem Add_arg (b c:Bool) (M N:Int) (hM:In2 M) (hN:In2 N) (hf:(formB b M&&formB c N)=false):PSpec Tryz.prog X 183 [LI b M,LI c N] (.tup [S0,Sn .i64 1]):=by
 refine cF Tryz.func183 rfl V5 rfl rfl ?_
 intro C
 (refine U12 ?_;refine kca rfl rfl (bothForm_spec _ _ _ _ _ hM hN _ hf) ?_;refine U10 ?_)
 exact V4
theorem Add_same (b:Bool) (M N:Int) (hM:In2 M) (hN:In2 N) (hf:(formB b M&&formB b N)=true) (hS:M+N<170141183460469231731687303715884105728) (r:Bool) (hr:sg b (M+N)=r):
  PSpec Tryz.prog X 183 [LI b M,LI b N] (.tup [SI r (M+N),Sn .i64 0]):=by
 have h3:In2 (M+N):=by unfold In2 at *;omega
 refine cF Tryz.func183 rfl V5 rfl rfl ?_
 intro C
 have hp:=plus_spec X M N hM hN h3
 have hb:=bounded_ok X b (M+N) ⟨h3.1,hS⟩ r hr
 cases b
 all_goals
  ((refine U12 ?_;refine kca O O (bothForm_spec _ _ _ _ _ hM hN _ hf) ?_;refine U5 ?_;refine rgD mixed ?_;refine U1 ?_;refine kca O O (sizeOf_spec _ _ _ _) ?_;refine U1 ?_;refine kca O O (sizeOf_spec _ _ _ _) ?_;refine U6 ?_);(refine U8 ?_;refine K.eqlB O O O dS ?_;refine U4 ?_;refine rgD mixed ?_;refine U13 ?_))
  exact V4
theorem Add_over (b:Bool) (M N:Int) (hM:In2 M) (hN:In2 N) (hf:(formB b M&&formB b N)=true) (hS:170141183460469231731687303715884105728≤M+N):
  PSpec Tryz.prog X 183 [LI b M,LI b N] (.tup [S0,Sn .i64 3]):=by
 have hf1:=(formB_lim hM (by simp at hf;exact hf.1)).1
 have hf2:=(formB_lim hN (by simp at hf;exact hf.2)).1
 have h3:In2 (M+N):=by unfold Lim In2 at *;omega
 refine cF Tryz.func183 rfl V5 rfl rfl ?_
 intro C
 have hp:=plus_spec X M N hM hN h3
 have hb:=bounded_no X b (M+N) hS h3
 cases b
 all_goals
  ((refine U12 ?_;refine kca O O (bothForm_spec _ _ _ _ _ hM hN _ hf) ?_;refine U5 ?_;refine rgD mixed ?_;refine U1 ?_;refine kca O O (sizeOf_spec _ _ _ _) ?_;refine U1 ?_;refine kca O O (sizeOf_spec _ _ _ _) ?_;refine U6 ?_);(refine U8 ?_;refine K.eqlB O O O dS ?_;refine U4 ?_;refine rgD mixed ?_;refine U13 ?_))
  exact V4
theorem Add_less (b:Bool) (M N:Int) (hM:In2 M) (hN:In2 N) (hf:(formB b M&&formB (!b) N)=true) (hS:M<N) (r:Bool) (hr:sg (!b) (N-M)=r):
  PSpec Tryz.prog X 183 [LI b M,LI (!b) N] (.tup [SI r (N-M),Sn .i64 0]):=by
 have h3:In2 (N-M):=by unfold In2 at *;omega
 refine cF Tryz.func183 rfl V5 rfl rfl ?_
 intro C
 have hb:=number_spec X (!b) (N-M) h3 r hr
 cases b
 all_goals
  ((refine U12 ?_;refine kca O O (bothForm_spec _ _ _ _ _ hM hN _ hf) ?_;refine U5 ?_;refine rgD mixed ?_;refine U1 ?_;refine kca O O (sizeOf_spec _ _ _ _) ?_;refine U1 ?_;refine kca O O (sizeOf_spec _ _ _ _) ?_;refine U6 ?_);(refine U8 ?_;refine K.eqlB O O O dS ?_;refine U7 ?_;refine kca O O (compare_spec _ _ _ (-1) (by simp [cmpI,hS])) ?_;refine U5 ?_;refine rgD mixed ?_;refine U4 ?_;refine kca O O (minus_spec _ _ _ hN hM (Int.le_of_lt hS)) ?_;refine U6 ?_))
  exact V4
theorem Add_more (b:Bool) (M N:Int) (hM:In2 M) (hN:In2 N) (hf:(formB b M&&formB (!b) N)=true) (hS:N≤M) (r:Bool) (hr:sg b (M-N)=r):
  PSpec Tryz.prog X 183 [LI b M,LI (!b) N] (.tup [SI r (M-N),Sn .i64 0]):=by
 have h3:In2 (M-N):=by unfold In2 at *;omega
 have h5:cmpI M N=0∨cmpI M N=1:=by unfold cmpI;(repeat' split)<;>omega
 refine cF Tryz.func183 rfl V5 rfl rfl ?_
 intro C
 have hb:=number_spec X b (M-N) h3 r hr
 rcases h5 with h5|h5<;>cases b
 all_goals
  ((refine U12 ?_;refine kca O O (bothForm_spec _ _ _ _ _ hM hN _ hf) ?_;refine U5 ?_;refine rgD mixed ?_;refine U1 ?_;refine kca O O (sizeOf_spec _ _ _ _) ?_;refine U1 ?_;refine kca O O (sizeOf_spec _ _ _ _) ?_;refine U6 ?_);(refine U8 ?_;refine K.eqlB O O O dS ?_;refine U7 ?_;refine kca O O (compare_spec _ _ _ _ h5) ?_;refine U6 ?_;refine rgD mixed ?_;refine U4 ?_;refine kca O O (minus_spec _ _ _ hM hN hS) ?_;refine U5 ?_);(refine LWP.ret ?_))
  exact V4
end Go.Proofs.YtopiioklkkiedaaGreatDoor
end
section
set_option maxHeartbeats 12800000
set_option maxRecDepth 100000
namespace Go.Proofs.YtopiioklkkiedaaGreatDoor
open Go Go.Lg
variable (X:Nat→Option Obj)
def mg (z:Int):Int:=if z<0 then -z else z
def R127 (z:Int):Prop := -170141183460469231731687303715884105728<z∧z<170141183460469231731687303715884105728
abbrev LQ (z:Int):LV:=LI (decide (z<0)) (mg z)
abbrev SQ (z:Int):SV:=SI (decide (z<0)) (mg z)
theorem mg_neg {z:Int} (h:z<0):mg z = -z:=if_pos h
theorem mg_pos {z:Int} (h:0≤z):mg z=z:=if_neg V3
theorem mg_in2 {z:Int} (h:R127 z):In2 (mg z):=by unfold mg In2 R127 at *;split<;>omega
theorem mg_lim {z:Int} (h:R127 z):mg z<170141183460469231731687303715884105728:=by unfold mg R127 at *;split<;>omega
theorem formB_q {z:Int} (h:R127 z):formB (decide (z<0)) (mg z)=true:=by
 have:=mg_lim h
 simp only [formB,cP this,Bool.true_and,Bool.not_eq_true',Bool.and_eq_false_iff,decide_eq_false_iff_not,beq_eq_false_iff_ne]
 unfold mg
 split<;>omega
theorem both_q {x y:Int} (hx:R127 x) (hy:R127 y):(formB (decide (x<0)) (mg x)&&formB (decide (y<0)) (mg y))=true:=by rw [formB_q hx,formB_q hy];rfl
def zv (b:Bool) (N:Int):Int:=if b=true then -N else N
theorem zv_in {b:Bool} {N:Int} (hN:In2 N) (h:formB b N=true):R127 (zv b N)∧decide (zv b N<0)=b∧mg (zv b N)=N:=by
 obtain ⟨⟨h0,h1⟩,h2⟩:=formB_lim hN h
 cases b
 ·refine ⟨?_,?_,?_⟩<;>simp only [zv,Bool.false_eq_true,if_false,R127,mg,decide_eq_false_iff_not]
  ·omega
  ·omega
  ·exact if_neg V3
 ·have:=h2 rfl
  refine ⟨?_,?_,?_⟩<;>simp only [zv,if_true,R127,mg,decide_eq_true_eq]
  ·omega
  ·omega
  ·rw [if_pos V3];omega
theorem LI_q {b:Bool} {N:Int} (hN:In2 N) (h:formB b N=true):LI b N=LQ (zv b N):=by
 obtain ⟨_,h1,h2⟩:=zv_in hN h
 unfold LQ
 rw [h1,h2]
theorem sg_q {b:Bool} {N z:Int} (hN:0≤N) (h:zv b N=z):sg b N=decide (z<0)∧N=mg z:=by
 subst h
 cases b
 ·simp only [zv,sg,Bool.false_and,Bool.false_eq_true,if_false,mg]
  exact ⟨(cO V3).symm,(if_neg V3).symm⟩
 ·simp only [zv,sg,Bool.true_and,if_true,mg]
  refine ⟨?_,by split<;>omega⟩
  by_cases h0:N=0
  ·subst h0;rfl
  ·rw [show (N==0)=false from cS h0,cP V3];rfl
def addR (z:Int):LV:=if -170141183460469231731687303715884105728<z∧z<170141183460469231731687303715884105728 then .tup [SQ z,Sn .i64 0] else .tup [S0,Sn .i64 3]
theorem addR_in {z:Int} (h:R127 z):addR z = .tup [SQ z,Sn .i64 0]:=if_pos h
theorem addR_out {z:Int} (h:¬ R127 z):addR z = .tup [S0,Sn .i64 3]:=if_neg h
theorem tup_q {b:Bool} {N z:Int} (hN:0≤N) (h:zv b N=z):(LV.tup [SI (sg b N) N,Sn .i64 0]) = .tup [SQ z,Sn .i64 0]:=by
 obtain ⟨h1,h2⟩:=sg_q hN h
 unfold SQ
 rw [h1,← h2]
theorem Add_q (x y:Int) (hx:R127 x) (hy:R127 y):PSpec Tryz.prog X 183 [LQ x,LQ y] (addR (x+y)):=by
 have hf:=both_q hx hy
 have h1:=mg_in2 hx
 have h2:=mg_in2 hy
 have h1':=hx
 have h2':=hy
 unfold R127 at h1' h2'
 by_cases cx:x<0<;>by_cases cy:y<0
 all_goals
  unfold LQ
  simp only [cx,cy,decide_true,decide_false] at hf ⊢
 ·have m1:=mg_neg cx
  have m2:=mg_neg cy
  by_cases hs:mg x+mg y<170141183460469231731687303715884105728
  ·have:=Add_same X true (mg x) (mg y) h1 h2 hf hs _ rfl
   rw [tup_q (z:=x+y) (by omega) (by simp [zv];omega)] at this
   rw [addR_in (by unfold R127;omega)]
   exact this
  ·rw [addR_out V2A]
   exact Add_over X true (mg x) (mg y) h1 h2 hf V3
 ·have m1:=mg_neg cx
  have m2:=mg_pos (Int.not_lt.1 cy)
  rw [addR_in (by unfold R127;omega)]
  by_cases hs:mg x<mg y
  ·have:=Add_less X true (mg x) (mg y) h1 h2 hf hs _ rfl
   rw [tup_q (z:=x+y) (by omega) (by simp [zv];omega)] at this
   exact this
  ·have:=Add_more X true (mg x) (mg y) h1 h2 hf V3 _ rfl
   rw [tup_q (z:=x+y) (by omega) (by simp [zv];omega)] at this
   exact this
 ·have m1:=mg_pos (Int.not_lt.1 cx)
  have m2:=mg_neg cy
  rw [addR_in (by unfold R127;omega)]
  by_cases hs:mg x<mg y
  ·have:=Add_less X false (mg x) (mg y) h1 h2 hf hs _ rfl
   rw [tup_q (z:=x+y) (by omega) (by simp [zv];omega)] at this
   exact this
  ·have:=Add_more X false (mg x) (mg y) h1 h2 hf V3 _ rfl
   rw [tup_q (z:=x+y) (by omega) (by simp [zv];omega)] at this
   exact this
 ·have m1:=mg_pos (Int.not_lt.1 cx)
  have m2:=mg_pos (Int.not_lt.1 cy)
  by_cases hs:mg x+mg y<170141183460469231731687303715884105728
  ·have:=Add_same X false (mg x) (mg y) h1 h2 hf hs _ rfl
   rw [tup_q (z:=x+y) (by omega) (by simp [zv];omega)] at this
   rw [addR_in (by unfold R127;omega)]
   exact this
  ·rw [addR_out V2A]
   exact Add_over X false (mg x) (mg y) h1 h2 hf V3
theorem Neg_q (x:Int) (hx:R127 x):PSpec Tryz.prog X 155 [LQ x] (LQ (-x)):=by
 have h1:=mg_in2 hx
 have hn:=number_spec X (!decide (x<0)) (mg x) h1 (decide (-x<0)) (by
  have:=sg_q (b := !decide (x<0)) (N:=mg x) (z := -x) h1.1 (by unfold zv mg;by_cases c:x<0<;>simp [c])
  exact this.1)
 have e:mg (-x)=mg x:=by unfold mg;(repeat' split)<;>omega
 refine cF Tryz.func155 rfl V5 rfl rfl ?_
 intro C
 (refine U9 ?_;refine kca rfl rfl (Form_spec _ _ _ h1 true (formB_q hx)) ?_;refine U5 ?_;refine rgD mixed ?_;refine U4 ?_;refine kca rfl rfl (sizeOf_spec _ _ _ _) ?_;refine U5 ?_)
 unfold LQ
 rw [e]
 exact VF
theorem Sub_arg (b c:Bool) (M N:Int) (hM:In2 M) (hN:In2 N) (hf:(formB b M&&formB c N)=false):PSpec Tryz.prog X 184 [LI b M,LI c N] (.tup [S0,Sn .i64 1]):=by
 refine cF Tryz.func184 rfl V5 rfl rfl ?_
 intro C
 (refine U12 ?_;refine kca rfl rfl (bothForm_spec _ _ _ _ _ hM hN _ hf) ?_;refine U10 ?_)
 exact V4
theorem Sub_q (x y:Int) (hx:R127 x) (hy:R127 y):PSpec Tryz.prog X 184 [LQ x,LQ y] (addR (x-y)):=by
 have hf:=both_q hx hy
 have hny:R127 (-y):=by unfold R127 at *;omega
 have ha:=Add_q X x (-y) hx hny
 have hn:=Neg_q X y hy
 by_cases hz:R127 (x-y)
 all_goals
  first
   | rw [show x + -y=x-y by omega,addR_in hz] at ha;rw [addR_in hz]
   | rw [show x + -y=x-y by omega,addR_out hz] at ha;rw [addR_out hz]
  refine cF Tryz.func184 rfl V5 rfl rfl ?_
  intro C
  (refine U12 ?_;refine kca rfl rfl (bothForm_spec _ _ _ _ _ (mg_in2 hx) (mg_in2 hy) _ hf) ?_;refine U5 ?_;refine rgD mixed ?_;refine U11 ?_)
  exact V4
def sgnI (z:Int):Int:=if z<0 then -1 else if 0<z then 1 else 0
theorem Sign_q (x:Int) (hx:R127 x) (r:Int) (hr:sgnI x=r):PSpec Tryz.prog X 224 [LQ x] (Ln .i64 r):=by
 have h1:=mg_in2 hx
 have hz:∀ r,(mg x==0)=r→PSpec Tryz.prog X 147 [LZ (mg x)] (Lb r):=fun r hr=>zero_spec X (mg x) h1 r hr
 have hF:=Form_spec X _ _ h1 true (formB_q hx)
 refine cF Tryz.func224 rfl V5 rfl rfl ?_
 intro C
 by_cases c:x<0
 ·have hz':=hz false (cS (by rw [mg_neg c];omega))
  have e:sgnI x = -1:=if_pos c
  unfold LQ at hF ⊢
  simp only [c,decide_true] at hF ⊢
  (refine U14 ?_;refine gca rfl rfl (sizeOf_spec _ _ _ _) rfl rfl ?_;refine U17 ?_)
  exact ⟨[_],⟨rfl,trivial⟩,by rw [← hr,e];rfl⟩
 ·unfold LQ at hF ⊢
  simp only [c,decide_false] at hF ⊢
  by_cases c0:x=0
  ·have hz':=hz true (cV (by rw [mg_pos V3];omega))
   have e:sgnI x=0:=by unfold sgnI;rw [if_neg c,if_neg V3]
   (refine U14 ?_;refine gca rfl rfl (sizeOf_spec _ _ _ _) rfl rfl ?_;refine U10 ?_)
   exact ⟨[_],⟨rfl,trivial⟩,by rw [← hr,e];rfl⟩
  ·have hz':=hz false (cS (by rw [mg_pos V3];omega))
   have e:sgnI x=1:=by unfold sgnI;rw [if_neg c,if_pos V3]
   (refine U14 ?_;refine gca rfl rfl (sizeOf_spec _ _ _ _) rfl rfl ?_;refine U18 ?_)
   exact ⟨[_],⟨rfl,trivial⟩,by rw [← hr,e];rfl⟩
theorem Cmp_bad (b c:Bool) (M N:Int) (hM:In2 M) (hN:In2 N) (hf:(formB b M&&formB c N)=false):PSpec Tryz.prog X 150 [LI b M,LI c N] (Ln .i64 0):=by
 refine cF Tryz.func150 rfl V5 rfl rfl ?_
 intro C
 (refine U12 ?_;refine kca rfl rfl (bothForm_spec _ _ _ _ _ hM hN _ hf) ?_;refine U9 ?_)
 exact V6
theorem Cmp_q (x y:Int) (hx:R127 x) (hy:R127 y) (r:Int) (hr:cmpI x y=r):PSpec Tryz.prog X 150 [LQ x,LQ y] (Ln .i64 r):=by
 have hB:=bothForm_spec X _ _ _ _ (mg_in2 hx) (mg_in2 hy) true (both_q hx hy)
 refine cF Tryz.func150 rfl V5 rfl rfl ?_
 intro C
 by_cases cx:x<0<;>by_cases cy:y<0
 all_goals
  unfold LQ at hB ⊢
  simp only [cx,cy,decide_true,decide_false] at hB ⊢
 ·have e:cmpI (mg y) (mg x)=r:=by rw [mg_neg cx,mg_neg cy,← hr];unfold cmpI;(repeat' split)<;>omega
  (refine U29 ?_;refine rgD mixed ?_;refine U1 ?_;refine kca rfl rfl (sizeOf_spec _ _ _ _) ?_;refine U1 ?_;refine kca rfl rfl (sizeOf_spec _ _ _ _)<|kca rfl rfl (compare_spec _ _ _ r e) ?_;refine U4 ?_)
  exact V6
 ·have e:r = -1:=by rw [← hr];unfold cmpI;rw [if_pos V3]
  subst e
  refine U40 ?_
  exact V6
 ·have e:r=1:=by rw [← hr];unfold cmpI;rw [if_neg V3,if_pos V3]
  subst e
  refine U47 ?_
  exact V6
 ·have e:cmpI (mg x) (mg y)=r:=by rw [mg_pos (Int.not_lt.1 cx),mg_pos (Int.not_lt.1 cy),← hr]
  (refine U44 ?_;refine rgD mixed ?_;refine U1 ?_;refine kca rfl rfl (sizeOf_spec _ _ _ _) ?_;refine U1 ?_;refine kca rfl rfl (sizeOf_spec _ _ _ _)<|kca rfl rfl (compare_spec _ _ _ r e) ?_;refine U4 ?_)
  exact V6
end Go.Proofs.YtopiioklkkiedaaGreatDoor
end
section
set_option maxHeartbeats 12800000
set_option maxRecDepth 100000
namespace Go.Proofs.YtopiioklkkiedaaGreatDoor
open Go Go.Lg Go.Lg.Arith Go.RowKit
variable (X:Nat→Option Obj)
theorem mg_nonneg (z:Int):0≤mg z:=by unfold mg;split<;>omega
theorem OfWord_spec (n:Int):PSpec Tryz.prog X 64 [Ln .u64 n] (.sv (.agg [.val (.bool false),.val (.int .u64 0),.val (.int .u64 n)])):=by
 refine cF Tryz.func64 rfl V5 rfl rfl ?_
 intro C
 refine U11 ?_
 exact VF
theorem Of_spec (n:Int) (hn : -9223372036854775808≤n∧n<9223372036854775808):PSpec Tryz.prog X 31 [Ln .i64 n] (LQ n):=by
 refine cF Tryz.func31 rfl V5 rfl rfl ?_
 intro C
 by_cases c:n<0
 ·have w1:IntKind.u64.wrap n=n+18446744073709551616:=by rw [IntKind.wrap_u64];omega
  have w2:IntKind.u64.wrap (0-(n+18446744073709551616)) = -n:=by rw [IntKind.wrap_u64];omega
  (refine U15 ?_;refine K.neg O w2 dS ?_;refine U4 ?_)
  refine ⟨[_],⟨⟨_,_,O,O,O,.inl ⟨AggT.h,O⟩⟩,trivial⟩,?_⟩
  unfold LQ LI
  rw [mg_neg c,cP c,show -n/18446744073709551616=0 by omega,show -n%18446744073709551616 = -n by omega]
  rfl
 ·(refine U15 ?_;refine kcv rfl V2C ?_;refine kca rfl rfl (OfWord_spec _ _) ?_;refine U3 ?_)
  refine ⟨[_],⟨⟨_,_,O,O,O,.inl ⟨AggT.h,O⟩⟩,trivial⟩,?_⟩
  unfold LQ LI
  rw [mg_pos (by omega),cO c,show n/18446744073709551616=0 by omega,show n%18446744073709551616=n by omega]
  rfl
theorem eqI {b b':Bool} {h l h' l':Int} (r:Bool) (hr:(b==b'&&(h==h'&&l==l'))=r) (w:World):
  (Op.equalIn 10000 86 (.agg [.bool b,.int .u64 h,.int .u64 l].toArray) (.agg [.bool b',.int .u64 h',.int .u64 l'].toArray)).run Tryz.prog w = .ok r w:=by
 subst hr
 rw [show (10000:Nat)=9999+1 from rfl,run_equalIn_agg w 9999 86 _ _ (by kernel_rfl) (by kernel_rfl)]
 simp only [Program.fieldsOf,Tryz.underlying86]
 go_simp
 cases b<;>cases b'<;>by_cases h1:h=h'<;>by_cases h2:l=l'<;>simp [h1,h2]
theorem eqQ (x y:Int) (r:Bool) (hr:decide (x=y)=r) (w:World):
  (Op.equalIn 10000 86 (.agg [.bool (decide (x<0)),.int .u64 (mg x/18446744073709551616),.int .u64 (mg x%18446744073709551616)].toArray)
   (.agg [.bool (decide (y<0)),.int .u64 (mg y/18446744073709551616),.int .u64 (mg y%18446744073709551616)].toArray)).run Tryz.prog w = .ok r w:=by
 refine eqI r ?_ w
 rw [← hr]
 by_cases e:x=y
 ·subst e;simp
 ·rw [cO e]
  have h:¬ ((decide (x<0)=decide (y<0))∧mg x/18446744073709551616=mg y/18446744073709551616∧mg x%18446744073709551616=mg y%18446744073709551616):=by
   rintro ⟨h1,h2,h3⟩
   have:mg x=mg y:=by omega
   unfold mg at this
   by_cases cx:x<0<;>by_cases cy:y<0<;>simp only [cx,cy,decide_true,decide_false,if_true,if_false] at h1 this<;>first|omega|cases h1
  cases hc:(decide (x<0)==decide (y<0)&&(mg x/18446744073709551616==mg y/18446744073709551616&&mg x%18446744073709551616==mg y%18446744073709551616)) with
  | false=>rfl
  | true =>
   simp only [Bool.and_eq_true,beq_iff_eq] at hc
   exact absurd hc h
end Go.Proofs.YtopiioklkkiedaaGreatDoor
end
section
set_option maxHeartbeats 12800000
set_option maxRecDepth 100000
namespace Go.Proofs.YtopiioklkkiedaaGreatDoor
open Go Go.Lg
abbrev rd (k:Nat) (l:List UInt8) (b:Bool):List (Nat×Option Box):=[(k,some ⟨248,[vs l,.val (.bool b)],false⟩)]
variable (X:Nat→Option Obj)
def isW (n:Int):Bool:=decide (n=1)||(decide (n=2)||(decide (n=4)||decide (n=8)))
theorem isWidth_spec (n:Int) (r:Bool) (hr:isW n=r):PSpec Tryz.prog X 157 [Ln .i64 n] (Lb r):=by
 refine cF Tryz.func157 rfl V5 rfl rfl ?_
 intro C
 subst hr
 by_cases h1:n=1
 ·refine U23 ?_
  exact ⟨[_],⟨rfl,trivial⟩,by unfold isW;rw [cP h1];rfl⟩
 ·by_cases h2:n=2
  ·refine U23 ?_
   exact ⟨[_],⟨rfl,trivial⟩,by unfold isW;rw [cO h1,cP h2];rfl⟩
  ·by_cases h4:n=4
   ·refine U23 ?_
    exact ⟨[_],⟨rfl,trivial⟩,by unfold isW;rw [cO h1,cO h2,cP h4];rfl⟩
   ·by_cases h8:n=8
    ·refine U23 ?_
     exact ⟨[_],⟨rfl,trivial⟩,by unfold isW;rw [cO h1,cO h2,cO h4,cP h8];rfl⟩
    ·refine U23 ?_
     exact ⟨[_],⟨rfl,trivial⟩,by unfold isW;rw [cO h1,cO h2,cO h4,cO h8];rfl⟩
theorem Read_spec (l:List UInt8):MSpec Tryz.prog X 118 [Ls l] [] (Lp 1000001) (rd 1000001 l false):=by
 refine cG Tryz.func118 rfl V5 rfl rfl rfl rfl rfl ?_
 intro C
 refine U12 ?_
 exact ⟨[(1000001,5)],⟨[_],⟨O,trivial⟩,O⟩,⟨⟨_,O,O⟩,trivial⟩,O,O⟩
theorem Bad_spec (l:List UInt8) (b:Bool):MSpec Tryz.prog X 161 [Lp 1000000] (rd 1000000 l b) (Lb b) (rd 1000000 l b):=by
 refine cG Tryz.func161 rfl V5 rfl rfl rfl rfl rfl ?_
 intro C
 (refine U7 ?_;refine K.ptrNil O V5 (.inl ⟨O,O⟩) dS ?_;refine U2 ?_;refine bI O (dT O O) ?_;refine U6 ?_)
 exact V20
end Go.Proofs.YtopiioklkkiedaaGreatDoor
end
section
set_option maxHeartbeats 12800000
set_option maxRecDepth 100000
namespace Go.Lg
open Go
def le:List UInt8→Nat
 | []=>0
 | c::t=>c.toNat+256*le t
theorem le_lt:∀ (l:List UInt8),le l<256^l.length
 | []=>by simp [le]
 | c::t=>by
  have:=le_lt t
  have hc:=c.toNat_lt
  simp only [le,dJ,Nat.pow_succ]
  omega
theorem le_snoc:∀ (l:List UInt8) (c:UInt8),le (l++[c])=le l+c.toNat*256^l.length
 | [],c=>by simp [le]
 | d::t,c=>by
  have e:256*(c.toNat*256^t.length)=c.toNat*(256^t.length*256):=by rw [Nat.mul_left_comm,Nat.mul_comm 256]
  simp only [List.cons_append,le,le_snoc t c,dJ,Nat.pow_succ,Nat.mul_add]
  omega
theorem le_take {l:List UInt8} {i:Nat} {c:UInt8} (h:l[i]? = some c):le (l.take (i+1))=le (l.take i)+c.toNat*256^i:=by
 have hi:=(wl h)
 rw [List.take_add_one,h]
 have:=le_snoc (l.take i) c
 rw [dA,Nat.min_eq_left (by omega)] at this
 exact this
def leB:Nat→Nat→List UInt8
 | 0,_=>[]
 | k+1,n=>UInt8.ofNat (n%256)::leB k (n/256)
theorem leB_length:∀ (k n:Nat),(leB k n).length=k
 | 0,_=>rfl
 | k+1,n=>by simp [leB,leB_length k]
theorem leB_get:∀ (k n i:Nat),i<k→(leB k n)[i]? = some (UInt8.ofNat (n/256^i%256))
 | 0,_,_,h=>by omega
 | k+1,n,0,_=>by simp [leB]
 | k+1,n,i+1,h=>by
  simp only [leB,List.getElem?_cons_succ]
  rw [leB_get k (n/256) i (by omega),Nat.pow_succ,Nat.mul_comm,Nat.div_div_eq_div_mul]
theorem take_next {w n i:Nat} (h:i<w):((leB w n).take i).map bc++[bc (UInt8.ofNat (n/256^i%256))]=((leB w n).take (i+1)).map bc:=by
 rw [List.take_add_one,leB_get w n i h,dI]
 rfl
def lo (w n i:Nat):List UInt8:=(leB w n).take i++List.replicate (w-i) 0
theorem lo_set {w n i:Nat} (h:i<w):(((lo w n i).map bc).set (0+i*1) (bc (UInt8.ofNat (n/256^i%256))))=(lo w n (i+1)).map bc:=by
 rw [Nat.zero_add,Nat.mul_one,← List.map_set]
 congr 1
 unfold lo
 have hl:((leB w n).take i).length=i:=by rw [dA,leB_length];omega
 rw [List.set_append_right _ _ (by omega),hl,Nat.sub_self,List.take_add_one,leB_get w n i h]
 have:w-i=(w-(i+1))+1:=by omega
 rw [this,List.replicate_succ]
 simp
theorem lo_len (w n i:Nat) (h:i≤w):((lo w n i).map bc).length=w:=by
 unfold lo
 rw [cX,cW,dA,leB_length,dF]
 omega
theorem lo_all (w n:Nat):lo w n w=leB w n:=by
 unfold lo
 rw [Nat.sub_self,List.take_of_length_le (by rw [leB_length];exact dO _)]
 simp
theorem or_low {x y c:Int} {s:Nat} (hs:s≤64) (hx:0≤x∧x*2^s<18446744073709551616) (hy:0≤y∧y<2^s) (hc:y+x*2^s=c):bits .or .u64 y (x*2^s)=c:=by
 have h:=or_apart hs hx hy
 obtain ⟨A,rfl⟩:=Int.eq_ofNat_of_zero_le hx.1
 obtain ⟨B,rfl⟩:=Int.eq_ofNat_of_zero_le hy.1
 have e:((A:Int)*2^s)=((A*2^s:Nat):Int):=by rw [Int.natCast_mul,Int.natCast_pow];rfl
 have e':((2:Int)^s)=((2^s:Nat):Int):=by rw [Int.natCast_pow];rfl
 have h1:A*2^s<18446744073709551616:=by have:=hx.2;rw [e] at this;omega
 have h3:2^s≤18446744073709551616:=by
  have:2^s≤2^64:=Nat.pow_le_pow_right VA hs
  exact this
 have h2:B<18446744073709551616:=by have:=hy.2;rw [e'] at this;omega
 have hcomm:bits .or .u64 (B:Int) ((A:Int)*2^s)=bits .or .u64 ((A:Int)*2^s) B:=by
  rw [e,u64_or_nat _ _ h2 h1,u64_or_nat _ _ h1 h2,Nat.or_comm]
 rw [hcomm,h]
 omega
end Go.Lg
namespace Go.Proofs.YtopiioklkkiedaaGreatDoor
open Go Go.Lg
variable (X:Nat→Option Obj)
theorem p256 (i:Nat):(256:Nat)^i=2^(8*i):=by rw [Nat.pow_mul]
theorem onumber_spec (l:List UInt8) (hl:l.length≤8):PSpec Tryz.prog X 159 [Ls l] (Ln .u64 (le l:Nat)):=by
 refine cF Tryz.func159 rfl V5 rfl rfl ?_
 intro C
 refine U16 ?_
 refine cL (fun m σ=>∃ i:Nat,i≤l.length∧m=l.length-i∧σ=⟨[(0,Ls l),(3,Ln .u64 (le (l.take i):Nat)),(6,Ln .i64 (l.length:Nat)),(7,Ln .i64 (i:Nat))],[],X⟩) l.length
  ⟨_,Le.of V8 VC V2 V2 V2,0,Nat.zero_le _,rfl,rfl⟩ ?_
 rintro m σ ⟨i,hi,rfl,rfl⟩
 by_cases hlt:i<l.length
 ·obtain ⟨b,hb⟩:=wg hlt
  have hb':(⟨l.toArray⟩:ByteArray)[Int.toNat (i:Int)]? = some b:=str_at hb
  have hnx:=le_take hb
  have h8:8*i≤56:=by omega
  have w8:IntKind.i64.wrap (8*(i:Int))=((8*i:Nat):Int):=by rw [cH V3];omega
  have hc:=b.toNat_lt
  have hlo:=le_lt (l.take i)
  rw [dA,Nat.min_eq_left hi,p256] at hlo
  have hp:2^(8*i)≤2^56:=Nat.pow_le_pow_right VA h8
  have hbb:b.toNat*2^(8*i)≤255*2^56:=Nat.mul_le_mul V3 hp
  have ec:((b.toNat:Int))*2^(8*i)=((b.toNat*2^(8*i):Nat):Int):=by rw [Int.natCast_mul,Int.natCast_pow];rfl
  have ep:((2:Int)^(8*i))=((2^(8*i):Nat):Int):=by rw [Int.natCast_pow];rfl
  have hs:=shl_s (a:=(b.toNat:Int)) (s:=8*i) (c:=(b.toNat:Int)*2^(8*i)) V3 rfl (by rw [ec];omega)
  have ho:=or_low (x:=(b.toNat:Int)) (y:=(le (l.take i):Nat)) (s:=8*i) (c:=(le (l.take (i+1)):Nat)) V3 (by rw [ec];omega) (by rw [ep];omega) (by rw [ec,hnx,p256];omega)
  (refine U19 ?_;refine kcv O V2C ?_;refine kmv O<|bL O O w8 dS<|K.shl O O V3 hs dS<|K.bitop V21 O O ho dS ?_;refine U6 ?_)
  exact ⟨_,_,by omega,Le.of V8 VC V2 V2 V2,i+1,by omega,O,O⟩
 ·have e:i=l.length:=by omega
  subst e
  rw [dG]
  refine U13 ?_
  exact V6
end Go.Proofs.YtopiioklkkiedaaGreatDoor
end
