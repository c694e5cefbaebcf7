/- A piece of a proof over this program: contracts of its functions, and a logic to prove them by. -/
import Derived.Test.YtjifibloagkeeaaGreatQ2
import Derived.StringKeys
import Derived.WideMake
import Derived.DeepKeys3
import Derived.Laws.Externs
section
namespace Go.Lg
open Go Go.RowKit
section
variable {P:Program} {n:Nat} {ops os:List Oper} {acc:List Eff} {K:List Eff→St→Prop} {s:List (Nat×LV)} {bx:List (Nat×Option Box)} {X:Nat→Option Obj} {σ:St}
theorem LOK.cut2Slc {d k off len sz l h:Nat} {t:TypeId} {x y z:Operand} {ty:TypeId} {pos:String} {after_:Array Edge} {g:Option (Nat×Bool)} {kl kh:IntKind} (hx:σ.ev x=some (.sv (.one (.slc k off len sz)))) (hy:σ.ev y=some (.sv (.one (.val (.int kl (l:Nat)))))) (hz:σ.ev z=some (.sv (.one (.val (.int kh (h:Nat))))))
    (ht:sliceOf P t=some sz) (hl:l≤h) (hh:h≤len) (h0:l<len∨l=0):LOK P n ops ⟨some d,.slice t x (some y) (some z) none,ty,pos,after_,g⟩ σ ⟨[(d,.sv (.one (.slc k (off+l*sz) (h-l) sz)))],[],[]⟩:=
  LOK.value fun σ' ha C ι a w hr=>by
    have h1:=hr.ev ((ha.ev (x:=x) (by simp [Op.operands])).trans hx)
    have h2:a.eval y = .int kl (l:Nat):=hr.ev ((ha.ev (x:=y) (by simp [Op.operands])).trans hy)
    have h3:a.eval z = .int kh (h:Nat):=hr.ev ((ha.ev (x:=z) (by simp [Op.operands])).trans hz)
    obtain ⟨e,hu,hsz⟩:=sliceOf_spec ht
    have hrun:∀ b c:Nat,len≤c→(Instr.sliceAt t (.slice (some ⟨b,off,none⟩) len c) (some (.int kl (l:Nat))) (some (.int kh (h:Nat))) none).run P w = .ok (.slice (some ⟨b,off+l*sz,none⟩) (h-l) (c-l)) w:=by
      intro b c hc
      have ha0:(⟨b,off,none⟩:Addr).add (l*sz)=⟨b,off+l*sz,none⟩:=addr_add _ _ _
      have hcl:(if c=l then (some ⟨b,off,none⟩:Option Addr) else some ⟨b,off+l*sz,none⟩)=some ⟨b,off+l*sz,none⟩:=by
        rcases h0 with h0|h0
        · rw [if_neg (by omega)]
        · rw [h0,Nat.zero_mul,Nat.add_zero,ite_self]
      simp [Instr.sliceAt,Instr.slice,run_underlying hu,Instr.sliceBounds,Instr.sliceBound,asIntOf,hsz,ha0,hcl]
      rw [if_pos (by omega),if_pos hl]
    simp only [LV.rel,SV.rel,CV.rel] at h1 ⊢
    cases hk:σ'.stat k with
    | none=>simp [hk] at h1
    | some bb =>
      cases bb with
      | none =>
        simp only [hk] at h1 ⊢
        obtain ⟨b,c,h1,h4⟩:=h1
        exact ⟨_,by simp only [execOp,h1,h2,h3,Option.map_none,Option.map_some,Sem.run_bind,hrun b c h4,Result.andThen_ok,Sem.run_pure],b,c-l,rfl,by omega⟩
      | some b =>
        simp only [hk] at h1 ⊢
        obtain ⟨c,h1,h4,h5⟩:=h1
        refine ⟨_,by simp only [execOp,h1,h2,h3,Option.map_none,Option.map_some,Sem.run_bind,hrun _ c h4,Result.andThen_ok,Sem.run_pure],c-l,rfl,by omega,?_⟩
        rw [Nat.add_assoc,← Nat.add_mul,Nat.add_sub_cancel' (by omega)];exact h5
theorem K.cut2Slc {d k off len sz l h off' len':Nat} {t:TypeId} {x y z:Operand} {ty:TypeId} {pos:String} {after_:Array Edge} {g:Option (Nat×Bool)} {kl kh:IntKind} (hx:(⟨s,bx,X⟩:St).ev x=some (.sv (.one (.slc k off len sz)))) (hy:(⟨s,bx,X⟩:St).ev y=some (.sv (.one (.val (.int kl (l:Nat)))))) (hz:(⟨s,bx,X⟩:St).ev z=some (.sv (.one (.val (.int kh (h:Nat))))))
    (ht:sliceOf P t=some sz) (hl:l≤h) (hh:h≤len) (h0:l<len∨l=0) (ho:off+l*sz=off') (hn:h-l=len') (hw:Want ops s g) (kont:RunK P n ops os ⟨(d,.sv (.one (.slc k off' len' sz)))::s,bx,X⟩ (⟨[(d,.sv (.one (.slc k off' len' sz)))],[],[]⟩::acc) K):
    RunK P n ops (⟨some d,.slice t x (some y) (some z) none,ty,pos,after_,g⟩::os) ⟨s,bx,X⟩ acc K:=by
  subst ho hn
  exact RunK.g1 (LOK.cut2Slc hx hy hz ht hl hh h0) hw kont
end
end Go.Lg
end
section
namespace Go.Lg
open Go Go.RowKit
def LeadsTo (H:Nat→Option Obj) (b:Nat) (v:Value) (el:TypeId) (sz:Nat) (vals:List Value):Prop:=
  ∃ (len cap:Nat) (arr:Array Value) (fr:Nat×Nat),v = .slice (some ⟨b,0,none⟩) len cap∧vals.length=len*sz∧len≤cap∧cap*sz≤arr.size∧H b=some (.cells arr el fr)∧∃ sp,arr.toList=vals++sp
theorem LeadsTo.mono {H H':Nat→Option Obj} {b:Nat} {v:Value} {el:TypeId} {sz:Nat} {vals:List Value} (h:LeadsTo H b v el sz vals) (he:H' b=H b):LeadsTo H' b v el sz vals:=by
  obtain ⟨len,cap,arr,fr,h1,h2,h3,h4,h5,h6⟩:=h
  exact ⟨len,cap,arr,fr,h1,h2,h3,h4,he.trans h5,h6⟩
theorem mid_inUse {bx:List (Nat×Option Box)} {l l':List Value} {c:CV} (h:c.inUse bx=true):(l.map CV.val++c::l'.map CV.val).all (CV.inUse bx)=true:=by
  rw [List.all_append,List.all_cons,vals_inUse,vals_inUse,h];rfl
theorem Box.ren_mid {f:Nat→Nat} {e:TypeId} {l l':List Value} {c c':CV} {r:Bool} (h:c.ren f=c'):Box.ren f ⟨e,l.map CV.val++c::l'.map CV.val,r⟩=⟨e,l.map CV.val++c'::l'.map CV.val,r⟩:=by
  unfold Box.ren
  rw [List.map_append,List.map_cons,Go.Lg.ren_vals,Go.Lg.ren_vals,h]
theorem mid_get {α:Type} {A B:List α} {x:α} {i:Nat} (h:A.length=i):(A++x::B)[i]? = some x:=by
  rw [List.getElem?_append_right (by omega),h,Nat.sub_self];rfl
theorem look_swap {α:Type} {k k' j:Nat} {x y:α} {l:List (Nat×α)} (h:Nat.beq k k'=false):look j ((k,x)::(k',y)::l)=look j ((k',y)::(k,x)::l):=by
  simp only [look]
  cases h1:Nat.beq k j with
  | false=>rfl
  | true =>
    cases h2:Nat.beq k' j with
    | false=>rfl
    | true =>
      have:=(Nat.eq_of_beq_eq_true h1).trans (Nat.eq_of_beq_eq_true h2).symm
      rw [this,Nat.beq_refl] at h;cases h
theorem look_cons {α:Type} {j:Nat} {p:Nat×α} {l l':List (Nat×α)} (h:look j l=look j l'):look j (p::l)=look j (p::l'):=by
  obtain ⟨k,x⟩:=p
  simp only [look]
  rw [h]
theorem look_rot {α:Type} {k k' k2 j:Nat} {x y z:α} {l:List (Nat×α)} (h:Nat.beq k k2=false) (h2:Nat.beq k' k2=false):look j ((k,x)::(k',y)::(k2,z)::l)=look j ((k2,z)::(k,x)::(k',y)::l):=
  (look_cons (look_swap h2)).trans (look_swap h)
section
variable {P:Program} {n:Nat} {C:Ctx} {c:Code} {Q:Exit→St→Prop} {X H:Nat→Option Obj} {s:List (Nat×LV)} {bx:List (Nat×Option Box)}
theorem LWP.openCell {j k sz b len:Nat} {v:Value} {el el2:TypeId} {A B:List CV} {row2:Bool} {vals:List Value}
    (hO:OwnedM C X H) (hv:LeadsTo H b v el sz vals) (hlen:vals.length=len*sz) (hsz:0<sz)
    (hs:s.all (fun p=>p.2.inUse ((j,some ⟨el2,A ++ .val v::B,row2⟩)::bx))=true)
    (hb:((j,some (⟨el2,A ++ .val v::B,row2⟩:Box))::bx).all (fun p=>match p.2 with|some b=>b.cells.all (CV.inUse ((j,some ⟨el2,A ++ .val v::B,row2⟩)::bx))|none=>true)=true)
    (hk:look k bx=none) (hjk:Nat.beq j k=false) (hlt:Nat.blt k 1000000=true)
    (h:LWP P n C c Q ⟨s,(j,some ⟨el2,A ++ .slc k 0 len sz::B,row2⟩)::(k,some ⟨el,vals.map .val,true⟩)::bx,joinM X (cutM H b)⟩):
    LWP P n C c Q ⟨s,(j,some ⟨el2,A ++ .val v::B,row2⟩)::bx,joinM X H⟩:=by
  obtain ⟨len',cap,arr,fr,rfl,h2,h3,h4,h5,h6⟩:=hv
  have e:len'=len:=Nat.eq_of_mul_eq_mul_right hsz (h2.symm.trans hlen)
  subst e
  rw [joinM_cut h5]
  have hX:joinM X (cutM H b) b=none:=by rw [joinM_out (cutM_at H b)];exact (hO.own _ _ h5).2.2
  exact LWP.thawCell hX (hO.frozen h5) h3 (by omega) h6 hs hb hk hjk hlt h
theorem closed {blk len cap sz:Nat} {arr:Array Value} {fr:Nat×Nat} {el:TypeId} {vals:List Value} (hlen:vals.length=len*sz) (hX:joinM X H blk=none) (hO:OwnedM C X H) (hF:Frozen C blk arr fr) (hc:len≤cap) (hfit:0+cap*sz≤arr.size) (hsp:∃ sp,arr.toList=vals++sp):
    H blk=none∧OwnedM C X (withBlock H blk (.cells arr el fr))∧LeadsTo (withBlock H blk (.cells arr el fr)) blk (.slice (some ⟨blk,0,none⟩) len cap) el sz vals:=
  ⟨(joinM_none hX).1,hO.more hF hX,⟨len,cap,arr,fr,rfl,hlen,hc,by omega,withBlock_at _ _ _,hsp⟩⟩
theorem LWP.closeCell {j k len sz:Nat} {el el2:TypeId} {A B:List CV} {row2:Bool} {vals:List Value} {row:Bool} (hO:OwnedM C X H) (hlen:vals.length=len*sz)
    (hs:s.all (fun p=>p.2.inUse ((j,none)::bx))=true) (hA:A.all (CV.inUse ((j,none)::bx))=true) (hB:B.all (CV.inUse ((j,none)::bx))=true) (hb:bx.all (fun p=>match p.2 with|some b=>b.cells.all (CV.inUse ((j,none)::bx))|none=>true)=true) (hk:look k bx=none) (hjk:Nat.beq j k=false)
    (h:∀ (b:Nat) (o:Obj) (v:Value),H b=none→X b=none→OwnedM C X (withBlock H b o)→LeadsTo (withBlock H b o) b v el sz vals →
      LWP P n C c Q ⟨s,(j,some ⟨el2,A ++ .val v::B,row2⟩)::bx,joinM X (withBlock H b o)⟩):
    LWP P n C c Q ⟨s,(j,some ⟨el2,A ++ .slc k 0 len sz::B,row2⟩)::(k,some ⟨el,vals.map .val,row⟩)::bx,joinM X H⟩:=by
  refine LWP.freezeCell hs hA hB hb hk hjk fun blk cap arr fr h1 h2 h3 h4 h5 => ?_
  rw [joinM_with]
  obtain ⟨g1,g2,g3⟩:=closed (el:=el) hlen h1 hO h2 h3 h4 h5
  exact h blk _ _ g1 (joinM_none h1).2 g2 g3
theorem LWP.loopL {c:Code} {σ:St} (I:Nat→St→Prop) (m:Nat) (h0:Leads n C (I m) σ)
    (round:∀ m σ,I m σ→LWP P n C c (thenQ (Leads n C (fun σ'=>∃ m',m'<m∧I m' σ')) Q) σ):LWP P n C (.loop c) Q σ:=by
  refine ⟨fun ι a w hr => ?_⟩
  have key:∀ (m:Nat) (σ:St) (ι:Nat→Nat×Nat) (a:Act) (w:World),I m σ→Rel n C ι σ a w→Code.rounds P c (fun e a' w'=>∃ ι' σ',Q e σ'∧Rel n C ι' σ' a' w') (m+1) a w:=by
    intro m
    induction m using Nat.strongRecOn with
    | _ m ih =>
      intro σ ι a w hI hr
      rw [rounds_succ]
      refine wp_mono ((round m σ hI).out ι a w hr) ?_
      rintro e a' w' ⟨ι',σ',hq,hr'⟩
      cases e<;>try exact ⟨ι',σ',hq,hr'⟩
      obtain ⟨ι2,σ2,⟨m',hlt,hI'⟩,hr2⟩:=hq.out ι' a' w' hr'
      exact rounds_le (by omega) (ih m' hlt σ2 ι2 a' w' hI' hr2)
  obtain ⟨ι2,σ2,hI,hr2⟩:=h0.out ι a w hr
  exact wp_loop_rounds (m+1) (key m σ2 ι2 a w hI hr2)
theorem rel_front {S:Nat→Option (Option Box)} {ι:Nat→Nat×Nat}:∀ {A B:List CV} {vs:List Value},CVs.rel S ι (A++B) vs→∃ va vb,vs=va++vb∧CVs.rel S ι A va
  | [],_,vs,_=>⟨[],vs,rfl,trivial⟩
  | _::_,_,[],h=>h.elim
  | _::A,B,v::vs,h=>by
    obtain ⟨va,vb,e,h1⟩:=rel_front (A:=A) (B:=B) h.2
    exact ⟨v::va,vb,by rw [e];rfl,h.1,h1⟩
theorem Rel.rebox {ι:Nat→Nat×Nat} {a:Act} {w:World} {j:Nat} {e:TypeId} {cs cs':List CV} {r r':Bool}
    (himp:∀ vs,Box.rel (⟨s,(j,some ⟨e,cs',r'⟩)::bx,X⟩:St).stat ι ⟨e,cs,r⟩ vs→Box.rel (⟨s,(j,some ⟨e,cs',r'⟩)::bx,X⟩:St).stat ι ⟨e,cs',r'⟩ vs)
    (hr:Rel n C ι ⟨s,(j,some ⟨e,cs,r⟩)::bx,X⟩ a w):Rel n C ι ⟨s,(j,some ⟨e,cs',r'⟩)::bx,X⟩ a w:=by
  have hlater:=later_hd (s:=s) (bx:=bx) (k:=j) ι ⟨e,cs,r⟩ ⟨e,cs',r'⟩ X X
  have live:∀ i b,(⟨s,(j,some ⟨e,cs',r'⟩)::bx,X⟩:St).stat i=some (some b)→∃ b0,(⟨s,(j,some ⟨e,cs,r⟩)::bx,X⟩:St).stat i=some (some b0)∧(i≠j→b=b0):=fun i b hi=>by
    rw [stat_hd] at hi ⊢
    by_cases e:i=j
    · rw [if_pos e];exact ⟨_,rfl,fun h=>absurd e h⟩
    · rw [if_neg e] at hi ⊢;exact ⟨b,hi,fun _=>rfl⟩
  exact {
    defers:=hr.defers,size:=hr.size
    slots:=fun d lv hd=>by
      obtain ⟨v,hv,hvr⟩:=hr.slots d lv hd
      exact ⟨v,hv,LV.rel_later hlater hvr⟩
    boxes:=fun i b hi hbk=>by
      by_cases ei:i=j
      · subst ei
        rw [stat_hd,if_pos rfl] at hi
        simp only [Option.some.injEq] at hi
        subst hi
        obtain ⟨arr,fr,g1,g2,g3,g4⟩:=hr.boxes i ⟨e,cs,r⟩ (by rw [stat_hd,if_pos rfl]) rfl
        exact ⟨arr,fr,g1,g2,g3,himp _ (Box.rel_later hlater g4)⟩
      · obtain ⟨b0,h0,h1⟩:=live i b hi
        have:=h1 ei
        subst this
        obtain ⟨arr,fr,g1,g2,g3,g4⟩:=hr.boxes i b h0 hbk
        exact ⟨arr,fr,g1,g2,g3,Box.rel_later hlater g4⟩
    own:=fun i b hi=>by obtain ⟨b0,h0,_⟩:=live i b hi;exact hr.own i b0 h0
    inj:=fun i i' bi bj hi hj he=>by
      obtain ⟨b1,h1,_⟩:=live i bi hi
      obtain ⟨b2,h2,_⟩:=live i' bj hj
      exact hr.inj i i' b1 b2 h1 h2 he
    keep:=fun i b hi hge=>by obtain ⟨b0,h0,_⟩:=live i b hi;exact hr.keep i b0 h0 hge
    ext:=hr.ext
    res:=by
      obtain ⟨F,hG⟩:=hr.res
      refine hG.keep (fun i e cs R hi => ?_) (fun _ _ _ _ _ hi=>hi) (fun _ _ ho=>ho) (fun b _ hx _ _=>hx) (fun i bi hi => ?_)
      · rw [stat_hd] at hi ⊢
        by_cases e:i=j
        · rw [if_pos e] at hi;cases hi
        · rw [if_neg e] at hi ⊢;exact ⟨hi,rfl⟩
      · obtain ⟨b0,h0,_⟩:=live i bi hi
        exact .inl ⟨b0,h0,rfl⟩
    frame:=hr.frame,big:=hr.big,os:=hr.os,tape:=hr.tape,output:=hr.output }
theorem Le.trim {j:Nat} {e:TypeId} {A B:List CV} {r:Bool}:Le n C ⟨s,(j,some ⟨e,A++B,r⟩)::bx,X⟩ ⟨s,(j,some ⟨e,A,true⟩)::bx,X⟩:=⟨fun ι a w hr=>⟨ι,hr.rebox fun vs h=>by
  unfold Box.rel at h ⊢
  cases r with
  | false =>
    obtain ⟨va,vb,e,h1⟩:=rel_front h
    exact ⟨va,vb,e,h1⟩
  | true =>
    obtain ⟨us,sp,e,hl⟩:=h
    obtain ⟨va,vb,e2,h1⟩:=rel_front hl
    exact ⟨va,vb++sp,by rw [e,e2,List.append_assoc],h1⟩⟩⟩
theorem Le.same {σ σ':St} (h:Same σ σ'):Le n C σ σ':=⟨fun ι _ _ hr=>⟨ι,hr.same h⟩⟩
theorem Leads.done {Mid:St→Prop} {σ:St} (h:Mid σ):Leads n C Mid σ:=⟨fun ι a w hr=>⟨ι,σ,h,hr⟩⟩
theorem Leads.closeCell {Mid:St→Prop} {j k len sz:Nat} {el el2:TypeId} {A B:List CV} {row2:Bool} {vals:List Value} {row:Bool} (hO:OwnedM C X H) (hlen:vals.length=len*sz)
    (hs:s.all (fun p=>p.2.inUse ((j,none)::bx))=true) (hA:A.all (CV.inUse ((j,none)::bx))=true) (hB:B.all (CV.inUse ((j,none)::bx))=true) (hb:bx.all (fun p=>match p.2 with|some b=>b.cells.all (CV.inUse ((j,none)::bx))|none=>true)=true) (hk:look k bx=none) (hjk:Nat.beq j k=false)
    (h:∀ (b:Nat) (o:Obj) (v:Value),H b=none→X b=none→OwnedM C X (withBlock H b o)→LeadsTo (withBlock H b o) b v el sz vals →
      Leads n C Mid ⟨s,(j,some ⟨el2,A ++ .val v::B,row2⟩)::bx,joinM X (withBlock H b o)⟩):
    Leads n C Mid ⟨s,(j,some ⟨el2,A ++ .slc k 0 len sz::B,row2⟩)::(k,some ⟨el,vals.map .val,row⟩)::bx,joinM X H⟩:=by
  refine Leads.freezeCell hs hA hB hb hk hjk fun blk cap arr fr h1 h2 h3 h4 h5 => ?_
  rw [joinM_with]
  obtain ⟨g1,g2,g3⟩:=closed (el:=el) hlen h1 hO h2 h3 h4 h5
  exact h blk _ _ g1 (joinM_none h1).2 g2 g3
end
end Go.Lg
end
section
namespace Go.Lg
open Go Go.RowKit
def nilSlc:Value:=.slice none 0 0
def blkOf:Value→Option Nat
  | .slice (some a) _ _=>some a.block
  | _=>none
theorem LeadsTo.blk {H:Nat→Option Obj} {b:Nat} {v:Value} {el:TypeId} {sz:Nat} {vals:List Value} (h:LeadsTo H b v el sz vals):blkOf v=some b:=by
  obtain ⟨len,cap,arr,fr,rfl,_⟩:=h
  rfl
def SliceTo (H:Nat→Option Obj) (v:Value) (el:TypeId) (vals:List Value):Prop := ∃ b,LeadsTo H b v el 1 vals
theorem SliceTo.mono {H H':Nat→Option Obj} {v:Value} {el:TypeId} {vals:List Value} (h:SliceTo H v el vals) (he:∀ b,blkOf v=some b→H' b=H b):SliceTo H' v el vals:=by
  obtain ⟨b,h⟩:=h
  exact ⟨b,h.mono (he b h.blk)⟩
theorem SliceTo.some_of {H:Nat→Option Obj} {v:Value} {el:TypeId} {vals:List Value} (h:SliceTo H v el vals) {b:Nat} (hb:blkOf v=some b):H b≠Option.none:=by
  obtain ⟨b',h⟩:=h
  have:=h.blk
  rw [this] at hb
  simp only [Option.some.injEq] at hb
  subst hb
  obtain ⟨_,_,_,_,_,_,_,_,h5,_⟩:=h
  rw [h5];simp
theorem cut_with {H:Nat→Option Obj} {b:Nat} {o:Obj} (h:H b=none):cutM (withBlock H b o) b=H:=by
  funext i
  unfold cutM withBlock
  by_cases e:i=b
  · rw [if_pos e,e,h]
  · rw [if_neg e,if_neg e]
structure Cells (H:Nat→Option Obj) (el:TypeId) (op:List Nat) (cells:List Value) (chs:List (List Value)):Prop where
  len:cells.length=chs.length
  at_:∀ (i:Nat) (c:Value) (x:List Value),i ∉ op→cells[i]? = some c→chs[i]? = some x→SliceTo H c el x
  apart:∀ (i j:Nat) (c c':Value) (b:Nat),i ∉ op→j ∉ op→cells[i]? = some c→cells[j]? = some c'→blkOf c=some b→blkOf c'=some b→i=j
theorem Cells.nil (H:Nat→Option Obj) (el:TypeId) (op:List Nat):Cells H el op [] []:=⟨rfl,fun i c x _ h=>(by simp at h),fun i j c c' b _ _ h=>(by simp at h)⟩
section
variable {H:Nat→Option Obj} {el:TypeId} {op:List Nat} {cells:List Value} {chs:List (List Value)}
theorem Cells.some_of (G:Cells H el op cells chs) {i:Nat} {c:Value} {b:Nat} (hi:i ∉ op) (hc:cells[i]? = some c) (hb:blkOf c=some b):H b≠none:=by
  obtain ⟨x,hx⟩:∃ x,chs[i]? = some x:=⟨_,List.getElem?_eq_getElem (by have:=(List.getElem?_eq_some_iff.1 hc).1;have:=G.len;omega)⟩
  exact (G.at_ i c x hi hc hx).some_of hb
theorem Cells.mono {H':Nat→Option Obj} (G:Cells H el op cells chs) (h:∀ (i:Nat) (c:Value) (b:Nat),i ∉ op→cells[i]? = some c→blkOf c=some b→H' b=H b):Cells H' el op cells chs:=
  ⟨G.len,fun i c x hi hc hx=>(G.at_ i c x hi hc hx).mono fun b hb=>h i c b hi hc hb,G.apart⟩
theorem Cells.more (G:Cells H el op cells chs) {b:Nat} {o:Obj} (hb:H b=none):Cells (withBlock H b o) el op cells chs:=G.mono fun i c b' hi hc hb'=>by
  unfold withBlock
  rw [if_neg (fun e=>G.some_of hi hc hb' (by rw [e,hb]))]
theorem Cells.openAt (G:Cells H el op cells chs) {p:Nat} {c:Value} {b:Nat} (hp:p ∉ op) (hc:cells[p]? = some c) (hb:blkOf c=some b):Cells (cutM H b) el (p::op) cells chs:=by
  have G':Cells H el (p::op) cells chs:=⟨G.len,fun i c x hi=>G.at_ i c x fun h=>hi (List.mem_cons_of_mem _ h),fun i j c c' b hi hj=>G.apart i j c c' b (fun h=>hi (List.mem_cons_of_mem _ h)) (fun h=>hj (List.mem_cons_of_mem _ h))⟩
  refine G'.mono fun i ci bi hi hci hbi=>cutM_other fun e => ?_
  have:=G.apart i p ci c b (fun h=>hi (List.mem_cons_of_mem _ h)) hp hci hc (by rw [hbi,e]) hb
  exact hi (by rw [this];exact List.mem_cons_self ..)
theorem Cells.shutAt {p:Nat} (G:Cells H el (p::op) cells chs) (hp:p<cells.length) {b:Nat} {o:Obj} {v:Value} {x:List Value} (hb:H b=none) (hv:LeadsTo (withBlock H b o) b v el 1 x):Cells (withBlock H b o) el op (cells.set p v) (chs.set p x):=by
  have hno:∀ (i:Nat),i ∉ op→i≠p→i ∉ p::op:=fun i hi hne h=>by
    rcases List.mem_cons.1 h with h|h
    · exact hne h
    · exact hi h
  refine ⟨by rw [List.length_set,List.length_set];exact G.len,fun i c x' hi hc hx => ?_,fun i j c c' β hi hj hc hc' hβ hβ' => ?_⟩
  · by_cases e:i=p
    · subst e
      rw [List.getElem?_set_self hp] at hc
      rw [List.getElem?_set_self (by have:=G.len;omega)] at hx
      simp only [Option.some.injEq] at hc hx
      subst hc hx
      exact ⟨b,hv⟩
    · rw [List.getElem?_set_ne (fun e'=>e e'.symm)] at hc hx
      exact (G.more hb).at_ i c x' (hno i hi e) hc hx
  · by_cases e:i=p
    · by_cases e2:j=p
      · omega
      · exfalso
        subst e
        rw [List.getElem?_set_self hp] at hc
        simp only [Option.some.injEq] at hc
        subst hc
        rw [List.getElem?_set_ne (fun e'=>e2 e'.symm)] at hc'
        rw [hv.blk] at hβ
        simp only [Option.some.injEq] at hβ
        exact G.some_of (hno j hj e2) hc' hβ' (by rw [← hβ,hb])
    · by_cases e2:j=p
      · exfalso
        subst e2
        rw [List.getElem?_set_self hp] at hc'
        simp only [Option.some.injEq] at hc'
        subst hc'
        rw [List.getElem?_set_ne (fun e'=>e e'.symm)] at hc
        rw [hv.blk] at hβ'
        simp only [Option.some.injEq] at hβ'
        exact G.some_of (hno i hi e) hc hβ (by rw [← hβ',hb])
      · rw [List.getElem?_set_ne (fun e'=>e e'.symm)] at hc
        rw [List.getElem?_set_ne (fun e'=>e2 e'.symm)] at hc'
        exact G.apart i j c c' β (hno i hi e) (hno j hj e2) hc hc' hβ hβ'
theorem Cells.snoc (G:Cells H el op cells chs) (c:Value) (x:List Value):Cells H el (cells.length::op) (cells++[c]) (chs++[x]):=by
  have hlt:∀ (i:Nat) (ci:Value),i ∉ cells.length::op→(cells++[c])[i]? = some ci→i ∉ op∧i<cells.length∧cells[i]? = some ci:=fun i ci hi hci=>by
    have h1:=(List.getElem?_eq_some_iff.1 hci).1
    rw [List.length_append] at h1
    have h2:i≠cells.length:=fun e=>hi (by rw [e];exact List.mem_cons_self ..)
    have h3:i<cells.length:=by simp at h1;omega
    rw [List.getElem?_append_left h3] at hci
    exact ⟨fun h=>hi (List.mem_cons_of_mem _ h),h3,hci⟩
  refine ⟨by rw [List.length_append,List.length_append,G.len];rfl,fun i ci xi hi hci hxi => ?_,fun i j ci cj β hi hj hci hcj hβ hβ' => ?_⟩
  · obtain ⟨h1,h2,h3⟩:=hlt i ci hi hci
    rw [List.getElem?_append_left (by have:=G.len;omega)] at hxi
    exact G.at_ i ci xi h1 h3 hxi
  · obtain ⟨h1,_,h3⟩:=hlt i ci hi hci
    obtain ⟨g1,_,g3⟩:=hlt j cj hj hcj
    exact G.apart i j ci cj β h1 g1 h3 g3 hβ hβ'
end
def Grid (H:Nat→Option Obj) (st el:TypeId) (v:Value) (cells:List Value) (chs:List (List Value)):Prop:=
  (∃ db,LeadsTo H db v st 1 cells∧Cells (cutM H db) el [] cells chs)∨(v=nilSlc∧cells=[]∧chs=[])
theorem Grid.empty (H:Nat→Option Obj) (st el:TypeId):Grid H st el nilSlc [] []:=.inr ⟨rfl,rfl,rfl⟩
theorem Grid.shut {H:Nat→Option Obj} {st el:TypeId} {v:Value} {cells:List Value} {chs:List (List Value)} {d:Nat} {o:Obj} (G:Cells H el [] cells chs) (hd:H d=none) (hv:LeadsTo (withBlock H d o) d v st 1 cells):Grid (withBlock H d o) st el v cells chs:=
  .inl ⟨d,hv,by rw [cut_with hd];exact G⟩
theorem Grid.real {H:Nat→Option Obj} {st el:TypeId} {v:Value} {cells:List Value} {chs:List (List Value)} (G:Grid H st el v cells chs) (hne:chs≠[]):∃ db,LeadsTo H db v st 1 cells∧Cells (cutM H db) el [] cells chs:=G.resolve_right fun h=>hne h.2.2
theorem Grid.len {H:Nat→Option Obj} {st el:TypeId} {v:Value} {cells:List Value} {chs:List (List Value)} (G:Grid H st el v cells chs):cells.length=chs.length:=by
  rcases G with ⟨_,_,G⟩|⟨_,h1,h2⟩
  · exact G.len
  · rw [h1,h2];rfl
end Go.Lg
end
section
namespace Go.Lg
open Go Go.RowKit
section
variable {P:Program} {n:Nat} {ops os:List Oper} {acc:List Eff} {K:List Eff→St→Prop} {s:List (Nat×LV)} {bx:List (Nat×Option Box)} {X:Nat→Option Obj} {σ:St}
theorem run_equal_slcNil {P:Program} (w:World) (t:TypeId) (a:Option Addr) (l c sz:Nat) (h:sliceOf P t=some sz):(Op.equal t (.slice a l c) (.slice none 0 0)).run P w = .ok a.isNone w:=by
  obtain ⟨e,hu,_⟩:=sliceOf_spec h
  have key:∀ d,(Op.equalIn (d+1) t (.slice a l c) (.slice none 0 0)).run P w = .ok a.isNone w:=fun d=>by
    cases a<;>simp [Op.equalIn,run_underlying hu]
  exact key 9999
theorem LOK.slcNil {d:Nat} {op:BinOp} {t t':TypeId} {x:Operand} {ty:TypeId} {pos:String} {after_:Array Edge} {g:Option (Nat×Bool)} {r:Bool} {ad:Option Addr} {len cap sz:Nat} (hx:σ.ev x=some (.sv (.one (.val (.slice ad len cap))))) (ht:sliceOf P t=some sz)
    (hop:(op = .eql∧r=ad.isNone)∨(op = .neq∧r = !ad.isNone)):
    LOK P n ops ⟨some d,.binOp op t x (.const (.slice none 0 0)) t',ty,pos,after_,g⟩ σ ⟨[(d,.sv (.one (.val (.bool r))))],[],[]⟩:=
  LOK.value fun σ' ha C ι a w hr=>by
    have hv:a.eval x = .slice ad len cap:=hr.ev ((ha.ev (x:=x) (by simp [Op.operands])).trans hx)
    have hc:a.eval (.const (.slice none 0 0)) = .slice none 0 0:=rfl
    have h1:=run_equal_slcNil w t ad len cap sz ht
    rcases hop with ⟨rfl,rfl⟩|⟨rfl,rfl⟩
    · exact ⟨_,by simp only [execOp,hv,hc,eqGuard,Sem.run_bind];simp [binOp,h1],rfl⟩
    · exact ⟨_,by simp only [execOp,hv,hc,eqGuard,Sem.run_bind];simp [binOp,h1],rfl⟩
theorem K.slcNil {d:Nat} {op:BinOp} {t t':TypeId} {x:Operand} {ty:TypeId} {pos:String} {after_:Array Edge} {g:Option (Nat×Bool)} {r:Bool} {ad:Option Addr} {len cap sz:Nat} (hx:(⟨s,bx,X⟩:St).ev x=some (.sv (.one (.val (.slice ad len cap))))) (ht:sliceOf P t=some sz)
    (hop:(op = .eql∧r=ad.isNone)∨(op = .neq∧r = !ad.isNone)) (hw:Want ops s g) (kont:RunK P n ops os ⟨(d,.sv (.one (.val (.bool r))))::s,bx,X⟩ (⟨[(d,.sv (.one (.val (.bool r))))],[],[]⟩::acc) K):
    RunK P n ops (⟨some d,.binOp op t x (.const (.slice none 0 0)) t',ty,pos,after_,g⟩::os) ⟨s,bx,X⟩ acc K:=RunK.g1 (LOK.slcNil hx ht hop) hw kont
end
end Go.Lg
end
section
namespace Go.Lg
open Go Go.RowKit
def LentBox (Y:Nat→Option Obj) (b:Box) (blk m:Nat):Prop:=
  match b.row with
  | .bool _=>∃ (arr:Array Value) (fr:Nat×Nat) (us sp:List Value),Y blk=some (.cells arr b.elem fr)∧arr.size=m∧arr.toList=us++sp∧∀ vals:List Value,b.cells=vals.map .val→us=vals
  | .res R=>∃ H:Nat→Option Obj,R.holds (blk,m) H∧∀ i o,H i=some o→Y i=some o
def LentC (S:Nat→Option (Option Box)) (Y:Nat→Option Obj):CV→Value→Prop
  | .val v,u=>u=v
  | .slc k off len sz,u=>∃ (b:Box) (blk cap m:Nat),S k=some (some b)∧u = .slice (some ⟨blk,off,none⟩) len cap∧len≤cap∧off+cap*sz≤m∧LentBox Y b blk m
  | _,_=>False
def LentCs (S:Nat→Option (Option Box)) (Y:Nat→Option Obj):List CV→List Value→Prop
  | [],us=>us=[]
  | c::l,us=>∃ u us',us=u::us'∧LentC S Y c u∧LentCs S Y l us'
def LentL (S:Nat→Option (Option Box)) (Y:Nat→Option Obj) (lv:LV) (u:Value):Prop:=
  match lv with
  | .sv (.one c)=>LentC S Y c u
  | .sv (.agg cs)=>∃ us:List Value,u = .agg us.toArray∧LentCs S Y cs us
  | _=>False
def LentLs (S:Nat→Option (Option Box)) (Y:Nat→Option Obj):List LV→List Value→Prop
  | [],us=>us=[]
  | lv::l,us=>∃ u us',us=u::us'∧LentL S Y lv u∧LentLs S Y l us'
def lendC (S:Nat→Option (Option Box)) (ks:List Nat):CV→Bool
  | .val _=>true
  | .slc k _ _ _=>ks.contains k&&(match S k with|some (some _)=>true|_=>false)
  | _=>false
def lendL (S:Nat→Option (Option Box)) (ks:List Nat):LV→Bool
  | .sv (.one c)=>lendC S ks c
  | .sv (.agg cs)=>cs.all (lendC S ks)
  | _=>false
section
variable {P:Program} {n:Nat} {ops os:List Oper} {acc:List Eff} {K:List Eff→St→Prop} {s:List (Nat×LV)} {bx:List (Nat×Option Box)} {X:Nat→Option Obj} {σ:St}
theorem lentBox_of {C:Ctx} {ι:Nat→Nat×Nat} {a:Act} {w:World} {σ':St} (hr:Rel n C ι σ' a w) {k:Nat} {b:Box} (hst:σ'.stat k=some (some b)):LentBox (fun i=>w.heap[i]?) b (ι k).1 (ι k).2:=by
  obtain ⟨e,cs,row⟩:=b
  cases row with
  | bool r =>
    obtain ⟨arr,fr,harr,_,hsz,hbr⟩:=hr.boxes k _ hst rfl
    unfold Box.rel at hbr
    cases r with
    | false=>exact ⟨arr,fr,arr.toList,[],harr,hsz,by simp,fun vals e=>by simp only at e hbr;rw [e] at hbr;exact rel_vals hbr⟩
    | true =>
      obtain ⟨us,sp,e,hl⟩:=hbr
      exact ⟨arr,fr,us,sp,harr,hsz,e,fun vals e=>by simp only at e hl;rw [e] at hl;exact rel_vals hl⟩
  | res R =>
    obtain ⟨F,hF⟩:=hr.res
    exact ⟨F k,(hF.holds k _ _ _ hst).1,fun i o h=>(hF.mem k i o h).2.1⟩
theorem lentC_of {C:Ctx} {ι:Nat→Nat×Nat} {a:Act} {w:World} {σ':St} (hr:Rel n C ι σ' a w) (ks:List Nat) (S:Nat→Option (Option Box)) (hS:∀ k,k∈ks→σ'.stat k=S k) {c:CV} {u:Value} (hl:lendC S ks c=true) (h:c.rel σ'.stat ι u):LentC S (fun i=>w.heap[i]?) c u:=by
  cases c with
  | val v=>exact h
  | slc k off len sz =>
    simp only [lendC,Bool.and_eq_true] at hl
    have hk:k∈ks:=by simpa using hl.1
    cases hs:S k with
    | none=>rw [hs] at hl;exact absurd hl.2 (by simp)
    | some x =>
      cases x with
      | none=>rw [hs] at hl;exact absurd hl.2 (by simp)
      | some b =>
        have hst:σ'.stat k=some (some b):=by rw [hS k hk,hs]
        simp only [CV.rel,hst] at h
        obtain ⟨cap,rfl,h3,h4⟩:=h
        exact ⟨b,_,cap,_,hs,rfl,h3,h4,lentBox_of hr hst⟩
  | ptr _ _=>cases hl
  | mp _=>cases hl
  | fn _ _ _=>cases hl
  | hang _ _ _=>cases hl
  | junk=>cases hl
theorem lentCs_of {C:Ctx} {ι:Nat→Nat×Nat} {a:Act} {w:World} {σ':St} (hr:Rel n C ι σ' a w) (ks:List Nat) (S:Nat→Option (Option Box)) (hS:∀ k,k∈ks→σ'.stat k=S k):∀ {cs:List CV} {us:List Value},cs.all (lendC S ks)=true→CVs.rel σ'.stat ι cs us→LentCs S (fun i=>w.heap[i]?) cs us
  | [],[],_,_=>rfl
  | [],_::_,_,h=>h.elim
  | _::_,[],_,h=>h.elim
  | c::l,u::us,hl,h=>by
    simp only [List.all_cons,Bool.and_eq_true] at hl
    exact ⟨u,us,rfl,lentC_of hr ks S hS hl.1 h.1,lentCs_of hr ks S hS hl.2 h.2⟩
theorem lentLs_of {C:Ctx} {ι:Nat→Nat×Nat} {a:Act} {w:World} {σ':St} (hr:Rel n C ι σ' a w) (ks:List Nat) (S:Nat→Option (Option Box)) (hS:∀ k,k∈ks→σ'.stat k=S k):∀ {lvs:List LV} {us:List Value},lvs.all (lendL S ks)=true→LVs.rel σ'.stat ι lvs us→LentLs S (fun i=>w.heap[i]?) lvs us
  | [],[],_,_=>rfl
  | [],_::_,_,h=>h.elim
  | _::_,[],_,h=>h.elim
  | lv::l,u::us,hl,h=>by
    simp only [List.all_cons,Bool.and_eq_true] at hl
    refine ⟨u,us,rfl,?_,lentLs_of hr ks S hS hl.2 h.2⟩
    have h1:=h.1
    have h2:=hl.1
    match lv with
    | .sv (.one c)=>exact lentC_of hr ks S hS h2 h1
    | .sv (.agg cs) =>
      obtain ⟨arr,rfl,hl'⟩:=h1
      exact ⟨arr.toList,by simp,lentCs_of hr ks S hS h2 hl'⟩
    | .tup _=>cases h2
theorem LOK.callL {d:Nat} {f:FuncId} {args:List Operand} {tys:Array TypeId} {ty:TypeId} {pos:String} {after_:Array Edge} {g:Option (Nat×Bool)} {lvs:List LV} {r:LV} (ks:List Nat) (hargs:evs σ args=some lvs) (hl:lvs.all (lendL σ.stat ks)=true) (hent:Program.enters P f=true)
    (hs:∀ (Y:Nat→Option Obj) (us:List Value),(∀ b o,σ.X b=some o→Y b=some o)→LentLs σ.stat Y lvs us→PSpec P Y f (us.map toLV) r):
    LOK P n ops ⟨some d,.call ⟨.value (.func f),args.toArray,tys⟩,ty,pos,after_,g⟩ σ ⟨[(d,r)],ks,[]⟩:=by
  refine ⟨fun σ' ha C ι a w hr hd next Q hn => ?_⟩
  have hargs':evs σ' args=some lvs:=by
    rw [evs_agree fun x hx=>ha.ev (by simp [Op.operands,Call.operands,hx])]
    exact hargs
  have hrel:=evs_rel hr hargs'
  have hlent:=lentLs_of hr ks σ.stat (fun k hk=>ha.stat k (.inl hk)) hl hrel
  have hc:=(hs (fun b=>w.heap[b]?) _ (fun b o hb=>hr.ext b o (by rw [ha.X];exact hb)) hlent).out w (args.toArray.map a.eval) (fun b o hb=>hb) (by rw [Array.toList_map,List.toList_toArray];exact args_rel _)
  unfold Oper.wp
  have hrun:(execOp a.eval ⟨some d,.call ⟨.value (.func f),args.toArray,tys⟩,ty,pos,after_,g⟩).run P w = .ok (.enter f (args.toArray.map a.eval)) w:=by
    simp only [execOp,resolve,Act.eval,Deferred.ofValue,invoke,Sem.run_bind,Sem.run_pure,Result.andThen_ok]
    simp [run_enter hent]
  rw [hrun]
  refine hc.mono ?_
  rintro e w' ⟨v,rfl,hv,hb⟩
  exact hn ι _ w' ((hr.below hb).put (hd d rfl) (LV.rel_later (later_noS _ _ _) hv))
theorem K.callL {d:Nat} {f:FuncId} {args:List Operand} {tys:Array TypeId} {ty:TypeId} {pos:String} {after_:Array Edge} {g:Option (Nat×Bool)} {lvs:List LV} {r:LV} (ks:List Nat) (hargs:evs ⟨s,bx,X⟩ args=some lvs) (hl:lvs.all (lendL (fun k=>look k bx) ks)=true) (hent:Program.enters P f=true)
    (hs:∀ (Y:Nat→Option Obj) (us:List Value),(∀ b o,X b=some o→Y b=some o)→LentLs (fun k=>look k bx) Y lvs us→PSpec P Y f (us.map toLV) r) (hw:Want ops s g)
    (kont:RunK P n ops os ⟨(d,r)::s,bx,X⟩ (⟨[(d,r)],ks,[]⟩::acc) K):
    RunK P n ops (⟨some d,.call ⟨.value (.func f),args.toArray,tys⟩,ty,pos,after_,g⟩::os) ⟨s,bx,X⟩ acc K:=RunK.gen hw (LOK.callL ks hargs hl hent hs) kont
end
end Go.Lg
end
section
namespace Go.Lg
open Go Go.RowKit
def blkZ:Value→Option Nat
  | .slice (some a) (_+1) _=>some a.block
  | _=>none
theorem LeadsTo.blkZ {H:Nat→Option Obj} {b:Nat} {v:Value} {el:TypeId} {sz:Nat} {vals:List Value} (h:LeadsTo H b v el sz vals) (h0:vals≠[]):Go.Lg.blkZ v=some b:=by
  obtain ⟨len,cap,arr,fr,rfl,h2,_⟩:=h
  cases len with
  | zero=>exact absurd (List.eq_nil_of_length_eq_zero (by omega)) h0
  | succ n=>rfl
def SliceZ (H:Nat→Option Obj) (v:Value) (el:TypeId) (sz:Nat) (vals:List Value):Prop:=(vals=[]∧∃ ad cap,v = .slice ad 0 cap)∨∃ b,LeadsTo H b v el sz vals∧vals≠[]
theorem SliceZ.mono {H H':Nat→Option Obj} {v:Value} {el:TypeId} {sz:Nat} {vals:List Value} (h:SliceZ H v el sz vals) (he:∀ b,blkZ v=some b→H' b=H b):SliceZ H' v el sz vals:=by
  rcases h with h|⟨b,h,h0⟩
  · exact .inl h
  · exact .inr ⟨b,h.mono (he b (h.blkZ h0)),h0⟩
theorem SliceZ.some_of {H:Nat→Option Obj} {v:Value} {el:TypeId} {sz:Nat} {vals:List Value} (h:SliceZ H v el sz vals) {b:Nat} (hb:blkZ v=some b):H b≠Option.none:=by
  rcases h with ⟨_,ad,cap,rfl⟩|⟨b',h,h0⟩
  · simp [blkZ] at hb
  · have:=h.blkZ h0
    rw [this] at hb
    simp only [Option.some.injEq] at hb
    subst hb
    obtain ⟨_,_,_,_,_,_,_,_,h5,_⟩:=h
    rw [h5];simp
structure Twigs (H:Nat→Option Obj) (el:TypeId) (sz:Nat) (op:List Nat) (cells:List Value) (chs:List (List Value)):Prop where
  len:cells.length=chs.length
  at_:∀ (i:Nat) (c:Value) (x:List Value),i ∉ op→cells[i]? = some c→chs[i]? = some x→SliceZ H c el sz x
  apart:∀ (i j:Nat) (c c':Value) (b:Nat),i ∉ op→j ∉ op→cells[i]? = some c→cells[j]? = some c'→blkZ c=some b→blkZ c'=some b→i=j
theorem Twigs.nil (H:Nat→Option Obj) (el:TypeId) (sz:Nat) (op:List Nat):Twigs H el sz op [] []:=⟨rfl,fun i c x _ h=>(by simp at h),fun i j c c' b _ _ h=>(by simp at h)⟩
section
variable {H:Nat→Option Obj} {el:TypeId} {sz:Nat} {op:List Nat} {cells:List Value} {chs:List (List Value)}
theorem Twigs.some_of (G:Twigs H el sz op cells chs) {i:Nat} {c:Value} {b:Nat} (hi:i ∉ op) (hc:cells[i]? = some c) (hb:blkZ c=some b):H b≠none:=by
  obtain ⟨x,hx⟩:∃ x,chs[i]? = some x:=⟨_,List.getElem?_eq_getElem (by have:=(List.getElem?_eq_some_iff.1 hc).1;have:=G.len;omega)⟩
  exact (G.at_ i c x hi hc hx).some_of hb
theorem Twigs.mono {H':Nat→Option Obj} (G:Twigs H el sz op cells chs) (h:∀ (i:Nat) (c:Value) (b:Nat),i ∉ op→cells[i]? = some c→blkZ c=some b→H' b=H b):Twigs H' el sz op cells chs:=
  ⟨G.len,fun i c x hi hc hx=>(G.at_ i c x hi hc hx).mono fun b hb=>h i c b hi hc hb,G.apart⟩
theorem Twigs.more (G:Twigs H el sz op cells chs) {b:Nat} {o:Obj} (hb:H b=none):Twigs (withBlock H b o) el sz op cells chs:=G.mono fun i c b' hi hc hb'=>by
  unfold withBlock
  rw [if_neg (fun e=>G.some_of hi hc hb' (by rw [e,hb]))]
theorem Twigs.shutAt {p:Nat} (G:Twigs H el sz (p::op) cells chs) (hp:p<cells.length) {b:Nat} {o:Obj} {v:Value} {x:List Value} (hb:H b=none) (hv:LeadsTo (withBlock H b o) b v el sz x) (hx0:x≠[]):Twigs (withBlock H b o) el sz op (cells.set p v) (chs.set p x):=by
  have hno:∀ (i:Nat),i ∉ op→i≠p→i ∉ p::op:=fun i hi hne h=>by
    rcases List.mem_cons.1 h with h|h
    · exact hne h
    · exact hi h
  refine ⟨by rw [List.length_set,List.length_set];exact G.len,fun i c x' hi hc hx => ?_,fun i j c c' β hi hj hc hc' hβ hβ' => ?_⟩
  · by_cases e:i=p
    · subst e
      rw [List.getElem?_set_self hp] at hc
      rw [List.getElem?_set_self (by have:=G.len;omega)] at hx
      simp only [Option.some.injEq] at hc hx
      subst hc hx
      exact .inr ⟨b,hv,hx0⟩
    · rw [List.getElem?_set_ne (fun e'=>e e'.symm)] at hc hx
      exact (G.more hb).at_ i c x' (hno i hi e) hc hx
  · by_cases e:i=p
    · by_cases e2:j=p
      · omega
      · exfalso
        subst e
        rw [List.getElem?_set_self hp] at hc
        simp only [Option.some.injEq] at hc
        subst hc
        rw [List.getElem?_set_ne (fun e'=>e2 e'.symm)] at hc'
        rw [hv.blkZ hx0] at hβ
        simp only [Option.some.injEq] at hβ
        exact G.some_of (hno j hj e2) hc' hβ' (by rw [← hβ,hb])
    · by_cases e2:j=p
      · exfalso
        subst e2
        rw [List.getElem?_set_self hp] at hc'
        simp only [Option.some.injEq] at hc'
        subst hc'
        rw [List.getElem?_set_ne (fun e'=>e e'.symm)] at hc
        rw [hv.blkZ hx0] at hβ'
        simp only [Option.some.injEq] at hβ'
        exact G.some_of (hno i hi e) hc hβ (by rw [← hβ',hb])
      · rw [List.getElem?_set_ne (fun e'=>e e'.symm)] at hc
        rw [List.getElem?_set_ne (fun e'=>e2 e'.symm)] at hc'
        exact G.apart i j c c' β (hno i hi e) (hno j hj e2) hc hc' hβ hβ'
theorem Twigs.snoc (G:Twigs H el sz op cells chs) (c:Value) (x:List Value):Twigs H el sz (cells.length::op) (cells++[c]) (chs++[x]):=by
  have hlt:∀ (i:Nat) (ci:Value),i ∉ cells.length::op→(cells++[c])[i]? = some ci→i ∉ op∧i<cells.length∧cells[i]? = some ci:=fun i ci hi hci=>by
    have h1:=(List.getElem?_eq_some_iff.1 hci).1
    rw [List.length_append] at h1
    have h2:i≠cells.length:=fun e=>hi (by rw [e];exact List.mem_cons_self ..)
    have h3:i<cells.length:=by simp at h1;omega
    rw [List.getElem?_append_left h3] at hci
    exact ⟨fun h=>hi (List.mem_cons_of_mem _ h),h3,hci⟩
  refine ⟨by rw [List.length_append,List.length_append,G.len];rfl,fun i ci xi hi hci hxi => ?_,fun i j ci cj β hi hj hci hcj hβ hβ' => ?_⟩
  · obtain ⟨h1,h2,h3⟩:=hlt i ci hi hci
    rw [List.getElem?_append_left (by have:=G.len;omega)] at hxi
    exact G.at_ i ci xi h1 h3 hxi
  · obtain ⟨h1,_,h3⟩:=hlt i ci hi hci
    obtain ⟨g1,_,g3⟩:=hlt j cj hj hcj
    exact G.apart i j ci cj β h1 g1 h3 g3 hβ hβ'
end
end Go.Lg
end
section
namespace Go.Lg
open Go Go.RowKit
section
variable {P:Program} {n:Nat} {C:Ctx} {c:Code} {Q:Exit→St→Prop} {X H:Nat→Option Obj} {s:List (Nat×LV)} {bx:List (Nat×Option Box)}
theorem Rel.rebox2 {ι:Nat→Nat×Nat} {a:Act} {w:World} {j:Nat} {e:TypeId} {cs cs':List CV} {r r':Bool}
    (himp:∀ vs,(∃ (arr:Array Value) (fr:Nat×Nat),w.heap[(ι j).1]? = some (.cells arr e fr)∧arr.toList=vs)→Box.rel (⟨s,(j,some ⟨e,cs',r'⟩)::bx,X⟩:St).stat ι ⟨e,cs,r⟩ vs→Box.rel (⟨s,(j,some ⟨e,cs',r'⟩)::bx,X⟩:St).stat ι ⟨e,cs',r'⟩ vs)
    (hr:Rel n C ι ⟨s,(j,some ⟨e,cs,r⟩)::bx,X⟩ a w):Rel n C ι ⟨s,(j,some ⟨e,cs',r'⟩)::bx,X⟩ a w:=by
  have hlater:=later_hd (s:=s) (bx:=bx) (k:=j) ι ⟨e,cs,r⟩ ⟨e,cs',r'⟩ X X
  have live:∀ i b,(⟨s,(j,some ⟨e,cs',r'⟩)::bx,X⟩:St).stat i=some (some b)→∃ b0,(⟨s,(j,some ⟨e,cs,r⟩)::bx,X⟩:St).stat i=some (some b0)∧(i≠j→b=b0):=fun i b hi=>by
    rw [stat_hd] at hi ⊢
    by_cases e:i=j
    · rw [if_pos e];exact ⟨_,rfl,fun h=>absurd e h⟩
    · rw [if_neg e] at hi ⊢;exact ⟨b,hi,fun _=>rfl⟩
  exact {
    defers:=hr.defers,size:=hr.size
    slots:=fun d lv hd=>by
      obtain ⟨v,hv,hvr⟩:=hr.slots d lv hd
      exact ⟨v,hv,LV.rel_later hlater hvr⟩
    boxes:=fun i b hi hbk=>by
      by_cases ei:i=j
      · subst ei
        rw [stat_hd,if_pos rfl] at hi
        simp only [Option.some.injEq] at hi
        subst hi
        obtain ⟨arr,fr,g1,g2,g3,g4⟩:=hr.boxes i ⟨e,cs,r⟩ (by rw [stat_hd,if_pos rfl]) rfl
        exact ⟨arr,fr,g1,g2,g3,himp _ ⟨arr,fr,g1,rfl⟩ (Box.rel_later hlater g4)⟩
      · obtain ⟨b0,h0,h1⟩:=live i b hi
        have:=h1 ei
        subst this
        obtain ⟨arr,fr,g1,g2,g3,g4⟩:=hr.boxes i b h0 hbk
        exact ⟨arr,fr,g1,g2,g3,Box.rel_later hlater g4⟩
    own:=fun i b hi=>by obtain ⟨b0,h0,_⟩:=live i b hi;exact hr.own i b0 h0
    inj:=fun i i' bi bj hi hj he=>by
      obtain ⟨b1,h1,_⟩:=live i bi hi
      obtain ⟨b2,h2,_⟩:=live i' bj hj
      exact hr.inj i i' b1 b2 h1 h2 he
    keep:=fun i b hi hge=>by obtain ⟨b0,h0,_⟩:=live i b hi;exact hr.keep i b0 h0 hge
    ext:=hr.ext
    res:=by
      obtain ⟨F,hG⟩:=hr.res
      refine hG.keep (fun i e cs R hi => ?_) (fun _ _ _ _ _ hi=>hi) (fun _ _ ho=>ho) (fun b _ hx _ _=>hx) (fun i bi hi => ?_)
      · rw [stat_hd] at hi ⊢
        by_cases e:i=j
        · rw [if_pos e] at hi;cases hi
        · rw [if_neg e] at hi ⊢;exact ⟨hi,rfl⟩
      · obtain ⟨b0,h0,_⟩:=live i bi hi
        exact .inl ⟨b0,h0,rfl⟩
    frame:=hr.frame,big:=hr.big,os:=hr.os,tape:=hr.tape,output:=hr.output }
theorem Rel.spare {ι:Nat→Nat×Nat} {a:Act} {w:World} {j:Nat} {e:TypeId} {vals:List Value} (hr:Rel n C ι ⟨s,(j,some ⟨e,vals.map .val,true⟩)::bx,X⟩ a w):∃ sp:List Value,Rel n C ι ⟨s,(j,some ⟨e,(vals++sp).map .val,false⟩)::bx,X⟩ a w:=by
  obtain ⟨arr,fr,g1,_,_,g4⟩:=hr.boxes j ⟨e,vals.map .val,true⟩ (by rw [stat_hd,if_pos rfl]) rfl
  obtain ⟨us,sp,e1,hl⟩:=g4
  have hu:=rel_vals hl
  subst hu
  refine ⟨sp,hr.rebox2 fun vs hv _ => ?_⟩
  obtain ⟨arr',fr',h1,h2⟩:=hv
  rw [g1] at h1
  simp only [Option.some.injEq,Obj.cells.injEq] at h1
  obtain ⟨rfl,_⟩:=h1
  rw [← h2,e1]
  exact CVs.rel_map_val (us++sp)
theorem Leads.spare {Mid:St→Prop} {j:Nat} {e:TypeId} {vals:List Value} (h:∀ sp:List Value,Leads n C Mid ⟨s,(j,some ⟨e,(vals++sp).map .val,false⟩)::bx,X⟩):Leads n C Mid ⟨s,(j,some ⟨e,vals.map .val,true⟩)::bx,X⟩:=⟨fun ι a w hr=>by
  obtain ⟨sp,hr'⟩:=hr.spare
  exact (h sp).out ι a w hr'⟩
end
section
variable {H:Nat→Option Obj} {el:TypeId} {sz:Nat} {cells:List Value} {chs:List (List Value)}
theorem Twigs.push (G:Twigs H el sz [] cells chs) {b:Nat} {o:Obj} {v:Value} {x:List Value} (hb:H b=none) (hv:LeadsTo (withBlock H b o) b v el sz x) (hx:x≠[]):Twigs (withBlock H b o) el sz [] (cells++[v]) (chs++[x]):=by
  have G3:=(G.snoc nilSlc []).shutAt (by rw [List.length_append];simp) hb hv hx
  have e1:(cells++[nilSlc]).set cells.length v=cells++[v]:=by rw [List.set_append_right _ _ (Nat.le_refl _),Nat.sub_self];rfl
  have e2:(chs++[([]:List Value)]).set cells.length x=chs++[x]:=by rw [G.len,List.set_append_right _ _ (Nat.le_refl _),Nat.sub_self];rfl
  rw [e1,e2] at G3
  exact G3
theorem Twigs.pushZ (G:Twigs H el sz [] cells chs) (ad:Option Addr) (cap:Nat):Twigs H el sz [] (cells++[.slice ad 0 cap]) (chs++[[]]):=by
  have hsplit:∀ (i:Nat) (c:Value),(cells++[.slice ad 0 cap])[i]? = some c→(i<cells.length∧cells[i]? = some c)∨(i=cells.length∧c = .slice ad 0 cap):=fun i c hc=>by
    by_cases e:i<cells.length
    · rw [List.getElem?_append_left e] at hc;exact .inl ⟨e,hc⟩
    · have h1:=(List.getElem?_eq_some_iff.1 hc).1
      rw [List.length_append] at h1
      simp only [List.length_singleton] at h1
      have e2:i=cells.length:=by omega
      subst e2
      rw [List.getElem?_append_right (Nat.le_refl _),Nat.sub_self] at hc
      simp only [List.getElem?_cons_zero,Option.some.injEq] at hc
      exact .inr ⟨rfl,hc.symm⟩
  refine ⟨by rw [List.length_append,List.length_append,G.len];rfl,fun i c x hi hc hx => ?_,fun i j c c' b hi hj hc hc' hb hb' => ?_⟩
  · rcases hsplit i c hc with ⟨h1,h2⟩|⟨rfl,rfl⟩
    · rw [List.getElem?_append_left (by have:=G.len;omega)] at hx
      exact G.at_ i c x (by simp) h2 hx
    · rw [List.getElem?_append_right (by have:=G.len;omega),G.len,Nat.sub_self] at hx
      simp only [List.getElem?_cons_zero,Option.some.injEq] at hx
      exact .inl ⟨hx.symm,ad,cap,rfl⟩
  · rcases hsplit i c hc with ⟨h1,h2⟩|⟨rfl,rfl⟩
    · rcases hsplit j c' hc' with ⟨g1,g2⟩|⟨rfl,rfl⟩
      · exact G.apart i j c c' b (by simp) (by simp) h2 g2 hb hb'
      · simp [blkZ] at hb'
    · simp [blkZ] at hb
end
end Go.Lg
end
section
namespace Go.Lg
open Go Go.RowKit
section
variable {n:Nat} {C:Ctx} {X Y:Nat→Option Obj} {s:List (Nat×LV)} {bx:List (Nat×Option Box)}
theorem Le.drop (hXY:∀ b o,X b=some o→Y b=some o):Le n C ⟨s,bx,Y⟩ ⟨s,bx,X⟩:=⟨fun ι a w hr=>⟨ι,by
  have hn:∀ b,Y b=none→X b=none:=fun b hb=>by
    cases hx:X b with
    | none=>rfl
    | some o=>rw [hXY b o hx] at hb;cases hb
  exact {
    defers:=hr.defers,size:=hr.size,slots:=hr.slots,boxes:=hr.boxes
    own:=fun k b hk=>⟨(hr.own k b hk).1,hn _ (hr.own k b hk).2⟩
    inj:=hr.inj,keep:=hr.keep
    ext:=fun b o hb=>hr.ext b o (hXY b o hb)
    res:=by
      obtain ⟨F,hF⟩:=hr.res
      exact ⟨F,hF.holds,fun k b o h=>by
        obtain ⟨h1,h2,h3,h4,h5,h6⟩:=hF.mem k b o h
        exact ⟨h1,h2,h3,h4,hn _ h5,h6⟩,hF.apart⟩
    frame:=hr.frame,big:=hr.big,os:=hr.os,tape:=hr.tape,output:=hr.output }⟩⟩
end
end Go.Lg
end
section
namespace Go.Lg
open Go Go.RowKit
section
variable {n:Nat} {C:Ctx} {σ:St} {ι:Nat→Nat×Nat} {a:Act} {w:World}
theorem Rel.resStep (hr:Rel n C ι σ a w) {k:Nat} {e:TypeId} {cs:List CV} {R:Rsc} (hk:σ.stat k=some (some ⟨e,cs,.res R⟩)):
    ∃ H,R.holds (ι k) H∧(∀ b o,H b=some o→w.heap[b]? = some o)∧H (ι k).1≠none ∧
      ∀ (w':World) (H':Nat→Option Obj) (R':Rsc),(∀ b,H b=none→b<w.heap.size→w'.heap[b]? = w.heap[b]?)→(∀ b o,H' b=some o→w'.heap[b]? = some o∧Loose o)→(∀ b,H' b≠none→H b≠none)→H' (ι k).1≠none→R'.holds (ι k) H' →
        w.heap.size≤w'.heap.size→w'.os=w.os→w'.tape=w.tape→w'.output=w.output→Rel n C ι ⟨σ.slots,(k,some ⟨0,[],.res R'⟩)::σ.boxes,σ.X⟩ a w':=by
  obtain ⟨F,hF⟩:=hr.res
  refine ⟨F k,(hF.holds k _ _ _ hk).1,fun b o ho=>(hF.mem k b o ho).2.1,(hF.holds k _ _ _ hk).2,fun w' H' R' hw hH' hsub hroot hR' hsz hos htp hou => ?_⟩
  have hst:∀ j,(⟨σ.slots,(k,some ⟨0,[],.res R'⟩)::σ.boxes,σ.X⟩:St).stat j=if j=k then some (some ⟨0,[],.res R'⟩) else σ.stat j:=fun j=>stat_cons _ _ _ _ j _
  have live:∀ j b,(⟨σ.slots,(k,some ⟨0,[],.res R'⟩)::σ.boxes,σ.X⟩:St).stat j=some (some b)→∃ b0,σ.stat j=some (some b0)∧(j≠k→b=b0):=fun j b hj=>by
    rw [hst] at hj
    by_cases e:j=k
    · exact ⟨_,by rw [e];exact hk,fun h=>absurd e h⟩
    · rw [if_neg e] at hj;exact ⟨b,hj,fun _=>rfl⟩
  have hlater:Later σ.stat (⟨σ.slots,(k,some ⟨0,[],.res R'⟩)::σ.boxes,σ.X⟩:St).stat ι ι:=later_same ι fun j hj=>by
    rw [hst]
    by_cases e:j=k
    · rw [if_pos e,e];exact ⟨by simp,fun _ _=>⟨_,hk⟩⟩
    · rw [if_neg e];exact ⟨hj,fun b1 hb1=>⟨b1,hb1⟩⟩
  have hout:∀ b o,F k b=none→w.heap[b]? = some o→w'.heap[b]? = some o:=fun b o h1 h2=>by rw [hw b h1 (Array.getElem?_eq_some_iff.1 h2).1];exact h2
  have hnot:∀ b,(∀ o,F k b=some o→False)→F k b=none:=fun b h=>by
    cases ho:F k b with
    | none=>rfl
    | some o=>exact (h o ho).elim
  exact {
    defers:=hr.defers,size:=hr.size
    slots:=fun d lv hd=>by
      obtain ⟨v,hv,hvr⟩:=hr.slots d lv hd
      exact ⟨v,hv,LV.rel_later hlater hvr⟩
    boxes:=fun j b hj hbk=>by
      by_cases ej:j=k
      · rw [hst,if_pos ej] at hj
        simp only [Option.some.injEq] at hj
        subst hj
        cases hbk
      · obtain ⟨b0,h0,h1⟩:=live j b hj
        have:=h1 ej
        subst this
        obtain ⟨arr,fr,g1,g2,g3,g4⟩:=hr.boxes j b h0 hbk
        exact ⟨arr,fr,hout _ _ (hnot _ fun o ho=>ej ((hF.mem k _ o ho).2.2.2.2.2 j b h0 rfl)) g1,g2,g3,Box.rel_later hlater g4⟩
    own:=fun j b hj=>by obtain ⟨b0,h0,_⟩:=live j b hj;exact hr.own j b0 h0
    inj:=fun i j bi bj hi hj he=>by
      obtain ⟨b1,h1,_⟩:=live i bi hi
      obtain ⟨b2,h2,_⟩:=live j bj hj
      exact hr.inj i j b1 b2 h1 h2 he
    keep:=fun j b hj hge=>by obtain ⟨b0,h0,_⟩:=live j b hj;exact hr.keep j b0 h0 hge
    ext:=fun b o hb=>hout b o (hnot _ fun o' ho=>by
      have:=(hF.mem k b o' ho).2.2.2.2.1
      have hb:σ.X b=some o:=hb
      rw [hb] at this;cases this) (hr.ext b o hb)
    res:=by
      refine ⟨fun j=>open Classical in if j=k then H' else F j,fun j e' cs' R1 hj => ?_,fun j b o ho => ?_,fun i j b h1 h2 => ?_⟩
      · rw [hst] at hj
        by_cases ej:j=k
        · rw [if_pos ej] at hj
          cases hj
          rw [if_pos ej,ej]
          exact ⟨hR',hroot⟩
        · rw [if_neg ej] at hj
          rw [if_neg ej]
          exact hF.holds j e' cs' R1 hj
      · by_cases ej:j=k
        · rw [if_pos ej] at ho
          cases ho2:F k b with
          | none=>exact absurd ho2 (hsub b (by rw [ho];simp))
          | some o2 =>
            obtain ⟨_,h2,_,h4,h5,h6⟩:=hF.mem k b o2 ho2
            refine ⟨⟨0,[],R',by rw [hst,if_pos ej]⟩,(hH' b o ho).1,(hH' b o ho).2,h4,h5,fun i bi hi ei => ?_⟩
            obtain ⟨b0,h0,_⟩:=live i bi hi
            rw [ej];exact h6 i b0 h0 ei
        · rw [if_neg ej] at ho
          obtain ⟨⟨e1,cs1,R1,h1⟩,h2,h3,h4,h5,h6⟩:=hF.mem j b o ho
          refine ⟨⟨e1,cs1,R1,by rw [hst,if_neg ej];exact h1⟩,hout b o (hnot _ fun o' ho'=>ej (hF.apart j k b (by rw [ho];simp) (by rw [ho'];simp))) h2,h3,h4,h5,fun i bi hi ei => ?_⟩
          obtain ⟨b0,h0,_⟩:=live i bi hi
          exact h6 i b0 h0 ei
      · by_cases ei:i=k
        · by_cases ej:j=k
          · rw [ei,ej]
          · rw [if_pos ei] at h1
            rw [if_neg ej] at h2
            rw [ei];exact hF.apart k j b (hsub b h1) h2
        · by_cases ej:j=k
          · rw [if_neg ei] at h1
            rw [if_pos ej] at h2
            rw [ej];exact hF.apart i k b h1 (hsub b h2)
          · rw [if_neg ei] at h1
            rw [if_neg ej] at h2
            exact hF.apart i j b h1 h2
    frame:=fun b hb hn=>by
      rw [← hr.frame b hb hn]
      refine hw b (hnot _ fun o ho => ?_) (Nat.lt_of_lt_of_le hb hr.big)
      rcases (hF.mem k b o ho).2.2.2.1 with h1|h1
      · exact hn h1
      · omega
    big:=Nat.le_trans hr.big hsz
    os:=hos.trans hr.os,tape:=htp.trans hr.tape,output:=hou.trans hr.output }
theorem Rel.resNew (hr:Rel n C ι σ a w) {k m:Nat} {o:Obj} {R:Rsc} (hlt:k<1000000) (hk:σ.stat k=none) (ho:Loose o) (hR:∀ b,R.holds (b,m) (withBlock (fun _=>none) b o)):
    Rel n C (put1 ι k (w.heap.size,m)) ⟨σ.slots,(k,some ⟨0,[],.res R⟩)::σ.boxes,σ.X⟩ a (w.alloc o):=by
  obtain ⟨F,hF⟩:=hr.res
  have hst:∀ j,(⟨σ.slots,(k,some ⟨0,[],.res R⟩)::σ.boxes,σ.X⟩:St).stat j=if j=k then some (some ⟨0,[],.res R⟩) else σ.stat j:=fun j=>stat_cons _ _ _ _ j _
  have hlater:Later σ.stat (⟨σ.slots,(k,some ⟨0,[],.res R⟩)::σ.boxes,σ.X⟩:St).stat ι (put1 ι k (w.heap.size,m)):=by
    intro j hj
    have hne:j≠k:=by rintro rfl;exact hj hk
    rw [hst,if_neg hne]
    exact ⟨hj,fun b' hb'=>⟨by simp [put1,hne],b',hb'⟩⟩
  have hXlt:∀ j o,σ.X j=some o→j<w.heap.size:=fun j o hj=>(Array.getElem?_eq_some_iff.1 (hr.ext j o hj)).1
  have hFlt:∀ j b,F j b≠none→b<w.heap.size:=fun j b hb=>by
    cases h:F j b with
    | none=>exact absurd h hb
    | some o=>exact (Array.getElem?_eq_some_iff.1 (hF.mem j b o h).2.1).1
  have hnew:(w.alloc o).heap[w.heap.size]? = some o:=heap_alloc_new w _
  exact {
    defers:=hr.defers,size:=hr.size
    slots:=fun d lv hd=>by
      obtain ⟨v,hv,hvr⟩:=hr.slots d lv hd
      exact ⟨v,hv,LV.rel_later hlater hvr⟩
    boxes:=fun j b hj hbk=>by
      rw [hst] at hj
      by_cases e:j=k
      · rw [if_pos e] at hj
        simp only [Option.some.injEq] at hj
        subst hj
        cases hbk
      · rw [if_neg e] at hj
        obtain ⟨arr,fr,g1,g2,g3,g4⟩:=hr.boxes j b hj hbk
        refine ⟨arr,fr,?_,g2,by simp only [put1,e,if_false];exact g3,Box.rel_later hlater g4⟩
        simp only [put1,e,if_false]
        rw [heap_alloc_lt (hr.blocklt hj)]
        exact g1
    own:=fun j b hj=>by
      rw [hst] at hj
      by_cases e:j=k
      · subst e
        simp only [put1,if_true]
        refine ⟨.inr hr.big,?_⟩
        show σ.X w.heap.size=none
        cases hx:σ.X w.heap.size with
        | none=>rfl
        | some o=>exact absurd (hXlt _ o hx) (by omega)
      · rw [if_neg e] at hj
        simp only [put1,e,if_false]
        exact hr.own j b hj
    inj:=fun i j bi bj hi hj heq=>by
      rw [hst] at hi hj
      by_cases ei:i=k
      · by_cases ej:j=k
        · rw [ei,ej]
        · rw [if_neg ej] at hj
          have:=hr.blocklt hj
          simp only [put1,ei,if_true,ej,if_false] at heq
          omega
      · rw [if_neg ei] at hi
        by_cases ej:j=k
        · have:=hr.blocklt hi
          simp only [put1,ej,if_true,ei,if_false] at heq
          omega
        · rw [if_neg ej] at hj
          simp only [put1,ei,ej,if_false] at heq
          exact hr.inj i j bi bj hi hj heq
    keep:=fun j b hj hge=>by
      rw [hst] at hj
      have e:j≠k:=by omega
      rw [if_neg e] at hj
      simp only [put1,e,if_false]
      exact hr.keep j b hj hge
    ext:=fun j o hj=>by rw [heap_alloc_lt (hXlt j o hj)];exact hr.ext j o hj
    res:=by
      refine ⟨fun j=>open Classical in if j=k then withBlock (fun _=>none) w.heap.size o else F j,fun j e' cs' R1 hj => ?_,fun j b ob hob => ?_,fun i j b h1 h2 => ?_⟩
      · rw [hst] at hj
        by_cases ej:j=k
        · rw [if_pos ej] at hj
          cases hj
          rw [if_pos ej]
          simp only [put1,ej,if_true]
          exact ⟨hR _,by rw [withBlock_at];simp⟩
        · rw [if_neg ej] at hj
          rw [if_neg ej]
          simp only [put1,ej,if_false]
          exact hF.holds j e' cs' R1 hj
      · by_cases ej:j=k
        · rw [if_pos ej] at hob
          unfold withBlock at hob
          split at hob
          · rename_i eb
            cases hob
            subst eb
            refine ⟨⟨0,[],R,by rw [hst,if_pos ej]⟩,hnew,ho,.inr hr.big,?_,fun i bi hi ei => ?_⟩
            · cases hx:σ.X w.heap.size with
              | none=>rfl
              | some o'=>exact absurd (hXlt _ o' hx) (by omega)
            · rw [hst] at hi
              by_cases e:i=k
              · rw [e,ej]
              · rw [if_neg e] at hi
                simp only [put1,e,if_false] at ei
                have:=hr.blocklt hi
                omega
          · cases hob
        · rw [if_neg ej] at hob
          obtain ⟨⟨e1,cs1,R1,h1⟩,h2,h3,h4,h5,h6⟩:=hF.mem j b ob hob
          have hlt:=(Array.getElem?_eq_some_iff.1 h2).1
          refine ⟨⟨e1,cs1,R1,by rw [hst,if_neg ej];exact h1⟩,by rw [heap_alloc_lt hlt];exact h2,h3,h4,h5,fun i bi hi ei => ?_⟩
          rw [hst] at hi
          by_cases e:i=k
          · simp only [put1,e,if_true] at ei
            omega
          · rw [if_neg e] at hi
            simp only [put1,e,if_false] at ei
            exact h6 i bi hi ei
      · have hb:∀ i,i≠k→F i b≠none→withBlock (fun _=>none) w.heap.size o b=none:=fun i _ h=>by
          have:=hFlt i b h
          unfold withBlock
          rw [if_neg (by omega)]
        by_cases ei:i=k
        · by_cases ej:j=k
          · rw [ei,ej]
          · rw [if_pos ei] at h1
            rw [if_neg ej] at h2
            exact absurd (hb j ej h2) h1
        · by_cases ej:j=k
          · rw [if_neg ei] at h1
            rw [if_pos ej] at h2
            exact absurd (hb i ei h1) h2
          · rw [if_neg ei] at h1
            rw [if_neg ej] at h2
            exact hF.apart i j b h1 h2
    frame:=fun j hj hn=>by rw [heap_alloc_lt (Nat.lt_of_lt_of_le hj hr.big)];exact hr.frame j hj hn
    big:=by simp;exact Nat.le_succ_of_le hr.big
    os:=hr.os,tape:=hr.tape,output:=hr.output }
end
structure KL (P:Program) (k:TypeId):Prop where
  check:∀ (w:World) (em:Bool) {v:Value} {l:Lit},Go.keyOf P k v=some l→(Instr.checkKey em 10000 k v).run P w = .ok () w
  find:∀ (w:World) {x:Value} {lx:Lit},Go.keyOf P k x=some lx→∀ es:List MapEntry,(∀ e∈es,∃ l,Go.keyOf P k e.key=some l) →
    ((Instr.findKey k x es).run P w = .ok none w∧∀ e∈es,e.key≠x)∨∃ j e,(Instr.findKey k x es).run P w = .ok (some (j,e.val)) w∧es[j]? = some e∧e.key=x
  stays:∀ (w:World) {v:Value} {l:Lit},Go.keyOf P k v=some l→(Instr.keyThatStays v v).run P w = .ok v w
theorem KL.of {P:Program} {k:TypeId} (L:WideMaps.KeyLaw P k):KL P k:=⟨L.check,L.find,L.stays⟩
theorem KL.str {P:Program} {k:TypeId} (h:P.underlying k=some .string):KL P k:=.of (WideMaps.string_law h)
theorem keyOf_int {P:Program} {k:TypeId} {q:IntKind} (hk:P.underlying k=some (.int q)) {v:Value}:Go.keyOf P k v=mapKey P k v:=by unfold Go.keyOf;simp only [hk]
theorem int_of_keyOf {P:Program} {k:TypeId} {q:IntKind} (hk:P.underlying k=some (.int q)) {v:Value} {l:Lit} (h:Go.keyOf P k v=some l):∃ n,v = .int q n:=by
  rw [keyOf_int hk] at h
  unfold mapKey at h
  cases v<;>simp [hk] at h
  rename_i q' n
  exact ⟨n,by rw [h.1.1]⟩
open Go.MapKept Go.WideShapes Go.WideMaps in
theorem KL.int {P:Program} {k:TypeId} {q:IntKind} (hk:P.underlying k=some (.int q)):KL P k where
  check w em _ _ h:=by
    obtain ⟨n,rfl⟩:=int_of_keyOf hk h
    exact run_checkKey hk (d:=.int q) (k:=.int q n) rfl em 9999
  find w _ _ hx es hes:=by
    obtain ⟨n,rfl⟩:=int_of_keyOf hk hx
    have hks:∀ x∈es,IsKey (.int q) x.key:=fun x hxm=>by
      obtain ⟨l,hl⟩:=hes x hxm
      obtain ⟨n',e⟩:=int_of_keyOf hk hl
      rw [e]
      exact rfl
    rcases findNow_spec (d:=.int q) (k:=.int q n) rfl es 0 hks with ⟨h1,h2⟩|⟨j,e0,h1,h2,h3⟩
    · exact Or.inl ⟨run_findKey hk h1,h2⟩
    · exact Or.inr ⟨j,e0,by simpa using run_findKey hk h1,h2,h3⟩
  stays w _ _ h:=by
    obtain ⟨n,rfl⟩:=int_of_keyOf hk h
    exact run_keyThatStays (d:=.int q) (k:=.int q n) rfl
def mapR (P:Program) (kt:TypeId) (m:List (Value×Value)):Rsc:=⟨fun ρ H=>∃ es clock,H=withBlock (fun _=>none) ρ.1 (.map es clock)∧es.toList.map (fun x:MapEntry=>(x.key,x.val))=m∧(m.map (·.1)).Nodup∧∀ p∈m,∃ l,Go.keyOf P kt p.1=some l⟩
def At (m:List (Value×Value)) (key v z:Value):Prop:=(key,v)∈m∨((∀ p∈m,p.1≠key)∧v=z)
def Put (m:List (Value×Value)) (key v:Value) (m':List (Value×Value)):Prop:=(∃ i old,m[i]? = some (key,old)∧m'=m.set i (key,v))∨((∀ p∈m,p.1≠key)∧m'=m++[(key,v)])
theorem same_ix {m:List (Value×Value)} (hnd:(m.map (·.1)).Nodup) {i j:Nat} {key v u:Value} (hi:m[i]? = some (key,v)) (hj:m[j]? = some (key,u)):i=j:=by
  have hpi:(m.map (·.1))[i]? = some key:=by rw [List.getElem?_map,hi];rfl
  have hpj:(m.map (·.1))[j]? = some key:=by rw [List.getElem?_map,hj];rfl
  obtain ⟨hi,hie⟩:=List.getElem?_eq_some_iff.1 hpi
  obtain ⟨hjj,hje⟩:=List.getElem?_eq_some_iff.1 hpj
  have hp:=List.pairwise_iff_getElem.1 hnd
  rcases Nat.lt_trichotomy i j with h|h|h
  · exact absurd (hie.trans hje.symm) (hp i j hi hjj h)
  · exact h
  · exact absurd (hje.trans hie.symm) (hp j i hjj hi h)
theorem same_at {m:List (Value×Value)} (hnd:(m.map (·.1)).Nodup) {i j:Nat} {key v u:Value} (hi:m[i]? = some (key,v)) (hj:m[j]? = some (key,u)):v=u:=by
  have e:=same_ix hnd hi hj
  subst e
  rw [hi] at hj
  simp only [Option.some.injEq,Prod.mk.injEq] at hj
  exact hj.2
def mapOf (P:Program) (t:TypeId):Option (TypeId×TypeId):=match P.underlying t with|some (.map k e)=>some (k,e)|_=>none
theorem mapOf_spec {P:Program} {t k e:TypeId} (h:mapOf P t=some (k,e)):P.underlying t=some (.map k e):=by
  unfold mapOf at h
  split at h
  · rename_i h1;cases h;exact h1
  · cases h
section
variable {P:Program} {n:Nat} {ops os:List Oper} {acc:List Eff} {K:List Eff→St→Prop} {s:List (Nat×LV)} {bx:List (Nat×Option Box)} {X:Nat→Option Obj} {σ:St}
theorem LOK.makeMap {d k:Nat} {t kt:TypeId} {ty:TypeId} {pos:String} {after_:Array Edge} {g:Option (Nat×Bool)} (hk:σ.fresh k=true):
    LOK P n ops ⟨some d,.makeMap t none,ty,pos,after_,g⟩ σ ⟨[(d,.sv (.one (.mp k)))],[],[(k,some ⟨0,[],.res (mapR P kt [])⟩)]⟩:=
  LOK.make fun σ' ha C ι a w hr=>by
    have hk':σ'.stat k=none:=(ha.stat k (.inr (by simp))).trans (St.fresh_none hk)
    have hlt:=St.fresh_lt hk
    have hrun:=run_makeMap_plain (P:=P) (w:=w) t
    refine ⟨.map (some w.heap.size),w.alloc (.map #[] 0),put1 ι k (w.heap.size,0),?_,?_,?_⟩
    · simp only [execOp,Option.map_none,Sem.run_bind,hrun,Result.andThen_ok,Sem.run_pure]
    · exact hr.resNew hlt hk' trivial fun b=>⟨#[],0,rfl,rfl,List.nodup_nil,fun _ h=>by cases h⟩
    · simp [LV.rel,SV.rel,CV.rel,stat_cons,put1]
theorem K.makeMap {d:Nat} {t:TypeId} (kt:TypeId) {ty:TypeId} {pos:String} {after_:Array Edge} {g:Option (Nat×Bool)} (hk:(⟨s,bx,X⟩:St).fresh d=true) (hw:Want ops s g)
    (kont:RunK P n ops os ⟨(d,.sv (.one (.mp d)))::s,(d,some ⟨0,[],.res (mapR P kt [])⟩)::bx,X⟩ (⟨[(d,.sv (.one (.mp d)))],[],[(d,some ⟨0,[],.res (mapR P kt [])⟩)]⟩::acc) K):
    RunK P n ops (⟨some d,.makeMap t none,ty,pos,after_,g⟩::os) ⟨s,bx,X⟩ acc K:=RunK.g2 (LOK.makeMap hk) hw kont
theorem LOK.mapUpdate {k:Nat} {t kt et:TypeId} {x y u:Operand} {ty:TypeId} {pos:String} {after_:Array Edge} {g:Option (Nat×Bool)} {m m':List (Value×Value)} {e:TypeId} {cs:List CV} {key v:Value} {l:Lit} {lv:LV}
    (hx:σ.ev x=some (.sv (.one (.mp k)))) (hy:σ.ev y=some (.sv (.one (.val key)))) (hu:σ.ev u=some lv) (hlv:∀ (S:Nat→Option (Option Box)) (ι:Nat→Nat×Nat) (w:Value),lv.rel S ι w→w=v) (hk:σ.stat k=some (some ⟨e,cs,.res (mapR P kt m)⟩)) (hm:mapOf P t=some (kt,et)) (L:KL P kt) (hkey:Go.keyOf P kt key=some l) (hput:Put m key v m'):
    LOK P n ops ⟨none,.mapUpdate t x y u,ty,pos,after_,g⟩ σ ⟨[],[],[(k,some ⟨0,[],.res (mapR P kt m')⟩)]⟩:=
  LOK.act fun σ' ha C ι a w hr=>by
    have hk':=(ha.stat k (.inr (by simp))).trans hk
    have hv:=hr.ev ((ha.ev (x:=x) (by simp [Op.operands])).trans hx)
    have hkv:a.eval y=key:=hr.ev ((ha.ev (x:=y) (by simp [Op.operands])).trans hy)
    have huv:a.eval u=v:=hlv _ _ _ (hr.ev ((ha.ev (x:=u) (by simp [Op.operands])).trans hu))
    simp only [LV.rel,SV.rel,CV.rel,hk'] at hv
    obtain ⟨H,⟨es,clock,hHe,he,hnd,hkeys⟩,hH,_,hstep⟩:=hr.resStep hk'
    have hb:=hH (ι k).1 (.map es clock) (by rw [hHe];exact withBlock_at _ _ _)
    have ht:=mapOf_spec hm
    have hall:∀ x∈es.toList,∃ l,Go.keyOf P kt x.key=some l:=fun x hx=>by
      refine hkeys (x.key,x.val) ?_
      rw [← he]
      exact List.mem_map.2 ⟨x,hx,rfl⟩
    have hset:=fun (o':Obj)=>MapKept.heap_set (o':=o') hb
    have hmain:∃ es' clock',(Instr.mapUpdate t (.map (some (ι k).1)) key v).run P w = .ok () { w with heap:=w.heap.setIfInBounds (ι k).1 (.map es' clock') }∧es'.toList.map (fun x:MapEntry=>(x.key,x.val))=m'∧(m'.map (·.1)).Nodup∧∀ p∈m',∃ l,Go.keyOf P kt p.1=some l:=by
      rcases L.find w hkey es.toList hall with ⟨h1,h2⟩|⟨j,e0,h1,h2,h3⟩
      · have hno:∀ p∈m,p.1≠key:=fun p hp=>by
          rw [← he] at hp
          obtain ⟨x,hx,rfl⟩:=List.mem_map.1 hp
          exact h2 x hx
        have hm':m'=m++[(key,v)]:=by
          rcases hput with ⟨i,old,h4,_⟩|⟨_,h4⟩
          · exact absurd rfl (hno _ (List.mem_of_getElem? h4))
          · exact h4
        refine ⟨es.push { key:=key,val:=v,born:=clock },clock+1,?_,by rw [hm',Array.toList_push,List.map_append,he];rfl,?_,?_⟩
        · simp [Instr.mapUpdate,run_underlying ht,MapKept.run_getObj_map hb,L.check w _ hkey,h1,MapKept.run_setObj_map _ hb,Result.andThen]
        · rw [hm',List.map_append]
          refine List.nodup_append.2 ⟨hnd,by simp,fun x hx y hy e => ?_⟩
          obtain ⟨p,hp,rfl⟩:=List.mem_map.1 hx
          simp at hy
          rw [hy] at e
          exact hno p hp e
        · intro p hp
          rw [hm'] at hp
          rcases List.mem_append.1 hp with hp|hp
          · exact hkeys p hp
          · simp at hp;subst hp;exact ⟨l,hkey⟩
      · have hj:es[j]? = some e0:=by simpa using h2
        have hmj:m[j]? = some (key,e0.val):=by rw [← he,List.getElem?_map,h2,← h3];rfl
        have hm':m'=m.set j (key,v):=by
          rcases hput with ⟨i,old,h4,h5⟩|⟨h4,_⟩
          · have hij:i=j:=same_ix hnd h4 hmj
            rw [h5,hij]
          · exact absurd rfl (h4 _ (List.mem_of_getElem? hmj))
        refine ⟨es.modify j fun x=>{ x with key:=key,val:=v },clock,?_,?_,?_,?_⟩
        · have hst:=L.stays w hkey
          have hks:((es[j]?).map (·.key)).getD key=key:=by rw [hj];exact h3
          simp [Instr.mapUpdate,run_underlying ht,MapKept.run_getObj_map hb,L.check w _ hkey,h1,hj,h3,hst,MapKept.run_setObj_map _ hb,Result.andThen]
        · rw [hm',← he]
          apply List.ext_getElem?
          intro i
          rw [List.getElem?_map,Array.getElem?_toList,Array.getElem?_modify,List.getElem?_set,List.getElem?_map,Array.getElem?_toList]
          by_cases hij:j=i
          · subst hij
            simp [hj]
            have:=(Array.getElem?_eq_some_iff.1 hj).1
            omega
          · simp [hij]
        · rw [hm',List.map_set]
          have:(m.map (·.1)).set j key=m.map (·.1):=by
            apply List.ext_getElem?
            intro i
            rw [List.getElem?_set]
            by_cases hij:j=i
            · subst hij
              rw [if_pos rfl,List.getElem?_map,hmj]
              have:=(List.getElem?_eq_some_iff.1 hmj).1
              simp [this]
            · rw [if_neg hij]
          rw [this];exact hnd
        · intro p hp
          rw [hm'] at hp
          rcases List.mem_or_eq_of_mem_set hp with hp|rfl
          · exact hkeys p hp
          · exact ⟨l,hkey⟩
    obtain ⟨es',clock',hrun,he',hnd',hkeys'⟩:=hmain
    refine ⟨{ w with heap:=w.heap.setIfInBounds (ι k).1 (.map es' clock') },ι,by simp only [execOp,hv,hkv,huv,Sem.run_bind,hrun,Result.andThen_ok,Sem.run_pure],?_⟩
    refine hstep _ (withBlock (fun _=>none) (ι k).1 (.map es' clock')) _ (fun b hb2 _ => ?_) (fun b o ho => ?_) (fun b h => ?_) (by rw [withBlock_at];simp) ⟨es',clock',rfl,he',hnd',hkeys'⟩ (by simp) rfl rfl rfl
    · refine (hset _).2 b fun e => ?_
      rw [hHe,e,withBlock_at] at hb2
      cases hb2
    · unfold withBlock at ho
      split at ho
      · rename_i e;cases ho;subst e
        exact ⟨(hset _).1,trivial⟩
      · cases ho
    · rw [hHe]
      unfold withBlock at h ⊢
      split
      · simp
      · rename_i hne;rw [if_neg hne] at h;exact h
end
end Go.Lg
end
section
namespace Go.Lg
open Go Go.RowKit
section
variable {P:Program} {n:Nat} {C:Ctx} {c:Code} {Q:Exit→St→Prop} {X:Nat→Option Obj}
theorem Rel.freezePtr {ι:Nat→Nat×Nat} {a:Act} {w:World} {s:List (Nat×LV)} {bx:List (Nat×Option Box)} {d k off:Nat} {el:TypeId} {vals:List Value} {row:Bool}
    (hs:s.all (fun p=>p.2.inUse bx)=true) (hb:bx.all (fun p=>match p.2 with|some b=>b.cells.all (CV.inUse bx)|none=>true)=true) (hk:look k bx=none)
    (hr:Rel n C ι ⟨(d,.sv (.one (.ptr k off)))::s,(k,some ⟨el,vals.map .val,row⟩)::bx,X⟩ a w):
    ∃ (blk:Nat) (arr:Array Value) (fr:Nat×Nat),X blk=none∧Frozen C blk arr fr∧(∃ sp,arr.toList=vals++sp) ∧
      Rel n C ι ⟨(d,.sv (.one (.val (.pointer (some ⟨blk,off,none⟩)))))::s,bx,withBlock X blk (.cells arr el fr)⟩ a w:=by
  have hst:(⟨(d,.sv (.one (.ptr k off)))::s,(k,some ⟨el,vals.map .val,row⟩)::bx,X⟩:St).stat k=some (some ⟨el,vals.map .val,row⟩):=by
    simp [St.stat,look]
  have hlk:∀ k' x,look k' bx=some x→k'≠k:=fun k' x h' e=>by rw [e,hk] at h';cases h'
  have hstb:∀ k' x,look k' bx=some x→(⟨(d,.sv (.one (.ptr k off)))::s,(k,some ⟨el,vals.map .val,row⟩)::bx,X⟩:St).stat k'=some x:=fun k' x h'=>by
    simp only [St.stat,look]
    cases e:Nat.beq k k' with
    | true=>exact absurd (Nat.eq_of_beq_eq_true e).symm (hlk k' x h')
    | false=>exact h'
  obtain ⟨arr,fr,harr,hth,hsz,hbr⟩:=hr.boxes k _ hst rfl
  obtain ⟨v,hv,hvr⟩:=hr.slots d (.sv (.one (.ptr k off))) (by simp [St.slot,look])
  simp only [LV.rel,SV.rel,CV.rel] at hvr
  rw [hst] at hvr
  subst hvr
  have hXn:X (ι k).1=none:=(hr.own k _ hst).2
  have hsp:∃ sp,arr.toList=vals++sp:=by
    unfold Box.rel at hbr
    cases hrow:row with
    | false =>
      rw [hrow] at hbr
      exact ⟨[],by rw [List.append_nil];exact rel_vals hbr⟩
    | true =>
      rw [hrow] at hbr
      obtain ⟨us,sp,e,hl⟩:=hbr
      exact ⟨sp,by rw [e,rel_vals hl]⟩
  refine ⟨(ι k).1,arr,fr,hXn,⟨(hr.own k _ hst).1,hth⟩,hsp,?_⟩
  have hon:SameOn bx (⟨(d,.sv (.one (.ptr k off)))::s,(k,some ⟨el,vals.map .val,row⟩)::bx,X⟩:St).stat (fun k=>look k bx):=fun k' x h'=>(hstb k' x h').trans h'.symm
  exact {
    defers:=hr.defers,size:=hr.size
    slots:=fun d' lv hd=>by
      simp only [St.slot,look] at hd
      cases e:Nat.beq d d' with
      | true =>
        rw [e] at hd
        simp at hd
        subst hd
        have:=Nat.eq_of_beq_eq_true e
        subst this
        exact ⟨_,hv,rfl⟩
      | false =>
        rw [e] at hd
        have hd:look d' s=some lv:=by simpa using hd
        obtain ⟨v',hv',hr'⟩:=hr.slots d' lv (by simp only [St.slot,look,e];exact hd)
        exact ⟨v',hv',LV.rel_on hon (List.all_eq_true.1 hs _ (look_mem hd)) hr'⟩
    res:=by
      obtain ⟨F,hF⟩:=hr.res
      refine hF.keep (fun j e cs R hj=>⟨hstb j _ hj,rfl⟩) (fun _ _ _ _ _ hj=>hj) (fun _ _ ho=>ho) (fun b _ hx hne _ => ?_) (fun j bj hj=>.inl ⟨bj,hstb j _ hj,rfl⟩)
      show withBlock X (ι k).1 _ b=none
      unfold withBlock
      rw [if_neg (fun e=>hne k _ hst rfl e.symm)]
      exact hx
    boxes:=fun k' b hb' hbk=>by
      have hb':look k' bx=some (some b):=hb'
      obtain ⟨arr',fr',h1,h2,h3,h4⟩:=hr.boxes k' b (hstb k' _ hb') hbk
      exact ⟨arr',fr',h1,h2,h3,Box.rel_on hon (by simpa using List.all_eq_true.1 hb _ (look_mem hb')) h4⟩
    own:=fun k' b hb'=>by
      have hb':look k' bx=some (some b):=hb'
      obtain ⟨h1,h2⟩:=hr.own k' b (hstb k' _ hb')
      refine ⟨h1,?_⟩
      show withBlock X (ι k).1 _ (ι k').1=none
      unfold withBlock
      rw [if_neg (fun e=>hlk k' _ hb' (hr.inj k' k b _ (hstb k' _ hb') hst e))]
      exact h2
    inj:=fun k1 k2 b1 b2 h1 h2 he=>hr.inj k1 k2 b1 b2 (hstb k1 _ h1) (hstb k2 _ h2) he
    keep:=fun k' b hb' hge=>hr.keep k' b (hstb k' _ hb') hge
    ext:=fun b o hbo=>by
      have hbo:withBlock X (ι k).1 (.cells arr el fr) b=some o:=hbo
      unfold withBlock at hbo
      by_cases e:b=(ι k).1
      · rw [if_pos e] at hbo
        rw [e,harr];exact hbo
      · rw [if_neg e] at hbo
        exact hr.ext b o hbo
    frame:=hr.frame,big:=hr.big,os:=hr.os,tape:=hr.tape,output:=hr.output }
theorem LWP.freezePtr {s:List (Nat×LV)} {bx:List (Nat×Option Box)} {d k off:Nat} {el:TypeId} {vals:List Value} {row:Bool}
    (hs:s.all (fun p=>p.2.inUse bx)=true) (hb:bx.all (fun p=>match p.2 with|some b=>b.cells.all (CV.inUse bx)|none=>true)=true) (hk:look k bx=none)
    (h:∀ (blk:Nat) (arr:Array Value) (fr:Nat×Nat),X blk=none→Frozen C blk arr fr→(∃ sp,arr.toList=vals++sp) →
      LWP P n C c Q ⟨(d,.sv (.one (.val (.pointer (some ⟨blk,off,none⟩)))))::s,bx,withBlock X blk (.cells arr el fr)⟩):
    LWP P n C c Q ⟨(d,.sv (.one (.ptr k off)))::s,(k,some ⟨el,vals.map .val,row⟩)::bx,X⟩:=by
  refine ⟨fun ι a w hr => ?_⟩
  obtain ⟨blk,arr,fr,h1,h2,h5,h6⟩:=hr.freezePtr hs hb hk
  exact (h blk arr fr h1 h2 h5).out ι a w h6
end
section
variable {P:Program} {n:Nat} {ops os:List Oper} {acc:List Eff} {K:List Eff→St→Prop} {s:List (Nat×LV)} {bx:List (Nat×Option Box)} {X:Nat→Option Obj} {σ:St}
theorem LOK.makeFunc {d:Nat} {fn:Fn} {caps:List Operand} {us:List Value} {lvs:List LV} {ty:TypeId} {pos:String} {after_:Array Edge} {g:Option (Nat×Bool)} (hc:evs σ caps=some lvs) (hu:plainLVs lvs=some us):
    LOK P n ops ⟨some d,.makeFunc fn #[] caps.toArray,ty,pos,after_,g⟩ σ ⟨[(d,.sv (.one (.val (.func fn #[] us.toArray))))],[],[]⟩:=
  LOK.value fun σ' ha C ι a w hr=>by
    have hc':evs σ' caps=some lvs:=by
      rw [evs_agree fun x hx=>ha.ev (by simp [Op.operands,hx])]
      exact hc
    have e:caps.map a.eval=us:=plainLVs_rel hu (evs_rel hr hc')
    exact ⟨.func fn #[] us.toArray,by rw [← e];simp [execOp,Instr.makeFunc],rfl⟩
theorem K.makeFunc {d:Nat} {fn:Fn} {caps:List Operand} {us:List Value} {lvs:List LV} {ty:TypeId} {pos:String} {after_:Array Edge} {g:Option (Nat×Bool)} (hc:evs ⟨s,bx,X⟩ caps=some lvs) (hu:plainLVs lvs=some us) (hw:Want ops s g)
    (kont:RunK P n ops os ⟨(d,.sv (.one (.val (.func fn #[] us.toArray))))::s,bx,X⟩ (⟨[(d,.sv (.one (.val (.func fn #[] us.toArray))))],[],[]⟩::acc) K):
    RunK P n ops (⟨some d,.makeFunc fn #[] caps.toArray,ty,pos,after_,g⟩::os) ⟨s,bx,X⟩ acc K:=RunK.g1 (LOK.makeFunc hc hu) hw kont
theorem LOK.callF {d:Nat} {x:Operand} {f:FuncId} {caps:List Value} {args:List Operand} {tys:Array TypeId} {ty:TypeId} {pos:String} {after_:Array Edge} {g:Option (Nat×Bool)} {lvs:List LV} {r:LV} (hx:σ.ev x=some (.sv (.one (.val (.func (.func f) #[] caps.toArray))))) (hargs:evs σ args=some lvs) (hcl:lvs.all LV.closed=true) (hs:PSpec P σ.X f (lvs++caps.map fun v=>.sv (.one (.val v))) r):
    LOK P n ops ⟨some d,.call ⟨.value x,args.toArray,tys⟩,ty,pos,after_,g⟩ σ ⟨[(d,r)],[],[]⟩:=by
  refine ⟨fun σ' ha C ι a w hr hd next Q hn => ?_⟩
  have hargs':evs σ' args=some lvs:=by
    rw [evs_agree fun y hy=>ha.ev (by simp [Op.operands,Call.operands,hy])]
    exact hargs
  have hv:a.eval x = .func (.func f) #[] caps.toArray:=hr.ev ((ha.ev (x:=x) (by simp [Op.operands,Call.operands])).trans hx)
  have hrel:=LVs.rel_closed (S':=noS) (ι':=fun _=>(0,0)) hcl (evs_rel hr hargs')
  have happ:∀ {l:List LV} {us:List Value},LVs.rel noS (fun _=>(0,0)) l us→LVs.rel noS (fun _=>(0,0)) (l++caps.map fun v=>.sv (.one (.val v))) (us++caps):=fun {l}=>by
    induction l with
    | nil =>
      intro us h
      cases us with
      | cons=>exact h.elim
      | nil =>
        simp only [List.nil_append]
        have key:∀ cs:List Value,LVs.rel noS (fun _=>(0,0)) (cs.map fun v=>LV.sv (.one (.val v))) cs:=fun cs=>by
          induction cs with
          | nil=>trivial
          | cons c cs ih=>exact ⟨rfl,ih⟩
        exact key caps
    | cons a l ih =>
      intro us h
      cases us with
      | nil=>exact h.elim
      | cons u us=>exact ⟨h.1,ih h.2⟩
  have hc:=hs.out w (args.toArray.map a.eval++caps.toArray) (fun b o hb=>hr.ext b o (by rw [ha.X];exact hb)) (by simpa using happ hrel)
  unfold Oper.wp
  have hrun:(execOp a.eval ⟨some d,.call ⟨.value x,args.toArray,tys⟩,ty,pos,after_,g⟩).run P w = .ok (.enter f (args.toArray.map a.eval++caps.toArray)) w:=by
    simp only [execOp,resolve,hv,Deferred.ofValue,invoke,Sem.run_bind,Sem.run_pure,Result.andThen_ok]
    simp [run_enter hs.enters]
  rw [hrun]
  refine hc.mono ?_
  rintro e w' ⟨v,rfl,hv,hb⟩
  exact hn ι _ w' ((hr.below hb).put (hd d rfl) (LV.rel_later (later_noS _ _ _) hv))
theorem K.callF {d:Nat} {x:Operand} {f:FuncId} {caps:List Value} {args:List Operand} {tys:Array TypeId} {ty:TypeId} {pos:String} {after_:Array Edge} {g:Option (Nat×Bool)} {lvs:List LV} {r:LV} (hx:(⟨s,bx,X⟩:St).ev x=some (.sv (.one (.val (.func (.func f) #[] caps.toArray))))) (hargs:evs ⟨s,bx,X⟩ args=some lvs) (hcl:lvs.all LV.closed=true) (hs:PSpec P X f (lvs++caps.map fun v=>.sv (.one (.val v))) r) (hw:Want ops s g)
    (kont:RunK P n ops os ⟨(d,r)::s,bx,X⟩ (⟨[(d,r)],[],[]⟩::acc) K):
    RunK P n ops (⟨some d,.call ⟨.value x,args.toArray,tys⟩,ty,pos,after_,g⟩::os) ⟨s,bx,X⟩ acc K:=RunK.g1 (LOK.callF hx hargs hcl hs) hw kont
theorem LOK.lookupOk {d k:Nat} {t kt et:TypeId} {x y:Operand} {ty:TypeId} {pos:String} {after_:Array Edge} {g:Option (Nat×Bool)} {m:List (Value×Value)} {e:TypeId} {cs:List CV} {key v z:Value} {l:Lit} {r:Bool} (sv:SV)
    (hx:σ.ev x=some (.sv (.one (.mp k)))) (hy:σ.ev y=some (.sv (.one (.val key)))) (hk:σ.stat k=some (some ⟨e,cs,.res (mapR P kt m)⟩)) (hm:mapOf P t=some (kt,et)) (L:KL P kt) (hkey:Go.keyOf P kt key=some l) (hz:(P.info? et).bind (·.zero)=some z) (hat:At m key v z) (hsv:∀ (S:Nat→Option (Option Box)) (ι:Nat→Nat×Nat),sv.rel S ι v) (hr:r=true↔∃ p∈m,p.1=key):
    LOK P n ops ⟨some d,.lookup t x y true,ty,pos,after_,g⟩ σ ⟨[(d,.tup [sv,.one (.val (.bool r))])],[k],[]⟩:=
  LOK.value fun σ' ha C ι a w hrl=>by
    have hk':=(ha.stat k (.inl (by simp))).trans hk
    have hv:=hrl.ev ((ha.ev (x:=x) (by simp [Op.operands])).trans hx)
    have hkv:a.eval y=key:=hrl.ev ((ha.ev (x:=y) (by simp [Op.operands])).trans hy)
    simp only [LV.rel,SV.rel,CV.rel,hk'] at hv
    obtain ⟨H,⟨es,clock,rfl,he,hnd,hkeys⟩,hH,_⟩:=hrl.resStep hk'
    have hb:=hH (ι k).1 _ (withBlock_at _ _ _)
    have ht:=mapOf_spec hm
    have hzr:(zeroValue et).run P w = .ok z w:=by
      cases hi:P.info? et with
      | none=>rw [hi] at hz;cases hz
      | some i=>rw [hi] at hz;have hz:i.zero=some z:=hz;simp [zeroValue,typeInfo,hi,hz]
    have hall:∀ x∈es.toList,∃ l,Go.keyOf P kt x.key=some l:=fun x hx=>by
      refine hkeys (x.key,x.val) ?_
      rw [← he]
      exact List.mem_map.2 ⟨x,hx,rfl⟩
    have hrun:(Instr.lookup t (.map (some (ι k).1)) key true).run P w = .ok (.tuple #[v,.bool r]) w:=by
      rcases L.find w hkey es.toList hall with ⟨h1,h2⟩|⟨j,e0,h1,h2,h3⟩
      · have hvz:v=z:=by
          rcases hat with h4|⟨_,h4⟩
          · rw [← he] at h4
            obtain ⟨x,hx,hxe⟩:=List.mem_map.1 h4
            cases hxe
            exact absurd rfl (h2 x hx)
          · exact h4
        have hr0:r=false:=by
          cases r with
          | false=>rfl
          | true =>
            obtain ⟨p,hp,h5⟩:=hr.1 rfl
            rw [← he] at hp
            obtain ⟨x,hx,rfl⟩:=List.mem_map.1 hp
            exact absurd h5 (h2 x hx)
        simp [Instr.lookup,run_underlying ht,MapKept.run_getObj_map hb,L.check w _ hkey,h1,hzr,Result.andThen,hvz,hr0]
      · have hmem:e0∈es.toList:=List.mem_of_getElem? h2
        have hv0:e0.val=v:=by
          rcases hat with h4|⟨h4,_⟩
          · obtain ⟨i,hi⟩:=List.getElem?_of_mem h4
            have hmj:m[j]? = some (key,e0.val):=by rw [← he,List.getElem?_map,h2,← h3];rfl
            exact (same_at hnd hmj hi)
          · refine absurd h3 (h4 (e0.key,e0.val) ?_)
            rw [← he]
            exact List.mem_map.2 ⟨e0,hmem,rfl⟩
        have hr1:r=true:=by
          refine hr.2 ⟨(e0.key,e0.val),?_,h3⟩
          rw [← he]
          exact List.mem_map.2 ⟨e0,hmem,rfl⟩
        simp [Instr.lookup,run_underlying ht,MapKept.run_getObj_map hb,L.check w _ hkey,h1,Result.andThen,hv0,hr1]
    exact ⟨.tuple #[v,.bool r],by simp only [execOp,hv,hkv,Sem.run_bind,hrun,Result.andThen_ok,Sem.run_pure],⟨_,rfl,hsv _ _,rfl,trivial⟩⟩
theorem K.lookupOk {d k:Nat} {t kt et:TypeId} {x y:Operand} {ty:TypeId} {pos:String} {after_:Array Edge} {g:Option (Nat×Bool)} {m:List (Value×Value)} {e:TypeId} {cs:List CV} {key v z:Value} {l:Lit} {r:Bool} (sv:SV)
    (hx:(⟨s,bx,X⟩:St).ev x=some (.sv (.one (.mp k)))) (hy:(⟨s,bx,X⟩:St).ev y=some (.sv (.one (.val key)))) (hk:(⟨s,bx,X⟩:St).stat k=some (some ⟨e,cs,.res (mapR P kt m)⟩)) (hm:mapOf P t=some (kt,et)) (L:KL P kt) (hkey:Go.keyOf P kt key=some l) (hz:(P.info? et).bind (·.zero)=some z) (hat:At m key v z) (hsv:∀ (S:Nat→Option (Option Box)) (ι:Nat→Nat×Nat),sv.rel S ι v) (hr:r=true↔∃ p∈m,p.1=key) (hw:Want ops s g)
    (kont:RunK P n ops os ⟨(d,.tup [sv,.one (.val (.bool r))])::s,bx,X⟩ (⟨[(d,.tup [sv,.one (.val (.bool r))])],[k],[]⟩::acc) K):
    RunK P n ops (⟨some d,.lookup t x y true,ty,pos,after_,g⟩::os) ⟨s,bx,X⟩ acc K:=RunK.g1 (LOK.lookupOk sv hx hy hk hm L hkey hz hat hsv hr) hw kont
theorem agg0_of (S:Nat→Option (Option Box)) (ι:Nat→Nat×Nat) (w:Value) (h:LV.rel S ι (.sv (.agg [])) w):w = .agg #[]:=by
  obtain ⟨arr,rfl,h⟩:=h
  cases hl:arr.toList with
  | nil=>rw [show arr = #[] by simpa using hl]
  | cons a l=>rw [hl] at h;exact h.elim
theorem agg0_rel (S:Nat→Option (Option Box)) (ι:Nat→Nat×Nat):SV.rel S ι (.agg []) (.agg #[]):=⟨#[],rfl,trivial⟩
theorem K.mapPut {k:Nat} {t kt et:TypeId} {x y u:Operand} {ty:TypeId} {pos:String} {after_:Array Edge} {g:Option (Nat×Bool)} {m:List (Value×Value)} (m':List (Value×Value)) {e:TypeId} {cs:List CV} {key:Value} {l:Lit}
    (hx:(⟨s,bx,X⟩:St).ev x=some (.sv (.one (.mp k)))) (hy:(⟨s,bx,X⟩:St).ev y=some (.sv (.one (.val key)))) (hu:(⟨s,bx,X⟩:St).ev u=some (.sv (.agg []))) (hk:(⟨s,bx,X⟩:St).stat k=some (some ⟨e,cs,.res (mapR P kt m)⟩)) (hm:mapOf P t=some (kt,et)) (L:KL P kt) (hkey:Go.keyOf P kt key=some l) (hput:Put m key (.agg #[]) m') (hw:Want ops s g)
    (kont:RunK P n ops os ⟨s,(k,some ⟨0,[],.res (mapR P kt m')⟩)::bx,X⟩ (⟨[],[],[(k,some ⟨0,[],.res (mapR P kt m')⟩)]⟩::acc) K):
    RunK P n ops (⟨none,.mapUpdate t x y u,ty,pos,after_,g⟩::os) ⟨s,bx,X⟩ acc K:=RunK.g3 (LOK.mapUpdate hx hy hu agg0_of hk hm L hkey hput) hw kont
end
end Go.Lg
end
section
namespace Go.Lg
open Go Go.RowKit
section
variable {P:Program} {n:Nat} {ops os:List Oper} {acc:List Eff} {K:List Eff→St→Prop} {s:List (Nat×LV)} {bx:List (Nat×Option Box)} {X:Nat→Option Obj} {σ:St}
end
section
variable {P:Program} {n:Nat} {C:Ctx} {c:Code} {Q:Exit→St→Prop} {X:Nat→Option Obj}
end
theorem Le.loose {n:Nat} {C:Ctx} {s:List (Nat×LV)} {bx:List (Nat×Option Box)} {X:Nat→Option Obj} {j:Nat} {e:TypeId} {A:List CV} {r:Bool}:Le n C ⟨s,(j,some ⟨e,A,r⟩)::bx,X⟩ ⟨s,(j,some ⟨e,A,true⟩)::bx,X⟩:=by
  have h:=Le.trim (n:=n) (C:=C) (s:=s) (bx:=bx) (X:=X) (j:=j) (e:=e) (A:=A) (B:=[]) (r:=r)
  rw [List.append_nil] at h
  exact h
end Go.Lg
end
section
namespace Go.Lg
open Go Go.RowKit
section
variable {P:Program} {n:Nat} {ops os:List Oper} {acc:List Eff} {K:List Eff→St→Prop} {s:List (Nat×LV)} {bx:List (Nat×Option Box)} {X:Nat→Option Obj} {σ:St}
theorem K.appendXa {d k len m cap sz by_:Nat} {ad:Option Addr} {t tx e e2:TypeId} {x y:Operand} {ty:TypeId} {pos:String} {after_:Array Edge} {g:Option (Nat×Bool)} {cells:List CV} {row:Bool} {news:List Value}
    (hx:(⟨s,bx,X⟩:St).ev x=some (.sv (.one (.slc k 0 len sz)))) (hk:(⟨s,bx,X⟩:St).stat k=some (some ⟨e,cells,row⟩)) (hcl:cells.length=len*sz) (hy:(⟨s,bx,X⟩:St).ev y=some (.sv (.one (.val (.slice ad m cap))))) (hX:ReadsX X ad news) (h0:ad=none→m=0) (hnl:news.length=m*sz) (hone:∀ u∈news,u.oneCell'=true)
    (hinf:slcInfo P t=some (e,sz,by_)) (htx:P.underlying tx=some (.slice e2)) (hfit:(len+m)*by_≤140737488355328) (h63:len+m<9223372036854775808) (hd:(⟨s,bx,X⟩:St).fresh d=true) {nl:Nat} {nc:List CV} (hnl2:len+m=nl) (hnc:cells++news.map .val=nc) (hw:Want ops s g)
    (kont:RunK P n ops os ⟨(d,.sv (.one (.slc d 0 nl sz)))::s,(d,some ⟨e,nc,true⟩)::(k,none)::bx,X⟩ (⟨[(d,.sv (.one (.slc d 0 nl sz)))],[],[(d,some ⟨e,nc,true⟩),(k,none)]⟩::acc) K):
    RunK P n ops (⟨some d,.call ⟨.builtin .append,#[x,y],#[t,tx]⟩,ty,pos,after_,g⟩::os) ⟨s,bx,X⟩ acc K:=by
  cases ad with
  | some a=>exact Go.Lg.K.appendX hx hk hcl hy hX hnl hone hinf htx hfit h63 hd hnl2 hnc hw kont
  | none =>
    obtain rfl:=h0 rfl
    obtain rfl:news=[]:=List.eq_nil_of_length_eq_zero (by omega)
    exact Go.Lg.K.appendX0 hx hk hcl hy hinf htx hfit h63 hd hnl2 hnc hw kont
end
end Go.Lg
end
section
namespace Go.Lg
open Go Go.RowKit
def CV.fix (k b:Nat):CV→CV
  | .ptr k' off=>cond (Nat.beq k' k) (.val (.pointer (some ⟨b,off,none⟩))) (.ptr k' off)
  | .fn fi gi k'=>cond (Nat.beq k' k) (.val (.func fi #[] (gi b).toArray)) (.fn fi gi k')
  | .hang g h k'=>cond (Nat.beq k' k) (.val (g b)) (.hang g h k')
  | .mp k'=>cond (Nat.beq k' k) (.val (.map (some b))) (.mp k')
  | c=>c
def SV.fix (k b:Nat):SV→SV
  | .one c=>.one (c.fix k b)
  | .agg l=>.agg (l.map (CV.fix k b))
def LV.fix (k b:Nat):LV→LV
  | .sv s=>.sv (s.fix k b)
  | .tup l=>.tup (l.map (SV.fix k b))
def Box.fix (k b:Nat) (x:Box):Box:=⟨x.elem,x.cells.map (CV.fix k b),x.row⟩
def CV.fixIn (k:Nat) (B:List (Nat×Option Box)):CV→Bool
  | .ptr k' _=>Nat.beq k' k||(look k' B).isSome
  | .fn _ _ k'=>Nat.beq k' k||(look k' B).isSome
  | .hang _ _ k'=>Nat.beq k' k||(look k' B).isSome
  | .mp k'=>Nat.beq k' k||(look k' B).isSome
  | c=>c.inUse B
def SV.fixIn (k:Nat) (B:List (Nat×Option Box)):SV→Bool
  | .one c=>c.fixIn k B
  | .agg l=>l.all (CV.fixIn k B)
def LV.fixIn (k:Nat) (B:List (Nat×Option Box)):LV→Bool
  | .sv s=>s.fixIn k B
  | .tup l=>l.all (SV.fixIn k B)
def fixS (k b:Nat) (s:List (Nat×LV)):List (Nat×LV):=s.map fun p=>(p.1,p.2.fix k b)
def fixB (k b:Nat) (s:List (Nat×Option Box)):List (Nat×Option Box):=s.map fun p=>(p.1,p.2.map (Box.fix k b))
section
variable {S T:Nat→Option (Option Box)} {ι:Nat→Nat×Nat} {B:List (Nat×Option Box)} {k:Nat}
def Stay (B:List (Nat×Option Box)) (S T:Nat→Option (Option Box)):Prop := ∀ k',(look k' B).isSome=true→∃ x y,T k'=some x∧S k'=some y∧x.isSome=y.isSome
theorem CV.rel_stay (hT:Stay B S T) {c:CV} (hu:c.inUse B=true) {v:Value} (hr:c.rel S ι v):c.rel T ι v:=by
  cases c with
  | val u=>exact hr
  | junk=>trivial
  | ptr k' off =>
    obtain ⟨x,y,h1,h2,h3⟩:=hT k' hu
    simp only [CV.rel,h1,h2] at hr ⊢
    cases x<;>cases y<;>first|exact hr|cases h3
  | slc k' off n sz =>
    obtain ⟨x,y,h1,h2,h3⟩:=hT k' hu
    simp only [CV.rel,h1,h2] at hr ⊢
    cases x<;>cases y<;>first|exact hr|cases h3
  | mp k' =>
    obtain ⟨x,y,h1,h2,h3⟩:=hT k' hu
    simp only [CV.rel,h1,h2] at hr ⊢
    cases x<;>cases y<;>first|exact hr|cases h3
  | fn fi gi k' =>
    obtain ⟨x,y,h1,h2,h3⟩:=hT k' hu
    simp only [CV.rel,h1,h2] at hr ⊢
    cases x<;>cases y<;>first|exact hr|cases h3
  | hang g hg k' =>
    obtain ⟨x,y,h1,h2,h3⟩:=hT k' hu
    simp only [CV.rel,h1,h2] at hr ⊢
    cases x<;>cases y<;>first|exact hr|cases h3
theorem CV.rel_fix (hT:Stay B S T) (hk:∃ b,S k=some (some b)) {c:CV} (hu:c.fixIn k B=true) {v:Value} (hr:c.rel S ι v):(c.fix k (ι k).1).rel T ι v:=by
  obtain ⟨b,hb⟩:=hk
  cases c with
  | val u=>exact hr
  | junk=>trivial
  | ptr k' off =>
    simp only [CV.fixIn,Bool.or_eq_true] at hu
    cases e:Nat.beq k' k with
    | true =>
      have e':=Nat.eq_of_beq_eq_true e
      subst e'
      simp only [CV.fix,e,cond_true]
      simp only [CV.rel,hb] at hr
      exact hr
    | false =>
      simp only [CV.fix,e,cond_false]
      rw [e] at hu
      exact CV.rel_stay (c:=.ptr k' off) hT (hu.resolve_left (by decide)) hr
  | slc k' off n sz=>exact CV.rel_stay (c:=.slc k' off n sz) hT hu hr
  | mp k' =>
    simp only [CV.fixIn,Bool.or_eq_true] at hu
    cases e:Nat.beq k' k with
    | true =>
      have e':=Nat.eq_of_beq_eq_true e
      subst e'
      simp only [CV.fix,e,cond_true]
      simp only [CV.rel,hb] at hr
      exact hr
    | false =>
      simp only [CV.fix,e,cond_false]
      rw [e] at hu
      exact CV.rel_stay (c:=.mp k') hT (hu.resolve_left (by decide)) hr
  | fn fi gi k' =>
    simp only [CV.fixIn,Bool.or_eq_true] at hu
    cases e:Nat.beq k' k with
    | true =>
      have e':=Nat.eq_of_beq_eq_true e
      subst e'
      simp only [CV.fix,e,cond_true]
      simp only [CV.rel,hb] at hr
      exact hr
    | false =>
      simp only [CV.fix,e,cond_false]
      rw [e] at hu
      exact CV.rel_stay (c:=.fn fi gi k') hT (hu.resolve_left (by decide)) hr
  | hang g hg k' =>
    simp only [CV.fixIn,Bool.or_eq_true] at hu
    cases e:Nat.beq k' k with
    | true =>
      have e':=Nat.eq_of_beq_eq_true e
      subst e'
      simp only [CV.fix,e,cond_true]
      simp only [CV.rel,hb] at hr
      exact hr
    | false =>
      simp only [CV.fix,e,cond_false]
      rw [e] at hu
      exact CV.rel_stay (c:=.hang g hg k') hT (hu.resolve_left (by decide)) hr
theorem CVs.rel_stay (hT:Stay B S T):∀ {l:List CV} {vs:List Value},l.all (CV.inUse B)=true→CVs.rel S ι l vs→CVs.rel T ι l vs
  | [],[],_,_=>trivial
  | _::_,_::_,hu,hr=>by
    simp only [List.all_cons,Bool.and_eq_true] at hu
    exact ⟨CV.rel_stay hT hu.1 hr.1,CVs.rel_stay hT hu.2 hr.2⟩
  | [],_::_,_,hr=>hr.elim
  | _::_,[],_,hr=>hr.elim
theorem CVs.rel_fix (hT:Stay B S T) (hk:∃ b,S k=some (some b)):∀ {l:List CV} {vs:List Value},l.all (CV.fixIn k B)=true→CVs.rel S ι l vs→CVs.rel T ι (l.map (CV.fix k (ι k).1)) vs
  | [],[],_,_=>trivial
  | _::_,_::_,hu,hr=>by
    simp only [List.all_cons,Bool.and_eq_true] at hu
    exact ⟨CV.rel_fix hT hk hu.1 hr.1,CVs.rel_fix hT hk hu.2 hr.2⟩
  | [],_::_,_,hr=>hr.elim
  | _::_,[],_,hr=>hr.elim
theorem SV.rel_stay (hT:Stay B S T) {s:SV} (hu:s.inUse B=true) {v:Value} (hr:s.rel S ι v):s.rel T ι v:=by
  cases s with
  | one c=>exact CV.rel_stay hT hu hr
  | agg l=>obtain ⟨arr,e,hl⟩:=hr;exact ⟨arr,e,CVs.rel_stay hT hu hl⟩
theorem SV.rel_fix (hT:Stay B S T) (hk:∃ b,S k=some (some b)) {s:SV} (hu:s.fixIn k B=true) {v:Value} (hr:s.rel S ι v):(s.fix k (ι k).1).rel T ι v:=by
  cases s with
  | one c=>exact CV.rel_fix hT hk hu hr
  | agg l=>obtain ⟨arr,e,hl⟩:=hr;exact ⟨arr,e,CVs.rel_fix hT hk hu hl⟩
theorem SVs.rel_stay (hT:Stay B S T):∀ {l:List SV} {vs:List Value},l.all (SV.inUse B)=true→SVs.rel S ι l vs→SVs.rel T ι l vs
  | [],[],_,_=>trivial
  | _::_,_::_,hu,hr=>by
    simp only [List.all_cons,Bool.and_eq_true] at hu
    exact ⟨SV.rel_stay hT hu.1 hr.1,SVs.rel_stay hT hu.2 hr.2⟩
  | [],_::_,_,hr=>hr.elim
  | _::_,[],_,hr=>hr.elim
theorem SVs.rel_fix (hT:Stay B S T) (hk:∃ b,S k=some (some b)):∀ {l:List SV} {vs:List Value},l.all (SV.fixIn k B)=true→SVs.rel S ι l vs→SVs.rel T ι (l.map (SV.fix k (ι k).1)) vs
  | [],[],_,_=>trivial
  | _::_,_::_,hu,hr=>by
    simp only [List.all_cons,Bool.and_eq_true] at hu
    exact ⟨SV.rel_fix hT hk hu.1 hr.1,SVs.rel_fix hT hk hu.2 hr.2⟩
  | [],_::_,_,hr=>hr.elim
  | _::_,[],_,hr=>hr.elim
theorem LV.rel_stay (hT:Stay B S T) {s:LV} (hu:s.inUse B=true) {v:Value} (hr:s.rel S ι v):s.rel T ι v:=by
  cases s with
  | sv s=>exact SV.rel_stay hT hu hr
  | tup l=>obtain ⟨arr,e,hl⟩:=hr;exact ⟨arr,e,SVs.rel_stay hT hu hl⟩
theorem LV.rel_fix (hT:Stay B S T) (hk:∃ b,S k=some (some b)) {s:LV} (hu:s.fixIn k B=true) {v:Value} (hr:s.rel S ι v):(s.fix k (ι k).1).rel T ι v:=by
  cases s with
  | sv s=>exact SV.rel_fix hT hk hu hr
  | tup l=>obtain ⟨arr,e,hl⟩:=hr;exact ⟨arr,e,SVs.rel_fix hT hk hu hl⟩
theorem Box.rel_stay (hT:Stay B S T) {b:Box} (hu:b.cells.all (CV.inUse B)=true) {vs:List Value} (hr:b.rel S ι vs):b.rel T ι vs:=by
  unfold Box.rel at hr ⊢
  cases hb:b.row with
  | res R=>rw [hb] at hr;exact hr.elim
  | bool r =>
    cases r with
    | false=>rw [hb] at hr;exact CVs.rel_stay hT hu hr
    | true=>rw [hb] at hr;obtain ⟨us,sp,e,hl⟩:=hr;exact ⟨us,sp,e,CVs.rel_stay hT hu hl⟩
theorem Box.rel_fix (hT:Stay B S T) (hk:∃ b,S k=some (some b)) {b:Box} (hu:b.cells.all (CV.fixIn k B)=true) {vs:List Value} (hr:b.rel S ι vs):(b.fix k (ι k).1).rel T ι vs:=by
  obtain ⟨e,cs,r⟩:=b
  unfold Box.rel at hr ⊢
  simp only [Box.fix] at hu hr ⊢
  cases r with
  | res R=>exact hr.elim
  | bool r =>
    cases r with
    | false=>exact CVs.rel_fix hT hk hu hr
    | true=>obtain ⟨us,sp,e,hl⟩:=hr;exact ⟨us,sp,e,CVs.rel_fix hT hk hu hl⟩
end
theorem look_fixS (k b d:Nat) (s:List (Nat×LV)):look d (fixS k b s)=(look d s).map (LV.fix k b):=by
  induction s with
  | nil=>rfl
  | cons p s ih =>
    obtain ⟨d',lv⟩:=p
    show cond (Nat.beq d' d) _ (look d (fixS k b s))=(cond (Nat.beq d' d) _ (look d s)).map _
    cases Nat.beq d' d with
    | true=>rfl
    | false=>exact ih
theorem look_fixB (k b d:Nat) (s:List (Nat×Option Box)):look d (fixB k b s)=(look d s).map (fun x=>x.map (Box.fix k b)):=by
  induction s with
  | nil=>rfl
  | cons p s ih =>
    obtain ⟨d',lv⟩:=p
    show cond (Nat.beq d' d) _ (look d (fixB k b s))=(cond (Nat.beq d' d) _ (look d s)).map _
    cases Nat.beq d' d with
    | true=>rfl
    | false=>exact ih
section
variable {P:Program} {n:Nat} {C:Ctx} {c:Code} {Q:Exit→St→Prop} {X:Nat→Option Obj}
theorem Rel.fixN {ι:Nat→Nat×Nat} {a:Act} {w:World} {s0 s:List (Nat×LV)} {b0 bx:List (Nat×Option Box)} {k:Nat} {b:Box} {H:Nat→Option Obj} {F:Nat→Nat→Option Obj}
    (hk:look k (b0++bx)=none) (hs:s.all (fun p=>p.2.inUse (b0++bx))=true) (hb:bx.all (fun p=>match p.2 with|some b=>b.cells.all (CV.inUse (b0++bx))|none=>true)=true)
    (hs0:s0.all (fun p=>p.2.fixIn k (b0++bx))=true) (hb0:b0.all (fun p=>match p.2 with|some b=>b.cells.all (CV.fixIn k (b0++bx))|none=>true)=true)
    (hr:Rel n C ι ⟨s0++s,b0++(k,some b)::bx,X⟩ a w)
    (hH:∀ i o,H i=some o→w.heap[i]? = some o∧X i=none∧∀ j bj,(⟨s0++s,b0++(k,some b)::bx,X⟩:St).stat j=some (some bj)→(ι j).1=i→j=k)
    (hF:ResAt (fun b=>C.own b∨C.w0.heap.size≤b) ι F (⟨s0++s,b0++(k,some b)::bx,X⟩:St).stat X w) (hFH:∀ j,j≠k→∀ i,F j i≠none→H i=none):
    Rel n C ι ⟨fixS k (ι k).1 s0++s,fixB k (ι k).1 b0++bx,joinM X H⟩ a w:=by
  have hk1:look k b0=none∧look k bx=none:=by
    rw [look_append] at hk
    cases h:look k b0 with
    | none=>rw [h] at hk;exact ⟨rfl,hk⟩
    | some x=>rw [h] at hk;cases hk
  have hstat:∀ j,(⟨s0++s,b0++(k,some b)::bx,X⟩:St).stat j=(look j b0).or (if j=k then some (some b) else look j bx):=fun j=>by
    show look j (b0++(k,some b)::bx)=_
    rw [look_append]
    have:=stat_cons [] bx X k j (some b)
    simp only [St.stat] at this
    rw [this]
  have hnew:∀ j,(⟨fixS k (ι k).1 s0++s,fixB k (ι k).1 b0++bx,joinM X H⟩:St).stat j=((look j b0).map (fun x=>x.map (Box.fix k (ι k).1))).or (look j bx):=fun j=>by
    show look j (fixB k (ι k).1 b0++bx)=_
    rw [look_append,look_fixB]
  have hst:(⟨s0++s,b0++(k,some b)::bx,X⟩:St).stat k=some (some b):=by rw [hstat,hk1.1,if_pos rfl];rfl
  have live:∀ j x,(⟨fixS k (ι k).1 s0++s,fixB k (ι k).1 b0++bx,joinM X H⟩:St).stat j=some x→j≠k∧((∃ y,look j b0=some y∧x=y.map (Box.fix k (ι k).1)∧(⟨s0++s,b0++(k,some b)::bx,X⟩:St).stat j=some y)∨(look j b0=none∧look j bx=some x∧(⟨s0++s,b0++(k,some b)::bx,X⟩:St).stat j=some x)):=fun j x hj=>by
    rw [hnew] at hj
    cases h0:look j b0 with
    | some y =>
      rw [h0] at hj
      have hj:some (y.map (Box.fix k (ι k).1))=some x:=hj
      cases hj
      exact ⟨fun e=>(by rw [e,hk1.1] at h0;cases h0),.inl ⟨y,rfl,rfl,by rw [hstat,h0];rfl⟩⟩
    | none =>
      rw [h0] at hj
      have hj:look j bx=some x:=hj
      have hne:j≠k:=fun e=>by rw [e,hk1.2] at hj;cases hj
      exact ⟨hne,.inr ⟨rfl,hj,by rw [hstat,h0,if_neg hne];exact hj⟩⟩
  have hT:Stay (b0++bx) (⟨s0++s,b0++(k,some b)::bx,X⟩:St).stat (⟨fixS k (ι k).1 s0++s,fixB k (ι k).1 b0++bx,joinM X H⟩:St).stat:=fun j hj=>by
    rw [look_append] at hj
    rw [hnew,hstat]
    cases h0:look j b0 with
    | some y =>
      refine ⟨y.map (Box.fix k (ι k).1),y,rfl,rfl,?_⟩
      cases y<;>rfl
    | none =>
      rw [h0] at hj
      have hj:(look j bx).isSome=true:=hj
      obtain ⟨x,hx⟩:=Option.isSome_iff_exists.1 hj
      have hne:j≠k:=fun e=>by rw [e,hk1.2] at hx;cases hx
      rw [if_neg hne,hx]
      exact ⟨x,x,rfl,rfl,rfl⟩
  have live2:∀ j bj,(⟨fixS k (ι k).1 s0++s,fixB k (ι k).1 b0++bx,joinM X H⟩:St).stat j=some (some bj)→j≠k∧∃ bj0,(⟨s0++s,b0++(k,some b)::bx,X⟩:St).stat j=some (some bj0)∧bj.row=bj0.row:=fun j bj hj=>by
    obtain ⟨hne,h⟩:=live j _ hj
    rcases h with ⟨y,_,h2,h3⟩|⟨_,_,h3⟩
    · cases y with
      | none=>cases h2
      | some y =>
        have h2:some bj=some (y.fix k (ι k).1):=h2
        cases h2
        exact ⟨hne,y,h3,rfl⟩
    · exact ⟨hne,bj,h3,rfl⟩
  have hHk:∀ j bj,(⟨fixS k (ι k).1 s0++s,fixB k (ι k).1 b0++bx,joinM X H⟩:St).stat j=some (some bj)→H (ι j).1=none:=fun j bj hj=>by
    obtain ⟨hne,bj0,h1,_⟩:=live2 j bj hj
    cases hc:H (ι j).1 with
    | none=>rfl
    | some o=>exact absurd ((hH _ o hc).2.2 j bj0 h1 rfl) hne
  exact {
    defers:=hr.defers,size:=hr.size
    slots:=fun d lv hd=>by
      have hd:look d (fixS k (ι k).1 s0++s)=some lv:=hd
      rw [look_append,look_fixS] at hd
      cases h0:look d s0 with
      | some lv0 =>
        rw [h0] at hd
        have hd:some (lv0.fix k (ι k).1)=some lv:=hd
        cases hd
        obtain ⟨v,hv,hvr⟩:=hr.slots d lv0 (by show look d (s0++s)=_;rw [look_append,h0];rfl)
        exact ⟨v,hv,LV.rel_fix hT ⟨b,hst⟩ (List.all_eq_true.1 hs0 _ (look_mem h0)) hvr⟩
      | none =>
        rw [h0] at hd
        have hd:look d s=some lv:=hd
        obtain ⟨v,hv,hvr⟩:=hr.slots d lv (by show look d (s0++s)=_;rw [look_append,h0];exact hd)
        exact ⟨v,hv,LV.rel_stay hT (List.all_eq_true.1 hs _ (look_mem hd)) hvr⟩
    boxes:=fun j bj hj hbk=>by
      obtain ⟨hne,h⟩:=live j _ hj
      rcases h with ⟨y,h1,h2,h3⟩|⟨h1,h2,h3⟩
      · cases y with
        | none=>cases h2
        | some y =>
          have h2:some bj=some (y.fix k (ι k).1):=h2
          cases h2
          obtain ⟨arr,fr,g1,g2,g3,g4⟩:=hr.boxes j y h3 hbk
          exact ⟨arr,fr,g1,g2,g3,Box.rel_fix hT ⟨b,hst⟩ (by simpa using List.all_eq_true.1 hb0 _ (look_mem h1)) g4⟩
      · obtain ⟨arr,fr,g1,g2,g3,g4⟩:=hr.boxes j bj h3 hbk
        exact ⟨arr,fr,g1,g2,g3,Box.rel_stay hT (by simpa using List.all_eq_true.1 hb _ (look_mem h2)) g4⟩
    own:=fun j bj hj=>by
      obtain ⟨hne,bj0,h1,_⟩:=live2 j bj hj
      obtain ⟨h2,h3⟩:=hr.own j bj0 h1
      exact ⟨h2,(joinM_out (hHk j bj hj)).trans h3⟩
    inj:=fun i j bi bj hi hj he=>by
      obtain ⟨_,bi0,h1,_⟩:=live2 i bi hi
      obtain ⟨_,bj0,h2,_⟩:=live2 j bj hj
      exact hr.inj i j bi0 bj0 h1 h2 he
    keep:=fun j bj hj hge=>by
      obtain ⟨_,bj0,h1,_⟩:=live2 j bj hj
      exact hr.keep j bj0 h1 hge
    ext:=fun i o hi=>by
      have hi:joinM X H i=some o:=hi
      cases hc:H i with
      | none=>rw [joinM_out hc] at hi;exact hr.ext i o hi
      | some o' =>
        rw [joinM_in hc] at hi
        cases hi
        exact (hH i o hc).1
    res:=by
      refine ⟨fun j=>open Classical in if j=k then fun _=>none else F j,fun j e' cs' R' hj => ?_,fun j i o ho => ?_,fun i j i' h1 h2 => ?_⟩
      · obtain ⟨hne,h⟩:=live j _ hj
        rw [if_neg hne]
        rcases h with ⟨y,h1,h2,h3⟩|⟨h1,h2,h3⟩
        · cases y with
          | none=>cases h2
          | some y =>
            obtain ⟨ye,yc,yr⟩:=y
            have h2:some (⟨e',cs',.res R'⟩:Box)=some (Box.fix k (ι k).1 ⟨ye,yc,yr⟩):=h2
            simp only [Box.fix,Option.some.injEq,Box.mk.injEq] at h2
            obtain ⟨_,_,e3⟩:=h2
            subst e3
            exact hF.holds j _ _ R' h3
        · exact hF.holds j _ _ R' h3
      · by_cases ej:j=k
        · rw [if_pos ej] at ho;cases ho
        · rw [if_neg ej] at ho
          obtain ⟨⟨e1,cs1,R1,h1⟩,h2,h3,h4,h5,h6⟩:=hF.mem j i o ho
          refine ⟨?_,h2,h3,h4,(joinM_out (hFH j ej i (by rw [ho];simp))).trans h5,fun i2 bi hi ei => ?_⟩
          · rw [hstat,if_neg ej] at h1
            unfold isRes
            rw [hnew]
            cases h0:look j b0 with
            | some y =>
              rw [h0] at h1
              have h1:some y=some (some ⟨e1,cs1,.res R1⟩):=h1
              cases h1
              exact ⟨_,_,_,rfl⟩
            | none =>
              rw [h0] at h1
              have h1:look j bx=some (some ⟨e1,cs1,.res R1⟩):=h1
              exact ⟨_,_,_,h1⟩
          · obtain ⟨_,bi0,h7,_⟩:=live2 i2 bi hi
            exact h6 i2 bi0 h7 ei
      · by_cases ei:i=k
        · rw [if_pos ei] at h1;exact absurd rfl h1
        · by_cases ej:j=k
          · rw [if_pos ej] at h2;exact absurd rfl h2
          · rw [if_neg ei] at h1
            rw [if_neg ej] at h2
            exact hF.apart i j i' h1 h2
    frame:=hr.frame,big:=hr.big,os:=hr.os,tape:=hr.tape,output:=hr.output }
theorem Rel.fixRsc {ι:Nat→Nat×Nat} {a:Act} {w:World} {s0 s:List (Nat×LV)} {b0 bx:List (Nat×Option Box)} {k:Nat} {e:TypeId} {cs:List CV} {R:Rsc}
    (hk:look k (b0++bx)=none) (hs:s.all (fun p=>p.2.inUse (b0++bx))=true) (hb:bx.all (fun p=>match p.2 with|some b=>b.cells.all (CV.inUse (b0++bx))|none=>true)=true)
    (hs0:s0.all (fun p=>p.2.fixIn k (b0++bx))=true) (hb0:b0.all (fun p=>match p.2 with|some b=>b.cells.all (CV.fixIn k (b0++bx))|none=>true)=true)
    (hr:Rel n C ι ⟨s0++s,b0++(k,some ⟨e,cs,.res R⟩)::bx,X⟩ a w):
    ∃ (ρ:Nat×Nat) (H:Nat→Option Obj),R.holds ρ H∧OwnedM C X H ∧
      Rel n C ι ⟨fixS k ρ.1 s0++s,fixB k ρ.1 b0++bx,joinM X H⟩ a w:=by
  have hst:(⟨s0++s,b0++(k,some ⟨e,cs,.res R⟩)::bx,X⟩:St).stat k=some (some ⟨e,cs,.res R⟩):=by
    show look k (b0++(k,some ⟨e,cs,.res R⟩)::bx)=_
    rw [look_append] at hk ⊢
    cases h:look k b0 with
    | none=>simp [look]
    | some x=>rw [h] at hk;cases hk
  obtain ⟨F,hF⟩:=hr.res
  refine ⟨ι k,F k,(hF.holds k _ _ _ hst).1,⟨fun b o hb=>let h:=hF.mem k b o hb;⟨h.2.2.2.1,h.2.2.1,h.2.2.2.2.1⟩⟩,?_⟩
  refine hr.fixN hk hs hb hs0 hb0 (fun i o hi => ?_) hF (fun j hj i hi => ?_)
  · obtain ⟨_,h2,_,_,h5,h6⟩:=hF.mem k i o hi
    exact ⟨h2,h5,fun j bj hj he=>h6 j bj hj he⟩
  · cases hc:F k i with
    | none=>rfl
    | some o=>exact absurd (hF.apart j k i hi (by rw [hc];simp)) hj
theorem LWP.fixRsc (s0:List (Nat×LV)) (b0:List (Nat×Option Box)) {s:List (Nat×LV)} {bx:List (Nat×Option Box)} {k:Nat} {e:TypeId} {cs:List CV} {R:Rsc}
    (hk:look k (b0++bx)=none) (hs:s.all (fun p=>p.2.inUse (b0++bx))=true) (hb:bx.all (fun p=>match p.2 with|some b=>b.cells.all (CV.inUse (b0++bx))|none=>true)=true)
    (hs0:s0.all (fun p=>p.2.fixIn k (b0++bx))=true) (hb0:b0.all (fun p=>match p.2 with|some b=>b.cells.all (CV.fixIn k (b0++bx))|none=>true)=true)
    (h:∀ (ρ:Nat×Nat) (H:Nat→Option Obj),R.holds ρ H→OwnedM C X H→LWP P n C c Q ⟨fixS k ρ.1 s0++s,fixB k ρ.1 b0++bx,joinM X H⟩):
    LWP P n C c Q ⟨s0++s,b0++(k,some ⟨e,cs,.res R⟩)::bx,X⟩:=by
  refine ⟨fun ι a w hr => ?_⟩
  obtain ⟨ρ,H,h1,h2,h3⟩:=hr.fixRsc hk hs hb hs0 hb0
  exact (h ρ H h1 h2).out ι a w h3
theorem Leads.fixRsc {Mid:St→Prop} (s0:List (Nat×LV)) (b0:List (Nat×Option Box)) {s:List (Nat×LV)} {bx:List (Nat×Option Box)} {k:Nat} {e:TypeId} {cs:List CV} {R:Rsc}
    (hk:look k (b0++bx)=none) (hs:s.all (fun p=>p.2.inUse (b0++bx))=true) (hb:bx.all (fun p=>match p.2 with|some b=>b.cells.all (CV.inUse (b0++bx))|none=>true)=true)
    (hs0:s0.all (fun p=>p.2.fixIn k (b0++bx))=true) (hb0:b0.all (fun p=>match p.2 with|some b=>b.cells.all (CV.fixIn k (b0++bx))|none=>true)=true)
    (h:∀ (ρ:Nat×Nat) (H:Nat→Option Obj),R.holds ρ H→OwnedM C X H→Leads n C Mid ⟨fixS k ρ.1 s0++s,fixB k ρ.1 b0++bx,joinM X H⟩):
    Leads n C Mid ⟨s0++s,b0++(k,some ⟨e,cs,.res R⟩)::bx,X⟩:=by
  refine ⟨fun ι a w hr => ?_⟩
  obtain ⟨ρ,H,h1,h2,h3⟩:=hr.fixRsc hk hs hb hs0 hb0
  exact (h ρ H h1 h2).out ι a w h3
end
section
variable {P:Program} {n:Nat} {ops os:List Oper} {acc:List Eff} {K:List Eff→St→Prop} {s:List (Nat×LV)} {bx:List (Nat×Option Box)} {X:Nat→Option Obj} {σ:St}
end
section
variable {P:Program} {n:Nat} {ops os:List Oper} {acc:List Eff} {K:List Eff→St→Prop} {s:List (Nat×LV)} {bx:List (Nat×Option Box)} {X:Nat→Option Obj} {σ:St}
end
end Go.Lg
end
section
namespace Go.Lg
open Go Go.RowKit
theorem joinM_join (X H H2:Nat→Option Obj):joinM (joinM X H) H2=joinM X (joinM H H2):=by
  funext b
  unfold joinM
  cases H2 b<;>rfl
theorem OwnedM.join {C:Ctx} {X H H2:Nat→Option Obj} (h:OwnedM C X H) (h2:OwnedM C (joinM X H) H2):OwnedM C X (joinM H H2):=⟨fun b o hb=>by
  cases hc:H2 b with
  | none=>rw [joinM_out hc] at hb;exact h.own b o hb
  | some o' =>
    rw [joinM_in hc] at hb
    cases hb
    obtain ⟨h3,h4,h5⟩:=h2.own b _ hc
    exact ⟨h3,h4,(joinM_none h5).2⟩⟩
theorem joinM_keeps {C:Ctx} {X H H2:Nat→Option Obj} (h2:OwnedM C (joinM X H) H2):∀ b o,H b=some o→joinM H H2 b=some o:=fun b o hb=>by
  cases hc:H2 b with
  | none=>rw [joinM_out hc];exact hb
  | some o' =>
    have:=(joinM_none (h2.own b o' hc).2.2).1
    rw [this] at hb
    cases hb
section
variable {P:Program} {n:Nat} {C:Ctx} {c:Code} {Q:Exit→St→Prop} {X:Nat→Option Obj}
theorem rel_unslc {S:Nat→Option (Option Box)} {ι:Nat→Nat×Nat} {A B:List CV} {k off len sz:Nat} {x:Box} (hsk:S k=some (some x)) {vs:List Value} (h:CVs.rel S ι (A ++ .slc k off len sz::B) vs):∃ cap:Nat,len≤cap∧off+cap*sz≤(ι k).2∧CVs.rel S ι (A ++ .val (.slice (some ⟨(ι k).1,off,none⟩) len cap)::B) vs:=by
  obtain ⟨va,v,vb,rfl,h1,h2,h3⟩:=rel_mid h
  simp only [CV.rel] at h2
  rw [hsk] at h2
  obtain ⟨cap,rfl,hc,hf⟩:=h2
  exact ⟨cap,hc,hf,CVs.rel_append h1 ⟨rfl,h3⟩⟩
theorem Rel.unslc {ι:Nat→Nat×Nat} {a:Act} {w:World} {s:List (Nat×LV)} {bx:List (Nat×Option Box)} {j k off len sz:Nat} {e:TypeId} {A B:List CV} {row:Bool} {x:Box}
    (hj:Nat.beq j k=false) (hkx:look k bx=some (some x))
    (hr:Rel n C ι ⟨s,(j,some ⟨e,A ++ .slc k off len sz::B,row⟩)::bx,X⟩ a w):
    ∃ cap:Nat,len≤cap∧off+cap*sz≤(ι k).2∧Rel n C ι ⟨s,(j,some ⟨e,A ++ .val (.slice (some ⟨(ι k).1,off,none⟩) len cap)::B,row⟩)::bx,X⟩ a w:=by
  have hkj:k≠j:=fun h=>by rw [h,Nat.beq_refl] at hj;cases hj
  obtain ⟨arr,fr,g1,g2,g3,g4⟩:=hr.boxes j ⟨e,A ++ .slc k off len sz::B,row⟩ (by rw [stat_hd,if_pos rfl]) rfl
  have hsk:(⟨s,(j,some ⟨e,A ++ .slc k off len sz::B,row⟩)::bx,X⟩:St).stat k=some (some x):=by rw [stat_hd,if_neg hkj];exact hkx
  have key:∃ cap:Nat,len≤cap∧off+cap*sz≤(ι k).2∧Box.rel (⟨s,(j,some ⟨e,A ++ .slc k off len sz::B,row⟩)::bx,X⟩:St).stat ι ⟨e,A ++ .val (.slice (some ⟨(ι k).1,off,none⟩) len cap)::B,row⟩ arr.toList:=by
    unfold Box.rel at g4 ⊢
    cases row with
    | false=>exact rel_unslc hsk g4
    | true =>
      obtain ⟨us,sp,e1,h1⟩:=g4
      obtain ⟨cap,hc,hf,h2⟩:=rel_unslc hsk h1
      exact ⟨cap,hc,hf,us,sp,e1,h2⟩
  obtain ⟨cap,hc,hf,g5⟩:=key
  refine ⟨cap,hc,hf,?_⟩
  generalize hcs:A ++ .slc k off len sz::B=cs at *
  generalize hcs':A ++ .val (.slice (some ⟨(ι k).1,off,none⟩) len cap)::B=cs' at *
  have hlater:=later_hd (s:=s) (bx:=bx) (k:=j) ι ⟨e,cs,row⟩ ⟨e,cs',row⟩ X X
  have live:∀ i b,(⟨s,(j,some ⟨e,cs',row⟩)::bx,X⟩:St).stat i=some (some b)→∃ b0,(⟨s,(j,some ⟨e,cs,row⟩)::bx,X⟩:St).stat i=some (some b0)∧(i≠j→b=b0):=fun i b hi=>by
    rw [stat_hd] at hi ⊢
    by_cases e:i=j
    · rw [if_pos e];exact ⟨_,rfl,fun h=>absurd e h⟩
    · rw [if_neg e] at hi ⊢;exact ⟨b,hi,fun _=>rfl⟩
  exact {
    defers:=hr.defers,size:=hr.size
    slots:=fun d lv hd=>by
      obtain ⟨v,hv,hvr⟩:=hr.slots d lv hd
      exact ⟨v,hv,LV.rel_later hlater hvr⟩
    boxes:=fun i b hi hbk=>by
      by_cases ei:i=j
      · subst ei
        rw [stat_hd,if_pos rfl] at hi
        simp only [Option.some.injEq] at hi
        subst hi
        exact ⟨arr,fr,g1,g2,g3,Box.rel_later hlater g5⟩
      · obtain ⟨b0,h0,h1⟩:=live i b hi
        have:=h1 ei
        subst this
        obtain ⟨arr,fr,g1,g2,g3,g4⟩:=hr.boxes i b h0 hbk
        exact ⟨arr,fr,g1,g2,g3,Box.rel_later hlater g4⟩
    own:=fun i b hi=>by obtain ⟨b0,h0,_⟩:=live i b hi;exact hr.own i b0 h0
    inj:=fun i i' bi bj hi hj he=>by
      obtain ⟨b1,h1,_⟩:=live i bi hi
      obtain ⟨b2,h2,_⟩:=live i' bj hj
      exact hr.inj i i' b1 b2 h1 h2 he
    keep:=fun i b hi hge=>by obtain ⟨b0,h0,_⟩:=live i b hi;exact hr.keep i b0 h0 hge
    ext:=hr.ext
    res:=by
      obtain ⟨F,hG⟩:=hr.res
      refine hG.keep (fun i e cs R hi => ?_) (fun _ _ _ _ _ hi=>hi) (fun _ _ ho=>ho) (fun b _ hx _ _=>hx) (fun i bi hi => ?_)
      · rw [stat_hd] at hi ⊢
        by_cases e:i=j
        · rw [if_pos e] at hi;cases hi
        · rw [if_neg e] at hi ⊢;exact ⟨hi,rfl⟩
      · obtain ⟨b0,h0,_⟩:=live i bi hi
        exact .inl ⟨b0,h0,rfl⟩
    frame:=hr.frame,big:=hr.big,os:=hr.os,tape:=hr.tape,output:=hr.output }
theorem Rel.fixAlone {ι:Nat→Nat×Nat} {a:Act} {w:World} {s:List (Nat×LV)} {bx:List (Nat×Option Box)} {k:Nat} {e:TypeId} {cs:List CV} {R:Rsc}
    (hs:s.all (fun p=>p.2.inUse bx)=true) (hb:bx.all (fun p=>match p.2 with|some b=>b.cells.all (CV.inUse bx)|none=>true)=true) (hk:look k bx=none)
    (hr:Rel n C ι ⟨s,(k,some ⟨e,cs,.res R⟩)::bx,X⟩ a w):
    ∃ (H:Nat→Option Obj),R.holds (ι k) H∧OwnedM C X H∧Rel n C ι ⟨s,bx,joinM X H⟩ a w:=by
  have hst:(⟨s,(k,some ⟨e,cs,.res R⟩)::bx,X⟩:St).stat k=some (some ⟨e,cs,.res R⟩):=by simp [St.stat,look]
  have hlk:∀ k' x,look k' bx=some x→k'≠k:=fun k' x h' e=>by rw [e,hk] at h';cases h'
  have hstb:∀ k' x,look k' bx=some x→(⟨s,(k,some ⟨e,cs,.res R⟩)::bx,X⟩:St).stat k'=some x:=fun k' x h'=>by
    simp only [St.stat,look]
    cases e:Nat.beq k k' with
    | true=>exact absurd (Nat.eq_of_beq_eq_true e).symm (hlk k' x h')
    | false=>exact h'
  have hback:∀ j x,j≠k→(⟨s,(k,some ⟨e,cs,.res R⟩)::bx,X⟩:St).stat j=some x→look j bx=some x:=fun j x hj h'=>by
    simp only [St.stat,look] at h'
    cases e:Nat.beq k j with
    | true=>exact absurd (Nat.eq_of_beq_eq_true e).symm hj
    | false=>rw [e] at h';exact h'
  obtain ⟨F,hF⟩:=hr.res
  obtain ⟨hR,_⟩:=hF.holds k _ _ _ hst
  refine ⟨F k,hR,⟨fun b o hb=>let h:=hF.mem k b o hb;⟨h.2.2.2.1,h.2.2.1,h.2.2.2.2.1⟩⟩,?_⟩
  have hon:SameOn bx (⟨s,(k,some ⟨e,cs,.res R⟩)::bx,X⟩:St).stat (fun k=>look k bx):=fun k' x h'=>(hstb k' x h').trans h'.symm
  have hnot:∀ j b,look j bx=some (some b)→F k (ι j).1=none:=fun j b hj=>by
    cases hc:F k (ι j).1 with
    | none=>rfl
    | some o=>exact absurd ((hF.mem k _ o hc).2.2.2.2.2 j b (hstb j _ hj) rfl) (hlk j _ hj)
  exact {
    defers:=hr.defers,size:=hr.size
    slots:=fun d' lv hd=>by
      obtain ⟨v',hv',hr'⟩:=hr.slots d' lv hd
      exact ⟨v',hv',LV.rel_on hon (List.all_eq_true.1 hs _ (look_mem hd)) hr'⟩
    boxes:=fun k' b hb' hbk=>by
      have hb':look k' bx=some (some b):=hb'
      obtain ⟨arr',fr',h1,h2,h3,h4⟩:=hr.boxes k' b (hstb k' _ hb') hbk
      exact ⟨arr',fr',h1,h2,h3,Box.rel_on hon (by simpa using List.all_eq_true.1 hb _ (look_mem hb')) h4⟩
    own:=fun k' b hb'=>by
      have hb':look k' bx=some (some b):=hb'
      obtain ⟨h1,h2⟩:=hr.own k' b (hstb k' _ hb')
      exact ⟨h1,(joinM_out (hnot k' b hb')).trans h2⟩
    inj:=fun k1 k2 b1 b2 h1 h2 he=>hr.inj k1 k2 b1 b2 (hstb k1 _ h1) (hstb k2 _ h2) he
    keep:=fun k' b hb' hge=>hr.keep k' b (hstb k' _ hb') hge
    ext:=fun b o hbo=>by
      have hbo:joinM X (F k) b=some o:=hbo
      cases hc:F k b with
      | none=>rw [joinM_out hc] at hbo;exact hr.ext b o hbo
      | some o' =>
        rw [joinM_in hc] at hbo
        cases hbo
        exact (hF.mem k b _ hc).2.1
    res:=by
      refine ⟨fun j=>open Classical in if j=k then fun _=>none else F j,fun j e' cs' R' hj => ?_,fun j b o ho => ?_,fun i j b h1 h2 => ?_⟩
      · have hj:look j bx=some (some ⟨e',cs',.res R'⟩):=hj
        rw [if_neg (hlk j _ hj)]
        exact hF.holds j e' cs' R' (hstb j _ hj)
      · by_cases ej:j=k
        · rw [if_pos ej] at ho;cases ho
        · rw [if_neg ej] at ho
          obtain ⟨⟨e1,cs1,R1,h1⟩,h2,h3,h4,h5,h6⟩:=hF.mem j b o ho
          refine ⟨⟨e1,cs1,R1,hback j _ ej h1⟩,h2,h3,h4,?_,fun i bi hi ei=>h6 i bi (hstb i _ hi) ei⟩
          have hc:F k b=none:=by
            cases hc:F k b with
            | none=>rfl
            | some o'=>exact absurd (hF.apart j k b (by rw [ho];simp) (by rw [hc];simp)) ej
          exact (joinM_out hc).trans h5
      · by_cases ei:i=k
        · rw [if_pos ei] at h1;exact absurd rfl h1
        · by_cases ej:j=k
          · rw [if_pos ej] at h2;exact absurd rfl h2
          · rw [if_neg ei] at h1
            rw [if_neg ej] at h2
            exact hF.apart i j b h1 h2
    frame:=hr.frame,big:=hr.big,os:=hr.os,tape:=hr.tape,output:=hr.output }
theorem Rel.fixCell {ι:Nat→Nat×Nat} {a:Act} {w:World} {s:List (Nat×LV)} {bx:List (Nat×Option Box)} {j k off len sz:Nat} {e e2:TypeId} {A B cs:List CV} {row:Bool} {R:Rsc}
    (hs:s.all (fun p=>p.2.inUse ((j,none)::bx))=true) (hA:A.all (CV.inUse ((j,none)::bx))=true) (hB:B.all (CV.inUse ((j,none)::bx))=true) (hb:bx.all (fun p=>match p.2 with|some b=>b.cells.all (CV.inUse ((j,none)::bx))|none=>true)=true) (hk:look k bx=none) (hjk:Nat.beq j k=false)
    (hr:Rel n C ι ⟨s,(j,some ⟨e2,A ++ .slc k off len sz::B,row⟩)::(k,some ⟨e,cs,.res R⟩)::bx,X⟩ a w):
    ∃ (ρ:Nat×Nat) (H:Nat→Option Obj) (cap:Nat),R.holds ρ H∧OwnedM C X H∧len≤cap∧off+cap*sz≤ρ.2 ∧
      Rel n C ι ⟨s,(j,some ⟨e2,A ++ .val (.slice (some ⟨ρ.1,off,none⟩) len cap)::B,row⟩)::bx,joinM X H⟩ a w:=by
  have hlk:look k ((k,some (⟨e,cs,.res R⟩:Box))::bx)=some (some ⟨e,cs,.res R⟩):=by simp [look]
  obtain ⟨cap,hc,hf,hr2⟩:=hr.unslc hjk hlk
  have hr3:Rel n C ι ⟨s,(k,some ⟨e,cs,.res R⟩)::(j,some ⟨e2,A ++ .val (.slice (some ⟨(ι k).1,off,none⟩) len cap)::B,row⟩)::bx,X⟩ a w:=
    hr2.same ⟨fun _=>rfl,fun i=>look_swap hjk,rfl⟩
  have any:∀ (y:Option Box) {c:CV},c.inUse ((j,none)::bx)=true→c.inUse ((j,y)::bx)=true:=fun y c h=>by
    cases c<;>first|rfl|(simp only [CV.inUse,look] at h ⊢;cases hjj:Nat.beq j _<;>simp_all)
  have anyS:∀ (y:Option Box) {c:SV},c.inUse ((j,none)::bx)=true→c.inUse ((j,y)::bx)=true:=fun y c h=>by
    cases c with
    | one c=>exact any y h
    | agg l=>exact List.all_eq_true.2 fun c hc=>any y (List.all_eq_true.1 h c hc)
  have anyL:∀ (y:Option Box) {c:LV},c.inUse ((j,none)::bx)=true→c.inUse ((j,y)::bx)=true:=fun y c h=>by
    cases c with
    | sv c=>exact anyS y h
    | tup l=>exact List.all_eq_true.2 fun c hc=>anyS y (List.all_eq_true.1 h c hc)
  obtain ⟨H,hR,hO,hr4⟩:=hr3.fixAlone (List.all_eq_true.2 fun p hp=>anyL _ (List.all_eq_true.1 hs p hp)) (by
    rw [List.all_cons,Bool.and_eq_true]
    refine ⟨?_,List.all_eq_true.2 fun p hp => ?_⟩
    · show (A ++ .val _::B).all _=true
      rw [List.all_append,List.all_cons,Bool.and_eq_true,Bool.and_eq_true]
      exact ⟨List.all_eq_true.2 fun c hc=>any _ (List.all_eq_true.1 hA c hc),rfl,List.all_eq_true.2 fun c hc=>any _ (List.all_eq_true.1 hB c hc)⟩
    · have:=List.all_eq_true.1 hb p hp
      cases hp2:p.2 with
      | none=>rfl
      | some b =>
        rw [hp2] at this
        exact List.all_eq_true.2 fun c hc=>any _ (List.all_eq_true.1 this c hc)) (by
    simp only [look,hjk]
    exact hk)
  exact ⟨ι k,H,cap,hR,hO,hc,hf,hr4⟩
theorem Leads.fixCell {Mid:St→Prop} {s:List (Nat×LV)} {bx:List (Nat×Option Box)} {j k off len sz:Nat} {e e2:TypeId} {A B cs:List CV} {row:Bool} {R:Rsc}
    (hs:s.all (fun p=>p.2.inUse ((j,none)::bx))=true) (hA:A.all (CV.inUse ((j,none)::bx))=true) (hB:B.all (CV.inUse ((j,none)::bx))=true) (hb:bx.all (fun p=>match p.2 with|some b=>b.cells.all (CV.inUse ((j,none)::bx))|none=>true)=true) (hk:look k bx=none) (hjk:Nat.beq j k=false)
    (h:∀ (ρ:Nat×Nat) (H:Nat→Option Obj) (cap:Nat),R.holds ρ H→OwnedM C X H→len≤cap→off+cap*sz≤ρ.2→Leads n C Mid ⟨s,(j,some ⟨e2,A ++ .val (.slice (some ⟨ρ.1,off,none⟩) len cap)::B,row⟩)::bx,joinM X H⟩):
    Leads n C Mid ⟨s,(j,some ⟨e2,A ++ .slc k off len sz::B,row⟩)::(k,some ⟨e,cs,.res R⟩)::bx,X⟩:=⟨fun ι a w hr=>by
  obtain ⟨ρ,H,cap,h1,h2,h3,h4,h5⟩:=hr.fixCell hs hA hB hb hk hjk
  exact (h ρ H cap h1 h2 h3 h4).out ι a w h5⟩
theorem LWP.fixCell {s:List (Nat×LV)} {bx:List (Nat×Option Box)} {j k off len sz:Nat} {e e2:TypeId} {A B cs:List CV} {row:Bool} {R:Rsc}
    (hs:s.all (fun p=>p.2.inUse ((j,none)::bx))=true) (hA:A.all (CV.inUse ((j,none)::bx))=true) (hB:B.all (CV.inUse ((j,none)::bx))=true) (hb:bx.all (fun p=>match p.2 with|some b=>b.cells.all (CV.inUse ((j,none)::bx))|none=>true)=true) (hk:look k bx=none) (hjk:Nat.beq j k=false)
    (h:∀ (ρ:Nat×Nat) (H:Nat→Option Obj) (cap:Nat),R.holds ρ H→OwnedM C X H→len≤cap→off+cap*sz≤ρ.2→LWP P n C c Q ⟨s,(j,some ⟨e2,A ++ .val (.slice (some ⟨ρ.1,off,none⟩) len cap)::B,row⟩)::bx,joinM X H⟩):
    LWP P n C c Q ⟨s,(j,some ⟨e2,A ++ .slc k off len sz::B,row⟩)::(k,some ⟨e,cs,.res R⟩)::bx,X⟩:=by
  refine ⟨fun ι a w hr => ?_⟩
  obtain ⟨ρ,H,cap,h1,h2,h3,h4,h5⟩:=hr.fixCell hs hA hB hb hk hjk
  exact (h ρ H cap h1 h2 h3 h4).out ι a w h5
end
end Go.Lg
end
section
namespace Go.Lg
open Go Go.RowKit
def atR (b:Nat) (R:Rsc):Rsc:=⟨fun ρ H=>ρ.1=b∧R.holds ρ H⟩
def minusM (H K:Nat→Option Obj):Nat→Option Obj:=fun b=>match K b with|some _=>none|none=>H b
theorem minusM_none {H K:Nat→Option Obj} {b:Nat} (h:K b=none):minusM H K b=H b:=by unfold minusM;rw [h]
theorem minusM_some {H K:Nat→Option Obj} {b:Nat} {o:Obj} (h:minusM H K b=some o):K b=none∧H b=some o:=by
  unfold minusM at h
  cases hk:K b with
  | none=>rw [hk] at h;exact ⟨rfl,h⟩
  | some x=>rw [hk] at h;cases h
theorem minusM_in {H K:Nat→Option Obj} {b:Nat} (h:K b≠none):minusM H K b=none:=by
  unfold minusM
  cases hk:K b with
  | none=>exact absurd hk h
  | some x=>rfl
theorem OwnedM.minus {C:Ctx} {X H:Nat→Option Obj} (h:OwnedM C X H) (K:Nat→Option Obj):OwnedM C X (minusM H K):=⟨fun b o hb=>h.own b o (minusM_some hb).2⟩
theorem OwnedM.swap {C:Ctx} {X A B:Nat→Option Obj} (hA:OwnedM C X A) (hB:OwnedM C (joinM X A) B):OwnedM C X B∧OwnedM C (joinM X B) A∧joinM (joinM X A) B=joinM (joinM X B) A:=by
  have hno:∀ b o,B b=some o→A b=none∧X b=none:=fun b o h=>joinM_none (hB.own b o h).2.2
  refine ⟨⟨fun b o h=>let g:=hB.own b o h;⟨g.1,g.2.1,(hno b o h).2⟩⟩,⟨fun b o h => ?_⟩,?_⟩
  · obtain ⟨h1,h2,h3⟩:=hA.own b o h
    refine ⟨h1,h2,?_⟩
    cases hb:B b with
    | none=>rw [joinM_out hb];exact h3
    | some o'=>have:=(hno b o' hb).1;rw [h] at this;cases this
  · funext b
    unfold joinM
    cases hb:B b with
    | none=>cases A b<;>rfl
    | some o=>rw [(hno b o hb).1];rfl
def joinL (Y:Nat→Option Obj):List (Nat→Option Obj)→(Nat→Option Obj)
  | []=>Y
  | A::l=>joinL (joinM Y A) l
def ownL (C:Ctx) (Y:Nat→Option Obj):List (Nat→Option Obj)→Prop
  | []=>True
  | A::l=>OwnedM C Y A∧ownL C (joinM Y A) l
theorem ownL_perm {C:Ctx} {l l':List (Nat→Option Obj)} (h:l.Perm l'):∀ Y,ownL C Y l→ownL C Y l'∧joinL Y l=joinL Y l':=by
  induction h with
  | nil=>exact fun Y h=>⟨h,rfl⟩
  | cons A _ ih=>exact fun Y h=>⟨⟨h.1,(ih _ h.2).1⟩,(ih _ h.2).2⟩
  | swap A B l =>
    intro Y h
    obtain ⟨h1,h2,h3⟩:=h
    obtain ⟨g1,g2,g3⟩:=h1.swap h2
    refine ⟨⟨g1,g2,?_⟩,?_⟩
    · rw [← g3];exact h3
    · show joinL (joinM (joinM Y B) A) l=joinL (joinM (joinM Y A) B) l
      rw [g3]
  | trans _ _ ih1 ih2=>exact fun Y h=>⟨(ih2 Y (ih1 Y h).1).1,(ih1 Y h).2.trans (ih2 Y (ih1 Y h).1).2⟩
theorem fix_vals {k b:Nat} (l:List Value):(l.map CV.val).map (CV.fix k b)=l.map CV.val:=by rw [List.map_map];rfl
theorem fix_mid {k b off:Nat} (A B:List Value):(A.map CV.val ++ .ptr k off::B.map CV.val).map (CV.fix k b)=(A ++ .pointer (some ⟨b,off,none⟩)::B).map CV.val:=by
  rw [List.map_append,List.map_cons,fix_vals,fix_vals,List.map_append,List.map_cons]
  congr 2
  simp [CV.fix]
theorem fixIn_vals {k:Nat} {bx:List (Nat×Option Box)} (l:List Value):(l.map CV.val).all (CV.fixIn k bx)=true:=List.all_eq_true.2 fun c hc=>by
  obtain ⟨v,_,rfl⟩:=List.mem_map.1 hc
  rfl
theorem fixIn_mid {k off:Nat} {bx:List (Nat×Option Box)} (A B:List Value):(A.map CV.val ++ .ptr k off::B.map CV.val).all (CV.fixIn k bx)=true:=by
  rw [List.all_append,List.all_cons,fixIn_vals,fixIn_vals]
  simp [CV.fixIn]
section
variable {P:Program} {n:Nat} {C:Ctx} {c:Code} {Q:Exit→St→Prop} {X:Nat→Option Obj} {s:List (Nat×LV)} {bx:List (Nat×Option Box)}
theorem Rel.takeRes {ι:Nat→Nat×Nat} {a:Act} {w:World} {k b m:Nat} {R:Rsc} {H Hc:Nat→Option Obj} (hO:OwnedM C X H) (hsub:∀ x o,Hc x=some o→H x=some o) (hR:R.holds (b,m) Hc) (hroot:Hc b≠none)
    (hs:s.all (fun p=>p.2.inUse bx)=true) (hb:bx.all (fun p=>match p.2 with|some b=>b.cells.all (CV.inUse bx)|none=>true)=true) (hk:look k bx=none) (hlt:k<1000000)
    (hr:Rel n C ι ⟨s,bx,joinM X H⟩ a w):
    Rel n C (put1 ι k (b,m)) ⟨s,(k,some ⟨0,[],.res (atR b R)⟩)::bx,joinM X (minusM H Hc)⟩ a w:=by
  have hlk:∀ k' x,look k' bx=some x→k'≠k:=fun k' x h' e=>by rw [e,hk] at h';cases h'
  have hι:∀ k',k'≠k→put1 ι k (b,m) k'=ι k':=fun k' e=>by unfold put1;rw [if_neg e]
  have hιk:put1 ι k (b,m) k=(b,m):=by unfold put1;rw [if_pos rfl]
  have hst:∀ k' x,(⟨s,(k,some ⟨0,[],.res (atR b R)⟩)::bx,joinM X (minusM H Hc)⟩:St).stat k'=some (some x)→(k'=k∧x=⟨0,[],.res (atR b R)⟩)∨(k'≠k∧look k' bx=some (some x)):=fun k' x h'=>by
    rw [stat_hd] at h'
    by_cases e:k'=k
    · rw [if_pos e] at h'
      simp only [Option.some.injEq] at h'
      exact .inl ⟨e,h'.symm⟩
    · rw [if_neg e] at h';exact .inr ⟨e,h'⟩
  have hon:SameOn bx (⟨s,bx,joinM X H⟩:St).stat (⟨s,(k,some ⟨0,[],.res (atR b R)⟩)::bx,joinM X (minusM H Hc)⟩:St).stat:=fun k' x h'=>by
    rw [stat_hd,if_neg (hlk k' x h')];rfl
  have hmean:∀ k',(look k' bx).isSome=true→put1 ι k (b,m) k'=ι k':=fun k' hk'=>hι k' (by obtain ⟨x,hx⟩:=Option.isSome_iff_exists.1 hk';exact hlk k' x hx)
  have hboxm:∀ {x:Box} {us:List Value},x.rel (⟨s,(k,some ⟨0,[],.res (atR b R)⟩)::bx,joinM X (minusM H Hc)⟩:St).stat ι us→x.cells.all (CV.inUse bx)=true→x.rel (⟨s,(k,some ⟨0,[],.res (atR b R)⟩)::bx,joinM X (minusM H Hc)⟩:St).stat (put1 ι k (b,m)) us:=fun {x us} h1 h2=>by
    unfold Box.rel at h1 ⊢
    cases hrow:x.row with
    | res R=>rw [hrow] at h1;exact h1.elim
    | bool r =>
      cases r with
      | false=>rw [hrow] at h1;exact CVs.rel_means hmean h2 h1
      | true =>
        rw [hrow] at h1
        obtain ⟨us',sp,e,hl⟩:=h1
        exact ⟨us',sp,e,CVs.rel_means hmean h2 hl⟩
  have hfar:∀ k' x,look k' bx=some (some x)→Hc (ι k').1=none:=fun k' x h=>by
    have h2:H (ι k').1=none∧X (ι k').1=none:=joinM_none (hr.own k' x h).2
    cases hc:Hc (ι k').1 with
    | none=>rfl
    | some o=>rw [hsub _ _ hc] at h2;cases h2.1
  have hbX:Hc b≠none→joinM X (minusM H Hc) b=none:=fun h=>by
    rw [joinM_out (minusM_in h)]
    cases hc:Hc b with
    | none=>exact absurd hc h
    | some o=>exact (hO.own b o (hsub _ _ hc)).2.2
  exact {
    defers:=hr.defers,size:=hr.size
    slots:=fun d' lv hd=>by
      obtain ⟨v',hv',hr'⟩:=hr.slots d' lv hd
      have hu:=List.all_eq_true.1 hs _ (look_mem hd)
      exact ⟨v',hv',LV.rel_means hmean hu (LV.rel_on hon hu hr')⟩
    boxes:=fun k' x hx hxb=>by
      rcases hst k' x hx with ⟨rfl,rfl⟩|⟨hne,hx'⟩
      · cases hxb
      · rw [hι k' hne]
        obtain ⟨arr',fr',h1,h2,h3,h4⟩:=hr.boxes k' x hx' hxb
        have hu:x.cells.all (CV.inUse bx)=true:=by simpa using List.all_eq_true.1 hb _ (look_mem hx')
        exact ⟨arr',fr',h1,h2,h3,hboxm (Box.rel_on hon hu h4) hu⟩
    own:=fun k' x hx=>by
      rcases hst k' x hx with ⟨rfl,rfl⟩|⟨hne,hx'⟩
      · rw [hιk]
        refine ⟨?_,hbX hroot⟩
        cases hc:Hc b with
        | none=>exact absurd hc hroot
        | some o=>exact (hO.own b o (hsub _ _ hc)).1
      · rw [hι k' hne]
        obtain ⟨h1,h2⟩:=hr.own k' x hx'
        obtain ⟨h3,h4⟩:=joinM_none h2
        refine ⟨h1,?_⟩
        show joinM X (minusM H Hc) (ι k').1=none
        have hm:minusM H Hc (ι k').1=none:=by
          cases hc:minusM H Hc (ι k').1 with
          | none=>rfl
          | some o=>rw [(minusM_some hc).2] at h3;cases h3
        rw [joinM_out hm];exact h4
    inj:=fun k1 k2 b1 b2 h1 h2 he=>by
      have hne:∀ k' x,look k' bx=some (some x)→(ι k').1≠b:=fun k' x hx e=>hroot (by rw [← e];exact hfar k' x hx)
      rcases hst k1 b1 h1 with ⟨e1,_⟩|⟨n1,h1'⟩<;>rcases hst k2 b2 h2 with ⟨e2,_⟩|⟨n2,h2'⟩
      · rw [e1,e2]
      · rw [e1,hιk,hι k2 n2] at he;exact absurd he.symm (hne k2 b2 h2')
      · rw [e2,hιk,hι k1 n1] at he;exact absurd he (hne k1 b1 h1')
      · rw [hι k1 n1,hι k2 n2] at he;exact hr.inj k1 k2 b1 b2 h1' h2' he
    keep:=fun k' x hx hge=>by
      rcases hst k' x hx with ⟨e,_⟩|⟨hne,hx'⟩
      · omega
      · rw [hι k' hne];exact hr.keep k' x hx' hge
    ext:=fun x o hx=>by
      have hx:joinM X (minusM H Hc) x=some o:=hx
      refine hr.ext x o ?_
      show joinM X H x=some o
      cases hc:minusM H Hc x with
      | some o'=>rw [joinM_in hc] at hx;cases hx;exact joinM_in (minusM_some hc).2
      | none =>
        rw [joinM_out hc] at hx
        have:H x=none:=by
          cases hh:H x with
          | none=>rfl
          | some o'=>have:=(hO.own x o' hh).2.2;rw [hx] at this;cases this
        rw [joinM_out this];exact hx
    res:=by
      obtain ⟨F,hF⟩:=hr.res
      have hFk:∀ x,F k x=none:=fun x=>by
        cases ho:F k x with
        | none=>rfl
        | some o =>
          obtain ⟨⟨_,_,_,h1⟩,_⟩:=hF.mem k x o ho
          have h1:look k bx=some _:=h1
          rw [hk] at h1;cases h1
      have hFar:∀ j x,F j x≠none→H x=none∧X x=none:=fun j x h=>by
        cases ho:F j x with
        | none=>exact absurd ho h
        | some o=>exact joinM_none (hF.mem j x o ho).2.2.2.2.1
      have hcH:∀ x,Hc x≠none→∃ o,Hc x=some o∧H x=some o:=fun x h=>by
        cases hc:Hc x with
        | none=>exact absurd hc h
        | some o=>exact ⟨o,rfl,hsub x o hc⟩
      refine ⟨fun j=>open Classical in if j=k then Hc else F j,fun j e' cs' R' hj => ?_,fun j x o ho => ?_,fun i j x h1 h2 => ?_⟩
      · rcases hst j _ hj with ⟨rfl,h2⟩|⟨hne,hj'⟩
        · rw [if_pos rfl,hιk]
          simp only [Box.mk.injEq,Row.res.injEq] at h2
          obtain ⟨_,_,rfl⟩:=h2
          exact ⟨⟨rfl,hR⟩,hroot⟩
        · rw [if_neg hne,hι j hne];exact hF.holds j e' cs' R' hj'
      · by_cases ej:j=k
        · rw [if_pos ej] at ho
          obtain ⟨h1,h2,h3⟩:=hO.own x o (hsub x o ho)
          refine ⟨⟨0,[],atR b R,by rw [stat_hd,if_pos ej]⟩,hr.ext x o (joinM_in (hsub x o ho)),h2,h1,?_,fun i bi hi ei => ?_⟩
          · show joinM X (minusM H Hc) x=none
            rw [joinM_out (minusM_in (by rw [ho];simp))];exact h3
          · rw [ej]
            rcases hst i bi hi with ⟨e,_⟩|⟨hne,hi'⟩
            · exact e
            · rw [hι i hne] at ei
              have:=hfar i bi hi'
              rw [ei,ho] at this;cases this
        · rw [if_neg ej] at ho
          obtain ⟨⟨e1,cs1,R1,h1⟩,h2,h3,h4,h5,h6⟩:=hF.mem j x o ho
          obtain ⟨h7,h8⟩:=hFar j x (by rw [ho];simp)
          refine ⟨⟨e1,cs1,R1,by rw [stat_hd,if_neg ej];exact h1⟩,h2,h3,h4,?_,fun i bi hi ei => ?_⟩
          · show joinM X (minusM H Hc) x=none
            have hm:minusM H Hc x=none:=by
              cases hc:minusM H Hc x with
              | none=>rfl
              | some o'=>rw [(minusM_some hc).2] at h7;cases h7
            rw [joinM_out hm];exact h8
          · rcases hst i bi hi with ⟨e,_⟩|⟨hne,hi'⟩
            · rw [e,hιk] at ei
              obtain ⟨o',_,h9⟩:=hcH b hroot
              rw [← ei] at h7
              rw [h9] at h7;cases h7
            · rw [hι i hne] at ei;exact h6 i bi hi' ei
      · by_cases ei:i=k
        · by_cases ej:j=k
          · rw [ei,ej]
          · rw [if_pos ei] at h1
            rw [if_neg ej] at h2
            obtain ⟨o,_,h3⟩:=hcH x h1
            rw [(hFar j x h2).1] at h3;cases h3
        · by_cases ej:j=k
          · rw [if_neg ei] at h1
            rw [if_pos ej] at h2
            obtain ⟨o,_,h3⟩:=hcH x h2
            rw [(hFar i x h1).1] at h3;cases h3
          · rw [if_neg ei] at h1
            rw [if_neg ej] at h2
            exact hF.apart i j x h1 h2
    frame:=hr.frame,big:=hr.big,os:=hr.os,tape:=hr.tape,output:=hr.output }
theorem LWP.takeRes {k b m:Nat} {R:Rsc} {H Hc:Nat→Option Obj} (hO:OwnedM C X H) (hsub:∀ x o,Hc x=some o→H x=some o) (hR:R.holds (b,m) Hc) (hroot:Hc b≠none)
    (hs:s.all (fun p=>p.2.inUse bx)=true) (hb:bx.all (fun p=>match p.2 with|some b=>b.cells.all (CV.inUse bx)|none=>true)=true) (hk:look k bx=none) (hlt:k<1000000)
    (h:LWP P n C c Q ⟨s,(k,some ⟨0,[],.res (atR b R)⟩)::bx,joinM X (minusM H Hc)⟩):LWP P n C c Q ⟨s,bx,joinM X H⟩:=
  ⟨fun ι a w hr=>h.out _ a w (hr.takeRes hO hsub hR hroot hs hb hk hlt)⟩
theorem Leads.fixAlone {Mid:St→Prop} {k:Nat} {e:TypeId} {cs:List CV} {R:Rsc}
    (hs:s.all (fun p=>p.2.inUse bx)=true) (hb:bx.all (fun p=>match p.2 with|some b=>b.cells.all (CV.inUse bx)|none=>true)=true) (hk:look k bx=none)
    (h:∀ (ρ:Nat×Nat) (H:Nat→Option Obj),R.holds ρ H→OwnedM C X H→Leads n C Mid ⟨s,bx,joinM X H⟩):Leads n C Mid ⟨s,(k,some ⟨e,cs,.res R⟩)::bx,X⟩:=⟨fun ι a w hr=>by
  obtain ⟨H,h1,h2,h3⟩:=hr.fixAlone hs hb hk
  exact (h (ι k) H h1 h2).out ι a w h3⟩
theorem Rel.resEx {α:Type} {ι:Nat→Nat×Nat} {a:Act} {w:World} {k:Nat} {e:TypeId} {cs:List CV} {R:Rsc} {R2:α→Rsc} (h:∀ ρ H,R.holds ρ H→∃ x,(R2 x).holds ρ H)
    (hr:Rel n C ι ⟨s,(k,some ⟨e,cs,.res R⟩)::bx,X⟩ a w):∃ x,Rel n C ι ⟨s,(k,some ⟨0,[],.res (R2 x)⟩)::bx,X⟩ a w:=by
  obtain ⟨F,hF⟩:=hr.res
  have hk:(⟨s,(k,some ⟨e,cs,.res R⟩)::bx,X⟩:St).stat k=some (some ⟨e,cs,.res R⟩):=by rw [stat_hd,if_pos rfl]
  obtain ⟨hR,hroot⟩:=hF.holds k _ _ _ hk
  obtain ⟨x,hx⟩:=h _ _ hR
  refine ⟨x,?_⟩
  have hlater:=later_hd (s:=s) (bx:=bx) (k:=k) ι ⟨e,cs,.res R⟩ ⟨0,[],.res (R2 x)⟩ X X
  have live:∀ j b,(⟨s,(k,some ⟨0,[],.res (R2 x)⟩)::bx,X⟩:St).stat j=some (some b)→∃ b0,(⟨s,(k,some ⟨e,cs,.res R⟩)::bx,X⟩:St).stat j=some (some b0)∧(j≠k→b=b0):=fun j b hj=>by
    rw [stat_hd] at hj ⊢
    by_cases e:j=k
    · rw [if_pos e];exact ⟨_,rfl,fun h=>absurd e h⟩
    · rw [if_neg e] at hj ⊢;exact ⟨b,hj,fun _=>rfl⟩
  exact {
    defers:=hr.defers,size:=hr.size
    slots:=fun d lv hd=>by
      obtain ⟨v,hv,hvr⟩:=hr.slots d lv hd
      exact ⟨v,hv,LV.rel_later hlater hvr⟩
    boxes:=fun j b hj hbk=>by
      by_cases ej:j=k
      · subst ej
        rw [stat_hd,if_pos rfl] at hj
        simp only [Option.some.injEq] at hj
        subst hj
        cases hbk
      · obtain ⟨b0,h0,h1⟩:=live j b hj
        have:=h1 ej
        subst this
        obtain ⟨arr',fr',g1,g2,g3,g4⟩:=hr.boxes j b h0 hbk
        exact ⟨arr',fr',g1,g2,g3,Box.rel_later hlater g4⟩
    own:=fun j b hj=>by
      obtain ⟨b0,h0,_⟩:=live j b hj
      exact hr.own j b0 h0
    inj:=fun i j bi bj hi hj he=>by
      obtain ⟨b1,h1,_⟩:=live i bi hi
      obtain ⟨b2,h2,_⟩:=live j bj hj
      exact hr.inj i j b1 b2 h1 h2 he
    keep:=fun j b hj hge=>by obtain ⟨b0,h0,_⟩:=live j b hj;exact hr.keep j b0 h0 hge
    ext:=hr.ext
    res:=by
      refine ⟨F,fun j e' cs' R' hj => ?_,fun j b o ho => ?_,hF.apart⟩
      · rw [stat_hd] at hj
        by_cases ej:j=k
        · rw [if_pos ej] at hj
          simp only [Option.some.injEq,Box.mk.injEq,Row.res.injEq] at hj
          obtain ⟨_,_,rfl⟩:=hj
          rw [ej];exact ⟨hx,hroot⟩
        · rw [if_neg ej] at hj
          exact hF.holds j e' cs' R' (by rw [stat_hd,if_neg ej];exact hj)
      · obtain ⟨⟨e1,cs1,R1,h1⟩,h2,h3,h4,h5,h6⟩:=hF.mem j b o ho
        refine ⟨?_,h2,h3,h4,h5,fun i bi hi ei => ?_⟩
        · by_cases ej:j=k
          · exact ⟨0,[],R2 x,by rw [stat_hd,if_pos ej]⟩
          · exact ⟨e1,cs1,R1,by rw [stat_hd,if_neg ej];rw [stat_hd,if_neg ej] at h1;exact h1⟩
        · obtain ⟨b0,h0,_⟩:=live i bi hi
          exact h6 i b0 h0 ei
    frame:=hr.frame,big:=hr.big,os:=hr.os,tape:=hr.tape,output:=hr.output }
theorem LWP.resEx {α:Type} {k:Nat} {e:TypeId} {cs:List CV} {R:Rsc} (R2:α→Rsc) (he:∀ ρ H,R.holds ρ H→∃ x,(R2 x).holds ρ H)
    (h:∀ x,LWP P n C c Q ⟨s,(k,some ⟨0,[],.res (R2 x)⟩)::bx,X⟩):LWP P n C c Q ⟨s,(k,some ⟨e,cs,.res R⟩)::bx,X⟩:=⟨fun ι a w hr=>by
  obtain ⟨x,hx⟩:=hr.resEx he
  exact (h x).out ι a w hx⟩
theorem Leads.resTo {Mid:St→Prop} {k:Nat} {e:TypeId} {cs:List CV} {R R2:Rsc} (he:∀ ρ H,R.holds ρ H→R2.holds ρ H)
    (h:Leads n C Mid ⟨s,(k,some ⟨0,[],.res R2⟩)::bx,X⟩):Leads n C Mid ⟨s,(k,some ⟨e,cs,.res R⟩)::bx,X⟩:=⟨fun ι a w hr=>by
  obtain ⟨_,hx⟩:=hr.resEx (α:=Unit) (R2:=fun _=>R2) fun ρ H hh=>⟨(),he ρ H hh⟩
  exact h.out ι a w hx⟩
end
structure Refs (H:Nat→Option Obj) (ps:List Nat) (Rs:List Rsc):Prop where
  len:ps.length=Rs.length
  ex:∃ F:Nat→Nat→Option Obj,(∀ i b o,F i b=some o→H b=some o)∧(∀ i j b,F i b≠none→F j b≠none→i=j) ∧
    ∀ (i b:Nat) (R:Rsc),Rs[i]? = some R→ps[i]? = some b→(∃ m,R.holds (b,m) (F i))∧F i b≠none
theorem Refs.nil (H:Nat→Option Obj):Refs H [] []:=⟨rfl,fun _ _=>none,fun _ _ _ h=>(by cases h),fun _ _ _ h=>absurd rfl h,fun i b R h=>(by simp at h)⟩
section
variable {H:Nat→Option Obj} {ps:List Nat} {Rs:List Rsc}
theorem Refs.take (h:Refs H ps Rs) {i:Nat} {R:Rsc} (hi:Rs[i]? = some R):∃ (b m:Nat) (Hc:Nat→Option Obj),ps[i]? = some b∧R.holds (b,m) Hc∧Hc b≠none∧(∀ x o,Hc x=some o→H x=some o) ∧
    ∀ (R':Rsc) (m':Nat) (Hc':Nat→Option Obj),R'.holds (b,m') Hc'→Hc' b≠none→(∀ x,Hc' x≠none→minusM H Hc x=none)→Refs (joinM (minusM H Hc) Hc') ps (Rs.set i R'):=by
  obtain ⟨hl,F,h1,h2,h3⟩:=h
  have hlt:=(List.getElem?_eq_some_iff.1 hi).1
  obtain ⟨b,hb⟩:∃ b,ps[i]? = some b:=⟨_,List.getElem?_eq_getElem (by omega)⟩
  obtain ⟨⟨m,h4⟩,h5⟩:=h3 i b R hi hb
  refine ⟨b,m,F i,hb,h4,h5,h1 i,fun R' m' Hc' g1 g2 g3=>⟨by rw [List.length_set];exact hl,fun j=>if j=i then Hc' else F j,fun j x o hx => ?_,fun j k x hj hk => ?_,fun j c S hS hc => ?_⟩⟩
  · replace hx:(if j=i then Hc' else F j) x=some o:=hx
    by_cases e:j=i
    · rw [if_pos e] at hx;exact joinM_in hx
    · rw [if_neg e] at hx
      have hmi:minusM H (F i) x=some o:=by
        rw [minusM_none]
        · exact h1 j x o hx
        · cases hc:F i x with
          | none=>rfl
          | some o'=>exact absurd (h2 j i x (by rw [hx];simp) (by rw [hc];simp)) e
      cases hc:Hc' x with
      | none=>rw [joinM_out hc];exact hmi
      | some o'=>have:=g3 x (by rw [hc];simp);rw [hmi] at this;cases this
  · have far:∀ j x,j≠i→F j x≠none→Hc' x=none:=fun j x e hx=>by
      cases hc:Hc' x with
      | none=>rfl
      | some o' =>
        have h6:=g3 x (by rw [hc];simp)
        cases ho:F j x with
        | none=>exact absurd ho hx
        | some o =>
          rw [minusM_none,h1 j x o ho] at h6
          · cases h6
          · cases hc2:F i x with
            | none=>rfl
            | some o''=>exact absurd (h2 j i x hx (by rw [hc2];simp)) e
    replace hj:(if j=i then Hc' else F j) x≠none:=hj
    replace hk:(if k=i then Hc' else F k) x≠none:=hk
    by_cases e:j=i
    · by_cases e2:k=i
      · omega
      · rw [if_pos e] at hj
        rw [if_neg e2] at hk
        exact absurd (far k x e2 hk) hj
    · by_cases e2:k=i
      · rw [if_neg e] at hj
        rw [if_pos e2] at hk
        exact absurd (far j x e hj) hk
      · rw [if_neg e] at hj
        rw [if_neg e2] at hk
        exact h2 j k x hj hk
  · show (∃ m,S.holds (c,m) (if j=i then Hc' else F j))∧(if j=i then Hc' else F j) c≠none
    by_cases e:j=i
    · rw [if_pos e]
      rw [e,List.getElem?_set_self hlt] at hS
      rw [e,hb] at hc
      simp only [Option.some.injEq] at hS hc
      subst hS hc
      exact ⟨⟨m',g1⟩,g2⟩
    · rw [if_neg e]
      rw [List.getElem?_set_ne (fun e'=>e e'.symm)] at hS
      exact h3 j c S hS hc
theorem Refs.push (h:Refs H ps Rs) {b m:Nat} {R:Rsc} {Hc:Nat→Option Obj} (hR:R.holds (b,m) Hc) (hb:Hc b≠none) (hno:∀ x,Hc x≠none→H x=none):Refs (joinM H Hc) (ps++[b]) (Rs++[R]):=by
  obtain ⟨hl,F,h1,h2,h3⟩:=h
  refine ⟨by rw [List.length_append,List.length_append,hl];rfl,fun j=>if j=Rs.length then Hc else F j,fun j x o hx => ?_,fun j k x hj hk => ?_,fun j c S hS hc => ?_⟩
  · replace hx:(if j=Rs.length then Hc else F j) x=some o:=hx
    by_cases e:j=Rs.length
    · rw [if_pos e] at hx;exact joinM_in hx
    · rw [if_neg e] at hx
      have h4:=h1 j x o hx
      cases hc:Hc x with
      | none=>rw [joinM_out hc];exact h4
      | some o'=>have:=hno x (by rw [hc];simp);rw [h4] at this;cases this
  · have far:∀ j x,F j x≠none→Hc x=none:=fun j x hx=>by
      cases ho:F j x with
      | none=>exact absurd ho hx
      | some o =>
        cases hc:Hc x with
        | none=>rfl
        | some o'=>have:=hno x (by rw [hc];simp);rw [h1 j x o ho] at this;cases this
    replace hj:(if j=Rs.length then Hc else F j) x≠none:=hj
    replace hk:(if k=Rs.length then Hc else F k) x≠none:=hk
    by_cases e:j=Rs.length
    · by_cases e2:k=Rs.length
      · omega
      · rw [if_pos e] at hj
        rw [if_neg e2] at hk
        exact absurd (far k x hk) hj
    · by_cases e2:k=Rs.length
      · rw [if_neg e] at hj
        rw [if_pos e2] at hk
        exact absurd (far j x hj) hk
      · rw [if_neg e] at hj
        rw [if_neg e2] at hk
        exact h2 j k x hj hk
  · have hlt:=(List.getElem?_eq_some_iff.1 hS).1
    rw [List.length_append,List.length_singleton] at hlt
    show (∃ m,S.holds (c,m) (if j=Rs.length then Hc else F j))∧(if j=Rs.length then Hc else F j) c≠none
    by_cases e:j=Rs.length
    · rw [if_pos e]
      rw [e,List.getElem?_append_right (Nat.le_refl _),Nat.sub_self] at hS
      rw [e,← hl,List.getElem?_append_right (Nat.le_refl _),Nat.sub_self] at hc
      simp only [List.getElem?_cons_zero,Option.some.injEq] at hS hc
      subst hS hc
      exact ⟨⟨m,hR⟩,hb⟩
    · rw [if_neg e]
      rw [List.getElem?_append_left (by omega)] at hS
      rw [List.getElem?_append_left (by omega)] at hc
      exact h3 j c S hS hc
end
theorem lvs_later {S S':Nat→Option (Option Box)} {ι ι':Nat→Nat×Nat} (h:Later S S' ι ι'):∀ {l:List LV} {vs:List Value},LVs.rel S ι l vs→LVs.rel S' ι' l vs
  | [],[],_=>trivial
  | [],_::_,hr=>hr.elim
  | _::_,[],hr=>hr.elim
  | _::_,_::_,hr=>⟨LV.rel_later h hr.1,lvs_later h hr.2⟩
theorem MSpec.at {P:Program} {X:Nat→Option Obj} {f:FuncId} {k b:Nat} {args:List LV} {r:LV} {R R':Rsc} {post:List (Nat×Option Box)} (h:MSpec P X f (.sv (.one (.ptr k 0))::args) [(k,some ⟨0,[],.res R⟩)] r ((k,some ⟨0,[],.res R'⟩)::post)):
    MSpec P X f (.sv (.one (.val (.pointer (some ⟨b,0,none⟩))))::args) [(k,some ⟨0,[],.res (atR b R)⟩)] r ((k,some ⟨0,[],.res (atR b R')⟩)::post):=by
  have hcons:∀ (l:List (Nat×Option Box)) (x:Option Box) (j:Nat),stOf ((k,x)::l) j=if j=k then some x else stOf l j:=fun l x j=>stat_cons [] l (fun _=>none) k j x
  have hlater:∀ (l:List (Nat×Option Box)) (ι:Nat→Nat×Nat) (A B:Rsc),Later (stOf ((k,some ⟨0,[],.res A⟩)::l)) (stOf ((k,some ⟨0,[],.res B⟩)::l)) ι ι:=fun l ι A B=>later_same ι fun j hj=>by
    rw [hcons] at hj ⊢
    rw [hcons]
    by_cases e:j=k
    · rw [if_pos e,if_pos e];exact ⟨by simp,fun _ _=>⟨_,rfl⟩⟩
    · rw [if_neg e] at hj ⊢
      rw [if_neg e];exact ⟨hj,fun b1 hb1=>⟨b1,hb1⟩⟩
  have conv:∀ (l:List (Nat×Option Box)) (A B:Rsc) (ι:Nat→Nat×Nat) (H:Nat→Nat→Option Obj) (w:World),(A.holds (ι k) (H k)→B.holds (ι k) (H k))→MemOf X ι H ((k,some ⟨0,[],.res A⟩)::l) w→MemOf X ι H ((k,some ⟨0,[],.res B⟩)::l) w:=fun l A B ι H w hAB hM=>by
    have live:∀ j x,stOf ((k,some ⟨0,[],.res B⟩)::l) j=some (some x)→∃ y,stOf ((k,some ⟨0,[],.res A⟩)::l) j=some (some y)∧(j≠k→x=y):=fun j x hj=>by
      rw [hcons] at hj ⊢
      by_cases e:j=k
      · rw [if_pos e];exact ⟨_,rfl,fun h=>absurd e h⟩
      · rw [if_neg e] at hj ⊢;exact ⟨x,hj,fun _=>rfl⟩
    refine ⟨fun j x hj hb => ?_,fun j x hj => ?_,fun i j bi bj hi hj he => ?_,hM.ext,?_⟩
    · obtain ⟨y,hy,hne⟩:=live j x hj
      by_cases e:j=k
      · rw [hcons,if_pos e] at hj
        simp only [Option.some.injEq] at hj
        subst hj;cases hb
      · have:=hne e
        subst this
        obtain ⟨arr,fr,h1,h2,h3,h4⟩:=hM.boxes j x hy hb
        exact ⟨arr,fr,h1,h2,h3,Box.rel_later (hlater l ι A B) h4⟩
    · obtain ⟨y,hy,_⟩:=live j x hj
      exact hM.apart j y hy
    · obtain ⟨y,hy,_⟩:=live i bi hi
      obtain ⟨z,hz,_⟩:=live j bj hj
      exact hM.inj i j y z hy hz he
    · refine ⟨fun j e' cs' R1 hj => ?_,fun j x o ho => ?_,hM.res.apart⟩
      · rw [hcons] at hj
        by_cases e:j=k
        · rw [if_pos e] at hj
          simp only [Option.some.injEq,Box.mk.injEq,Row.res.injEq] at hj
          obtain ⟨_,_,rfl⟩:=hj
          obtain ⟨h1,h2⟩:=hM.res.holds k 0 [] A (by rw [hcons,if_pos rfl])
          rw [e];exact ⟨hAB h1,h2⟩
        · rw [if_neg e] at hj
          exact hM.res.holds j e' cs' R1 (by rw [hcons,if_neg e];exact hj)
      · obtain ⟨⟨e1,cs1,R1,h1⟩,h2,h3,h4,h5,h6⟩:=hM.res.mem j x o ho
        refine ⟨?_,h2,h3,h4,h5,fun i bi hi ei => ?_⟩
        · by_cases e:j=k
          · exact ⟨0,[],B,by rw [hcons,if_pos e]⟩
          · exact ⟨e1,cs1,R1,by rw [hcons,if_neg e];rw [hcons,if_neg e] at h1;exact h1⟩
        · obtain ⟨y,hy,_⟩:=live i bi hi
          exact h6 i y hy ei
  refine ⟨h.enters,fun w vals ι H hM hargs => ?_⟩
  obtain ⟨⟨hb,hR⟩,_⟩:=hM.res.holds k 0 [] (atR b R) (by rw [hcons,if_pos rfl])
  have hM0:=conv [] (atR b R) R ι H w (fun h=>h.2) hM
  have hargs0:LVs.rel (stOf [(k,some ⟨0,[],.res R⟩)]) ι (.sv (.one (.ptr k 0))::args) vals.toList:=by
    cases hv:vals.toList with
    | nil=>rw [hv] at hargs;exact hargs.elim
    | cons v vs =>
      rw [hv] at hargs
      obtain ⟨h1,h2⟩:=hargs
      refine ⟨?_,?_⟩
      · have h1:v = .pointer (some ⟨b,0,none⟩):=h1
        simp only [LV.rel,SV.rel,CV.rel]
        rw [hcons,if_pos rfl]
        simp only
        rw [h1,hb]
      · exact lvs_later (hlater [] ι (atR b R) R) h2
  refine (h.out w vals ι H hM0 hargs0).mono ?_
  rintro e w' ⟨v,ι',H',rfl,hv,hM',hP⟩
  have hold:=(hP.old k ⟨0,[],.res R'⟩ (by rw [hcons,if_pos rfl]) (by rw [hcons,if_pos rfl];simp)).2
  have hlen:∀ j,stOf [(k,some (⟨0,[],.res (atR b R)⟩:Box))] j=none↔stOf [(k,some (⟨0,[],.res R⟩:Box))] j=none:=fun j=>by
    rw [hcons,hcons]
    by_cases e:j=k
    · rw [if_pos e,if_pos e];simp
    · rw [if_neg e,if_neg e]
  have hlent:∀ x,LentB [(k,some (⟨0,[],.res (atR b R)⟩:Box))] ι H x↔LentB [(k,some (⟨0,[],.res R⟩:Box))] ι H x:=fun x=>by
    have go:∀ A B:Rsc,LentB [(k,some (⟨0,[],.res A⟩:Box))] ι H x→LentB [(k,some (⟨0,[],.res B⟩:Box))] ι H x:=fun A B h=>by
      rcases h with ⟨j,b0,h1,h2⟩|h
      · rw [hcons] at h1
        by_cases e:j=k
        · exact .inl ⟨j,_,by rw [hcons,if_pos e],h2⟩
        · rw [if_neg e] at h1;cases h1
      · exact .inr h
    exact ⟨go _ _,go _ _⟩
  have live:∀ j x,stOf ((k,some ⟨0,[],.res (atR b R')⟩)::post) j=some (some x)→∃ y,stOf ((k,some ⟨0,[],.res R'⟩)::post) j=some (some y):=fun j x hj=>by
    rw [hcons] at hj ⊢
    by_cases e:j=k
    · rw [if_pos e];exact ⟨_,rfl⟩
    · rw [if_neg e] at hj ⊢;exact ⟨x,hj⟩
  refine ⟨v,ι',H',rfl,LV.rel_later (hlater post ι' R' (atR b R')) hv,conv post R' (atR b R') ι' H' w' (fun h=>⟨by rw [hold];exact hb,h⟩) hM',⟨fun j x hj hn => ?_,fun j x hj hn => ?_,fun j x hj => ?_,fun x hx hn=>hP.frame x hx fun h=>hn ((hlent x).2 h),hP.big,hP.os,hP.tape,hP.output⟩⟩
  · obtain ⟨y,hy⟩:=live j x hj
    obtain ⟨⟨b0,h1⟩,h2⟩:=hP.old j y hy fun h=>hn ((hlen j).2 h)
    refine ⟨?_,h2⟩
    rw [hcons] at h1 ⊢
    by_cases e:j=k
    · rw [if_pos e];exact ⟨_,rfl⟩
    · rw [if_neg e] at h1;cases h1
  · obtain ⟨y,hy⟩:=live j x hj
    rcases hP.new j y hy ((hlen j).1 hn) with h|h
    · exact .inl h
    · exact .inr ((hlent _).2 h)
  · rcases hP.newH j x hj with h|h
    · exact .inl h
    · exact .inr ((hlent _).2 h)
end Go.Lg
end
section
namespace Go.Lg
open Go Go.RowKit
section
variable {P:Program} {X:Nat→Option Obj} {pre:List (Nat×Option Box)} {ι:Nat→Nat×Nat} {H:Nat→Nat→Option Obj} {w:World}
theorem lentBox_mem (hM:MemOf X ι H pre w) {k:Nat} {b:Box} (hst:stOf pre k=some (some b)):LentBox (fun i=>w.heap[i]?) b (ι k).1 (ι k).2:=by
  obtain ⟨e,cs,row⟩:=b
  cases row with
  | bool r =>
    obtain ⟨arr,fr,harr,_,hsz,hbr⟩:=hM.boxes k _ hst rfl
    unfold Box.rel at hbr
    cases r with
    | false=>exact ⟨arr,fr,arr.toList,[],harr,hsz,by simp,fun vals e=>by simp only at e hbr;rw [e] at hbr;exact rel_vals hbr⟩
    | true =>
      obtain ⟨us,sp,e,hl⟩:=hbr
      exact ⟨arr,fr,us,sp,harr,hsz,e,fun vals e=>by simp only at e hl;rw [e] at hl;exact rel_vals hl⟩
  | res R=>exact ⟨H k,(hM.res.holds k _ _ _ hst).1,fun i o h=>(hM.res.mem k i o h).2.1⟩
theorem lentC_mem (hM:MemOf X ι H pre w) (ks:List Nat) {c:CV} {u:Value} (hl:lendC (stOf pre) ks c=true) (h:c.rel (stOf pre) ι u):LentC (stOf pre) (fun i=>w.heap[i]?) c u:=by
  cases c with
  | val v=>exact h
  | slc k off len sz =>
    simp only [lendC,Bool.and_eq_true] at hl
    cases hs:stOf pre k with
    | none=>rw [hs] at hl;exact absurd hl.2 (by simp)
    | some x =>
      cases x with
      | none=>rw [hs] at hl;exact absurd hl.2 (by simp)
      | some b =>
        simp only [CV.rel,hs] at h
        obtain ⟨cap,rfl,h3,h4⟩:=h
        exact ⟨b,_,cap,_,hs,rfl,h3,h4,lentBox_mem hM hs⟩
  | ptr _ _=>cases hl
  | mp _=>cases hl
  | fn _ _ _=>cases hl
  | hang _ _ _=>cases hl
  | junk=>cases hl
theorem lentCs_mem (hM:MemOf X ι H pre w) (ks:List Nat):∀ {cs:List CV} {us:List Value},cs.all (lendC (stOf pre) ks)=true→CVs.rel (stOf pre) ι cs us→LentCs (stOf pre) (fun i=>w.heap[i]?) cs us
  | [],[],_,_=>rfl
  | [],_::_,_,h=>h.elim
  | _::_,[],_,h=>h.elim
  | c::l,u::us,hl,h=>by
    simp only [List.all_cons,Bool.and_eq_true] at hl
    exact ⟨u,us,rfl,lentC_mem hM ks hl.1 h.1,lentCs_mem hM ks hl.2 h.2⟩
theorem lentLs_mem (hM:MemOf X ι H pre w) (ks:List Nat):∀ {lvs:List LV} {us:List Value},lvs.all (lendL (stOf pre) ks)=true→LVs.rel (stOf pre) ι lvs us→LentLs (stOf pre) (fun i=>w.heap[i]?) lvs us
  | [],[],_,_=>rfl
  | [],_::_,_,h=>h.elim
  | _::_,[],_,h=>h.elim
  | lv::l,u::us,hl,h=>by
    simp only [List.all_cons,Bool.and_eq_true] at hl
    refine ⟨u,us,rfl,?_,lentLs_mem hM ks hl.2 h.2⟩
    have h1:=h.1
    have h2:=hl.1
    match lv with
    | .sv (.one c)=>exact lentC_mem hM ks h2 h1
    | .sv (.agg cs) =>
      obtain ⟨arr,rfl,hl'⟩:=h1
      exact ⟨arr.toList,by simp,lentCs_mem hM ks h2 hl'⟩
    | .tup _=>cases h2
theorem Box.rel_means {bx:List (Nat×Option Box)} {S:Nat→Option (Option Box)} {κ:Nat→Nat×Nat} (h:∀ k,(look k bx).isSome=true→κ k=ι k) {b:Box} (hu:b.cells.all (CV.inUse bx)=true) {vs:List Value} (hr:b.rel S ι vs):b.rel S κ vs:=by
  unfold Box.rel at hr ⊢
  cases hb:b.row with
  | res R=>rw [hb] at hr;exact hr.elim
  | bool r =>
    cases r with
    | false=>rw [hb] at hr;exact CVs.rel_means h hu hr
    | true =>
      rw [hb] at hr
      obtain ⟨us,sp,e,hl⟩:=hr
      exact ⟨us,sp,e,CVs.rel_means h hu hl⟩
theorem MSpec.lend {f:FuncId} {lvs:List LV} {r:LV} {post:List (Nat×Option Box)} (hent:Program.enters P f=true) (hl:lvs.all (lendL (stOf pre) (pre.map (·.1)))=true)
    (hub:pre.all (fun p=>match p.2 with|some b=>b.cells.all (CV.inUse pre)|none=>true)=true) (hup:post.all (fun p=>match p.2 with|some b=>b.cells.all (CV.inUse post)|none=>true)=true) (hur:r.inUse post=true) (hdis:post.all (fun p=>(look p.1 pre).isNone)=true)
    (hs:∀ (Y:Nat→Option Obj) (us:List Value),(∀ b o,X b=some o→Y b=some o)→LentLs (stOf pre) Y lvs us→MSpec P Y f (us.map toLV) [] r post):MSpec P X f lvs pre r (pre++post):=by
  refine ⟨hent,fun w vals ι H hM hargs => ?_⟩
  have hlent:=lentLs_mem hM (pre.map (·.1)) hl hargs
  have hM0:MemOf (fun b=>w.heap[b]?) (fun _=>(0,0)) (fun _ _=>none) [] w:=⟨fun k b h=>(by cases h),fun k b h=>(by cases h),fun k k' b b' h=>(by cases h),fun b o h=>h,⟨fun k e cs R h=>(by cases h),fun k b o h=>(by cases h),fun k k' b h=>absurd rfl h⟩⟩
  have hc:=(hs _ _ hM.ext hlent).out w vals (fun _=>(0,0)) (fun _ _=>none) hM0 (args_rel _)
  refine hc.mono ?_
  rintro e w' ⟨v,ι',H',rfl,hv,hM',hP⟩
  have hno:∀ b,¬ LentB [] (fun _=>(0,0)) (fun _ _=>none) b:=fun b h=>by
    rcases h with ⟨k,b0,h,_⟩|⟨k,h⟩
    · cases h
    · exact h rfl
  have hst:∀ k,stOf (pre++post) k=(look k pre).or (look k post):=fun k=>look_append _ _ _
  have hp1:∀ k x,look k pre=some x→stOf (pre++post) k=some x:=fun k x h=>by rw [hst,h];rfl
  have hdj:∀ k x,look k post=some x→look k pre=none:=fun k x h=>by
    have:=List.all_eq_true.1 hdis _ (look_mem h)
    simpa using this
  have hp2:∀ k x,look k post=some x→stOf (pre++post) k=some x:=fun k x h=>by rw [hst,hdj k x h,h];rfl
  have hback:∀ k x,stOf (pre++post) k=some x→look k pre=some x∨(look k pre=none∧look k post=some x):=fun k x h=>by
    rw [hst] at h
    cases hp:look k pre with
    | none=>rw [hp] at h;exact .inr ⟨rfl,h⟩
    | some y=>rw [hp] at h;exact .inl h
  have hgrow:∀ b o,w.heap[b]? = some o→w'.heap[b]? = some o:=fun b o h=>hM'.ext b o h
  have hin:∀ k b,look k pre=some (some b)→∃ o,w.heap[(ι k).1]? = some o:=fun k b h=>by
    cases hb:b.blk with
    | true =>
      obtain ⟨arr,fr,h1,_⟩:=hM.boxes k b h hb
      exact ⟨_,h1⟩
    | false =>
      obtain ⟨e,cs,R,rfl⟩:=Box.res_of hb
      have h1:=(hM.res.holds k _ _ _ h).2
      cases ho:H k (ι k).1 with
      | none=>exact absurd ho h1
      | some o=>exact ⟨o,(hM.res.mem k _ o ho).2.1⟩
  have hout:∀ k b,look k post=some (some b)→w.heap[(ι' k).1]? = none:=fun k b h=>hM'.apart k b h
  have hX:∀ b,w.heap[b]? = none→X b=none:=fun b h=>by
    cases hx:X b with
    | none=>rfl
    | some o=>rw [hM.ext b o hx] at h;cases h
  generalize hκ:(fun k=>if (look k pre).isSome=true then ι k else ι' k)=κ
  generalize hG:(fun k=>if (look k pre).isSome=true then H k else H' k)=G
  have k1:∀ k x,look k pre=some x→κ k=ι k:=fun k x h=>by rw [← hκ];exact if_pos (by rw [h];rfl)
  have k2:∀ k,look k pre=none→κ k=ι' k:=fun k h=>by rw [← hκ];exact if_neg (by rw [h];decide)
  have g1:∀ k x,look k pre=some x→G k=H k:=fun k x h=>by rw [← hG];exact if_pos (by rw [h];rfl)
  have g2:∀ k,look k pre=none→G k=H' k:=fun k h=>by rw [← hG];exact if_neg (by rw [h];decide)
  have on1:SameOn pre (stOf pre) (stOf (pre++post)):=fun k x h=>h.trans (hp1 k x h).symm
  have on2:SameOn post (stOf post) (stOf (pre++post)):=fun k x h=>h.trans (hp2 k x h).symm
  have mn1:∀ k,(look k pre).isSome=true→κ k=ι k:=fun k h=>by
    obtain ⟨x,hx⟩:=Option.isSome_iff_exists.1 h
    exact k1 k x hx
  have mn2:∀ k,(look k post).isSome=true→κ k=ι' k:=fun k h=>by
    obtain ⟨x,hx⟩:=Option.isSome_iff_exists.1 h
    exact k2 k (hdj k x hx)
  have hcp:∀ k b,look k pre=some (some b)→b.cells.all (CV.inUse pre)=true:=fun k b h=>by simpa using List.all_eq_true.1 hub _ (look_mem h)
  have hcq:∀ k b,look k post=some (some b)→b.cells.all (CV.inUse post)=true:=fun k b h=>by simpa using List.all_eq_true.1 hup _ (look_mem h)
  have hHin:∀ k b,H k b≠none→(∃ x,look k pre=some x)∧∃ o,w.heap[b]? = some o:=fun k b h=>by
    cases ho:H k b with
    | none=>exact absurd ho h
    | some o =>
      obtain ⟨⟨_,_,_,h1⟩,h2,_⟩:=hM.res.mem k b o ho
      exact ⟨⟨_,h1⟩,o,h2⟩
  have hHout:∀ k b,H' k b≠none→w.heap[b]? = none:=fun k b h=>by
    cases ho:H' k b with
    | none=>exact absurd ho h
    | some o=>exact (hM'.res.mem k b o ho).2.2.2.2.1
  refine ⟨v,κ,G,rfl,LV.rel_means mn2 hur (LV.rel_on on2 hur hv),?_,?_⟩
  · refine ⟨fun k b hk hb => ?_,fun k b hk => ?_,fun k k' b b' hk hk' he => ?_,fun b o hb=>hgrow b o (hM.ext b o hb),?_⟩
    · rcases hback k _ hk with h|⟨h,h'⟩
      · obtain ⟨arr,fr,q1,q2,q3,q4⟩:=hM.boxes k b h hb
        rw [k1 k _ h]
        exact ⟨arr,fr,hgrow _ _ q1,q2,q3,Box.rel_means mn1 (hcp k b h) (Box.rel_on on1 (hcp k b h) q4)⟩
      · obtain ⟨arr,fr,q1,q2,q3,q4⟩:=hM'.boxes k b h' hb
        rw [k2 k h]
        exact ⟨arr,fr,q1,q2,q3,Box.rel_means mn2 (hcq k b h') (Box.rel_on on2 (hcq k b h') q4)⟩
    · rcases hback k _ hk with h|⟨h,h'⟩
      · rw [k1 k _ h];exact hM.apart k b h
      · rw [k2 k h];exact hX _ (hout k b h')
    · rcases hback k _ hk with h|⟨h,h'⟩
      · rcases hback k' _ hk' with i|⟨i,i'⟩
        · rw [k1 k _ h,k1 k' _ i] at he
          exact hM.inj k k' b b' h i he
        · rw [k1 k _ h,k2 k' i] at he
          obtain ⟨o,ho⟩:=hin k b h
          rw [he,hout k' b' i'] at ho
          cases ho
      · rcases hback k' _ hk' with i|⟨i,i'⟩
        · rw [k2 k h,k1 k' _ i] at he
          obtain ⟨o,ho⟩:=hin k' b' i
          rw [← he,hout k b h'] at ho
          cases ho
        · rw [k2 k h,k2 k' i] at he
          exact hM'.inj k k' b b' h' i' he
    · refine ⟨fun k e cs R hk => ?_,fun k b o ho => ?_,fun k k' b q1 q2 => ?_⟩
      · rcases hback k _ hk with h|⟨h,h'⟩
        · rw [k1 k _ h,g1 k _ h];exact hM.res.holds k e cs R h
        · rw [k2 k h,g2 k h];exact hM'.res.holds k e cs R h'
      · cases h:look k pre with
        | some x =>
          rw [g1 k x h] at ho
          obtain ⟨⟨e1,cs1,R1,q0⟩,q1,q2,q3,q4,q5⟩:=hM.res.mem k b o ho
          refine ⟨⟨e1,cs1,R1,hp1 k _ q0⟩,hgrow _ _ q1,q2,trivial,q4,fun j bj hj e2 => ?_⟩
          rcases hback j _ hj with i|⟨i,i'⟩
          · rw [k1 j _ i] at e2;exact q5 j bj i e2
          · rw [k2 j i] at e2
            have:=hout j bj i'
            rw [e2,q1] at this
            cases this
        | none =>
          rw [g2 k h] at ho
          obtain ⟨⟨e1,cs1,R1,q0⟩,q1,q2,q3,q4,q5⟩:=hM'.res.mem k b o ho
          refine ⟨⟨e1,cs1,R1,hp2 k _ q0⟩,q1,q2,trivial,hX b q4,fun j bj hj e2 => ?_⟩
          rcases hback j _ hj with i|⟨i,i'⟩
          · rw [k1 j _ i] at e2
            obtain ⟨o2,ho2⟩:=hin j bj i
            rw [e2] at ho2
            rw [show w.heap[b]? = none from q4] at ho2
            cases ho2
          · rw [k2 j i] at e2;exact q5 j bj i' e2
      · cases h:look k pre with
        | some x =>
          rw [g1 k x h] at q1
          cases h2:look k' pre with
          | some y=>rw [g1 k' y h2] at q2;exact hM.res.apart k k' b q1 q2
          | none =>
            rw [g2 k' h2] at q2
            obtain ⟨_,o,ho⟩:=hHin k b q1
            rw [hHout k' b q2] at ho
            cases ho
        | none =>
          rw [g2 k h] at q1
          cases h2:look k' pre with
          | some y =>
            rw [g1 k' y h2] at q2
            obtain ⟨_,o,ho⟩:=hHin k' b q2
            rw [hHout k b q1] at ho
            cases ho
          | none=>rw [g2 k' h2] at q2;exact hM'.res.apart k k' b q1 q2
  · refine ⟨fun k b hk hn => ?_,fun k b hk hn => ?_,fun k b h => ?_,fun b hb _=>hP.frame b hb (hno b),hP.big,hP.os,hP.tape,hP.output⟩
    · rcases hback k _ hk with h|⟨h,_⟩
      · exact ⟨⟨b,h⟩,k1 k _ h⟩
      · exact absurd h hn
    · rcases hback k _ hk with h|⟨h,h'⟩
      · have h2:look k pre=none:=hn
        rw [h] at h2;cases h2
      · rw [k2 k h]
        rcases hP.new k b h' rfl with q|q
        · exact .inl q
        · exact absurd q (hno _)
    · cases hp:look k pre with
      | some x=>rw [g1 k x hp] at h;exact .inr (.inr ⟨k,h⟩)
      | none =>
        rw [g2 k hp] at h
        rcases hP.newH k b h with q|q
        · exact .inl q
        · exact absurd q (hno _)
end
end Go.Lg
end
section
namespace Go.Lg
open Go Go.RowKit
section
variable {P:Program} {n:Nat} {ops os:List Oper} {acc:List Eff} {K:List Eff→St→Prop} {s:List (Nat×LV)} {bx:List (Nat×Option Box)} {X:Nat→Option Obj} {σ:St}
theorem range_flat {z:Array Value} {sz:Nat} (hs:z.size=sz):∀ m:Nat,((List.range (m*sz)).map fun i=>z[i%z.size]!)=(List.replicate m z.toList).flatten:=by
  intro m
  induction m with
  | zero=>simp
  | succ m ih =>
    rw [Nat.succ_mul,List.range_add,List.map_append,ih,List.replicate_succ',List.flatten_append]
    congr 1
    rw [List.map_map]
    simp only [List.flatten_cons,List.flatten_nil,List.append_nil]
    apply List.ext_getElem
    · simp [hs]
    · intro i h3 h4
      have hi:i<sz:=by simpa [hs] using h4
      have h5:i%sz=i:=Nat.mod_eq_of_lt hi
      have h6:i<z.size:=by omega
      rw [List.getElem_map,Function.comp_apply,List.getElem_range,hs,Nat.mul_add_mod_self_right,h5,Array.getElem_toList]
      exact getElem!_pos z i h6
structure MadeOf (P:Program) (t:TypeId) (e:TypeId) (sz bytes:Nat) (z:List Value):Prop where
  under:P.underlying t=some (.slice e)
  info:(P.info? e).map (fun i=>(i.size,i.zero.map (fun z=>z.cells),i.bytes))=some (sz,some z.toArray,bytes)
  len:z.length=sz
end
end Go.Lg
end
section
namespace Go.Lg
open Go Go.RowKit
section
variable {P:Program} {n:Nat} {ops os:List Oper} {acc:List Eff} {K:List Eff→St→Prop} {s:List (Nat×LV)} {bx:List (Nat×Option Box)} {X:Nat→Option Obj} {σ:St}
def concrete (P:Program) (t:TypeId):Bool:=match P.underlying t with|some (.interface _)=>false|some _=>true|none=>false
theorem run_mkIface {t:TypeId} (ht:concrete P t=true) (v:Value) (w:World):(Instr.makeInterface t v).run P w = .ok (.iface t v) w:=by
  unfold concrete at ht
  cases hu:P.underlying t with
  | none=>rw [hu] at ht;cases ht
  | some u =>
    rw [hu] at ht
    unfold Instr.makeInterface
    cases u<;>first|cases (show false=true from ht)|simp [Sem.run_bind,run_underlying hu]
theorem LOK.mkIface {d:Nat} {t:TypeId} {x:Operand} {ty:TypeId} {pos:String} {after_:Array Edge} {g:Option (Nat×Bool)} {v:Value} (hx:σ.ev x=some (.sv (.one (.val v)))) (ht:concrete P t=true):
    LOK P n ops ⟨some d,.makeInterface t x,ty,pos,after_,g⟩ σ ⟨[(d,.sv (.one (.val (.iface t v))))],[],[]⟩:=
  LOK.value fun σ' ha C ι a w hr=>by
    have hv:a.eval x=_:=hr.ev ((ha.ev (x:=x) (by simp [Op.operands])).trans hx)
    exact ⟨.iface t v,by simp [execOp,hv,run_mkIface ht],rfl⟩
theorem K.mkIface {d:Nat} {t:TypeId} {x:Operand} {ty:TypeId} {pos:String} {after_:Array Edge} {g:Option (Nat×Bool)} {v:Value} (hx:(⟨s,bx,X⟩:St).ev x=some (.sv (.one (.val v)))) (ht:concrete P t=true) (hw:Want ops s g)
    (kont:RunK P n ops os ⟨(d,.sv (.one (.val (.iface t v))))::s,bx,X⟩ (⟨[(d,.sv (.one (.val (.iface t v))))],[],[]⟩::acc) K):
    RunK P n ops (⟨some d,.makeInterface t x,ty,pos,after_,g⟩::os) ⟨s,bx,X⟩ acc K:=RunK.g1 (LOK.mkIface hx ht) hw kont
end
end Go.Lg
end
section
namespace Go.Lg
open Go Go.RowKit Go.WideShapes
def Del (m:List (Value×Value)) (key:Value) (m':List (Value×Value)):Prop:=(∃ i old,m[i]? = some (key,old)∧m'=m.eraseIdx i)∨((∀ p∈m,p.1≠key)∧m'=m)
section
variable {P:Program} {n:Nat} {ops os:List Oper} {acc:List Eff} {K:List Eff→St→Prop} {s:List (Nat×LV)} {bx:List (Nat×Option Box)} {X:Nat→Option Obj} {σ:St}
theorem LOK.actV {op:Op} {ty:TypeId} {pos:String} {after:Array Edge} {g:Option (Nat×Bool)} {ft:List Nat} {nb:List (Nat×Option Box)}
    (h:∀ σ',Agree ops ⟨none,op,ty,pos,after,g⟩ ⟨[],ft,nb⟩ σ σ'→∀ (C:Ctx) (ι:Nat→Nat×Nat) (a:Act) (w:World),Rel n C ι σ' a w →
      ∃ v w' ι',(execOp a.eval ⟨none,op,ty,pos,after,g⟩).run P w = .ok (.value v) w'∧Rel n C ι' ⟨σ'.slots,nb++σ'.boxes,σ'.X⟩ a w'):
    LOK P n ops ⟨none,op,ty,pos,after,g⟩ σ ⟨[],ft,nb⟩:=by
  refine ⟨fun σ' ha C ι a w hr _ next Q hn => ?_⟩
  obtain ⟨v,w',ι',hrun,hr'⟩:=h σ' ha C ι a w hr
  unfold Oper.wp
  rw [hrun]
  exact hn ι' _ w' hr'
end
end Go.Lg
end
section
namespace Go.Lg
open Go Go.RowKit Go.WideShapes
structure MapIn (P:Program) (kt:TypeId) (X:Nat→Option Obj) (b:Nat) (m:List (Value×Value)):Prop where
  ex:∃ es clock,X b=some (.map es clock)∧es.toList.map (fun x:MapEntry=>(x.key,x.val))=m∧(m.map (·.1)).Nodup∧∀ p∈m,∃ l,Go.keyOf P kt p.1=some l
theorem MapIn.mono {P:Program} {kt:TypeId} {X Y:Nat→Option Obj} {b:Nat} {m:List (Value×Value)} (h:MapIn P kt X b m) (hXY:∀ b o,X b=some o→Y b=some o):MapIn P kt Y b m:=by
  obtain ⟨es,clock,h1,h2⟩:=h.ex
  exact ⟨es,clock,hXY _ _ h1,h2⟩
theorem MapIn.of {P:Program} {kt:TypeId} {m:List (Value×Value)} {ρ:Nat×Nat} {H:Nat→Option Obj} (h:(mapR P kt m).holds ρ H):MapIn P kt H ρ.1 m∧H ρ.1≠none∧∀ x,H x≠none→x=ρ.1:=by
  obtain ⟨es,clock,rfl,h2⟩:=h
  refine ⟨⟨es,clock,withBlock_at _ _ _,h2⟩,by rw [withBlock_at];simp,fun x hx => ?_⟩
  unfold withBlock at hx
  split at hx
  · assumption
  · exact absurd rfl hx
section
variable {P:Program} {n:Nat} {ops os:List Oper} {acc:List Eff} {K:List Eff→St→Prop} {s:List (Nat×LV)} {bx:List (Nat×Option Box)} {X:Nat→Option Obj} {σ:St}
theorem run_lookup_at {w:World} {b:Nat} {t kt et:TypeId} {m:List (Value×Value)} {key v z:Value} {l:Lit} {r:Bool} (hm:mapOf P t=some (kt,et)) (L:KL P kt) (hkey:Go.keyOf P kt key=some l) (hz:(P.info? et).bind (·.zero)=some z) (hat:At m key v z) (hr:r=true↔∃ p∈m,p.1=key)
    (hI:MapIn P kt (fun b=>w.heap[b]?) b m):(Instr.lookup t (.map (some b)) key true).run P w = .ok (.tuple #[v,.bool r]) w:=by
  obtain ⟨es,clock,hb,he,hnd,hkeys⟩:=hI.ex
  have ht:=mapOf_spec hm
  have hzr:(zeroValue et).run P w = .ok z w:=by
    cases hi:P.info? et with
    | none=>rw [hi] at hz;cases hz
    | some i=>rw [hi] at hz;have hz:i.zero=some z:=hz;simp [zeroValue,typeInfo,hi,hz]
  have hall:∀ x∈es.toList,∃ l,Go.keyOf P kt x.key=some l:=fun x hx=>by
    refine hkeys (x.key,x.val) ?_
    rw [← he]
    exact List.mem_map.2 ⟨x,hx,rfl⟩
  rcases L.find w hkey es.toList hall with ⟨h1,h2⟩|⟨j,e0,h1,h2,h3⟩
  · have hvz:v=z:=by
      rcases hat with h4|⟨_,h4⟩
      · rw [← he] at h4
        obtain ⟨x,hx,hxe⟩:=List.mem_map.1 h4
        cases hxe
        exact absurd rfl (h2 x hx)
      · exact h4
    have hr0:r=false:=by
      cases r with
      | false=>rfl
      | true =>
        obtain ⟨p,hp,h5⟩:=hr.1 rfl
        rw [← he] at hp
        obtain ⟨x,hx,rfl⟩:=List.mem_map.1 hp
        exact absurd h5 (h2 x hx)
    simp [Instr.lookup,run_underlying ht,MapKept.run_getObj_map hb,L.check w _ hkey,h1,hzr,Result.andThen,hvz,hr0]
  · have hmem:e0∈es.toList:=List.mem_of_getElem? h2
    have hv0:e0.val=v:=by
      rcases hat with h4|⟨h4,_⟩
      · obtain ⟨i,hi⟩:=List.getElem?_of_mem h4
        have hmj:m[j]? = some (key,e0.val):=by rw [← he,List.getElem?_map,h2,← h3];rfl
        exact (same_at hnd hmj hi)
      · refine absurd h3 (h4 (e0.key,e0.val) ?_)
        rw [← he]
        exact List.mem_map.2 ⟨e0,hmem,rfl⟩
    have hr1:r=true:=by
      refine hr.2 ⟨(e0.key,e0.val),?_,h3⟩
      rw [← he]
      exact List.mem_map.2 ⟨e0,hmem,rfl⟩
    simp [Instr.lookup,run_underlying ht,MapKept.run_getObj_map hb,L.check w _ hkey,h1,Result.andThen,hv0,hr1]
theorem LOK.lookupOkX {d b:Nat} {t kt et:TypeId} {x y:Operand} {ty:TypeId} {pos:String} {after_:Array Edge} {g:Option (Nat×Bool)} {m:List (Value×Value)} {key v z:Value} {l:Lit} {r:Bool} {lv:LV}
    (hx:σ.ev x=some (.sv (.one (.val (.map (some b)))))) (hy:σ.ev y=some lv) (hlv:∀ (S:Nat→Option (Option Box)) (ι:Nat→Nat×Nat) (w:Value),lv.rel S ι w→w=key) (hI:MapIn P kt σ.X b m) (hm:mapOf P t=some (kt,et)) (L:KL P kt) (hkey:Go.keyOf P kt key=some l) (hz:(P.info? et).bind (·.zero)=some z) (hat:At m key v z) (hr:r=true↔∃ p∈m,p.1=key):
    LOK P n ops ⟨some d,.lookup t x y true,ty,pos,after_,g⟩ σ ⟨[(d,.tup [.one (.val v),.one (.val (.bool r))])],[],[]⟩:=
  LOK.value fun σ' ha C ι a w hrl=>by
    have hv:a.eval x = .map (some b):=hrl.ev ((ha.ev (x:=x) (by simp [Op.operands])).trans hx)
    have hkv:a.eval y=key:=hlv _ _ _ (hrl.ev ((ha.ev (x:=y) (by simp [Op.operands])).trans hy))
    have hI':MapIn P kt (fun b=>w.heap[b]?) b m:=hI.mono fun b o h=>hrl.ext b o (by rw [ha.X];exact h)
    have hrun:=run_lookup_at (w:=w) hm L hkey hz hat hr hI'
    exact ⟨.tuple #[v,.bool r],by simp only [execOp,hv,hkv,Sem.run_bind,hrun,Result.andThen_ok,Sem.run_pure],⟨_,rfl,rfl,rfl,trivial⟩⟩
theorem K.lookupOkX {d b:Nat} {t kt et:TypeId} {x y:Operand} {ty:TypeId} {pos:String} {after_:Array Edge} {g:Option (Nat×Bool)} {m:List (Value×Value)} {key v z:Value} {l:Lit} {r:Bool} {lv:LV}
    (hx:(⟨s,bx,X⟩:St).ev x=some (.sv (.one (.val (.map (some b)))))) (hy:(⟨s,bx,X⟩:St).ev y=some lv) (hlv:∀ (S:Nat→Option (Option Box)) (ι:Nat→Nat×Nat) (w:Value),lv.rel S ι w→w=key) (hI:MapIn P kt X b m) (hm:mapOf P t=some (kt,et)) (L:KL P kt) (hkey:Go.keyOf P kt key=some l) (hz:(P.info? et).bind (·.zero)=some z) (hat:At m key v z) (hr:r=true↔∃ p∈m,p.1=key) (hw:Want ops s g)
    (kont:RunK P n ops os ⟨(d,.tup [.one (.val v),.one (.val (.bool r))])::s,bx,X⟩ (⟨[(d,.tup [.one (.val v),.one (.val (.bool r))])],[],[]⟩::acc) K):
    RunK P n ops (⟨some d,.lookup t x y true,ty,pos,after_,g⟩::os) ⟨s,bx,X⟩ acc K:=RunK.g1 (LOK.lookupOkX hx hy hlv hI hm L hkey hz hat hr) hw kont
theorem LOK.lenMapX {d b:Nat} {t kt et:TypeId} {x:Operand} {ty:TypeId} {pos:String} {after_:Array Edge} {g:Option (Nat×Bool)} {m:List (Value×Value)} {r:Int}
    (hx:σ.ev x=some (.sv (.one (.val (.map (some b)))))) (hI:MapIn P kt σ.X b m) (hm:mapOf P t=some (kt,et)) (hr':((m.length:Nat):Int)=r):
    LOK P n ops ⟨some d,.call ⟨.builtin .len,#[x],#[t]⟩,ty,pos,after_,g⟩ σ ⟨[(d,.sv (.one (.val (.int .i64 r))))],[],[]⟩:=
  LOK.value fun σ' ha C ι a w hr=>by
    subst hr'
    have hv:a.eval x = .map (some b):=hr.ev ((ha.ev (x:=x) (by simp [Op.operands,Call.operands])).trans hx)
    obtain ⟨es,clock,hb,he,hnd,hkeys⟩:=hI.ex
    have hb:w.heap[b]? = some (.map es clock):=hr.ext b _ (by rw [ha.X];exact hb)
    have ht:=mapOf_spec hm
    have hsz:es.size=m.length:=by rw [← he,List.length_map,Array.length_toList]
    exact ⟨_,by simp [execOp,resolve,invoke,builtin,Builtin.len_,hv,run_underlying ht,MapKept.run_getObj_map hb,goInt,hsz,Result.andThen],rfl⟩
theorem K.lenMapX {d b:Nat} {t kt et:TypeId} {x:Operand} {ty:TypeId} {pos:String} {after_:Array Edge} {g:Option (Nat×Bool)} {m:List (Value×Value)} {r:Int}
    (hx:(⟨s,bx,X⟩:St).ev x=some (.sv (.one (.val (.map (some b)))))) (hI:MapIn P kt X b m) (hm:mapOf P t=some (kt,et)) (hr':((m.length:Nat):Int)=r) (hw:Want ops s g)
    (kont:RunK P n ops os ⟨(d,.sv (.one (.val (.int .i64 r))))::s,bx,X⟩ (⟨[(d,.sv (.one (.val (.int .i64 r))))],[],[]⟩::acc) K):
    RunK P n ops (⟨some d,.call ⟨.builtin .len,#[x],#[t]⟩,ty,pos,after_,g⟩::os) ⟨s,bx,X⟩ acc K:=RunK.g1 (LOK.lenMapX hx hI hm hr') hw kont
theorem run_update_at {w:World} {b:Nat} {t kt et:TypeId} {m m':List (Value×Value)} {key v:Value} {l:Lit} (hm:mapOf P t=some (kt,et)) (L:KL P kt) (hkey:Go.keyOf P kt key=some l) (hput:Put m key v m') {es:Array MapEntry} {clock:Nat}
    (hb:w.heap[b]? = some (.map es clock)) (he:es.toList.map (fun x:MapEntry=>(x.key,x.val))=m) (hnd:(m.map (·.1)).Nodup) (hkeys:∀ p∈m,∃ l,Go.keyOf P kt p.1=some l):
    ∃ es' clock',(Instr.mapUpdate t (.map (some b)) key v).run P w = .ok () { w with heap:=w.heap.setIfInBounds b (.map es' clock') }∧es'.toList.map (fun x:MapEntry=>(x.key,x.val))=m'∧(m'.map (·.1)).Nodup∧∀ p∈m',∃ l,Go.keyOf P kt p.1=some l:=by
  have ht:=mapOf_spec hm
  have hall:∀ x∈es.toList,∃ l,Go.keyOf P kt x.key=some l:=fun x hx=>by
    refine hkeys (x.key,x.val) ?_
    rw [← he]
    exact List.mem_map.2 ⟨x,hx,rfl⟩
  rcases L.find w hkey es.toList hall with ⟨h1,h2⟩|⟨j,e0,h1,h2,h3⟩
  · have hno:∀ p∈m,p.1≠key:=fun p hp=>by
      rw [← he] at hp
      obtain ⟨x,hx,rfl⟩:=List.mem_map.1 hp
      exact h2 x hx
    have hm':m'=m++[(key,v)]:=by
      rcases hput with ⟨i,old,h4,_⟩|⟨_,h4⟩
      · exact absurd rfl (hno _ (List.mem_of_getElem? h4))
      · exact h4
    refine ⟨es.push { key:=key,val:=v,born:=clock },clock+1,?_,by rw [hm',Array.toList_push,List.map_append,he];rfl,?_,?_⟩
    · simp [Instr.mapUpdate,run_underlying ht,MapKept.run_getObj_map hb,L.check w _ hkey,h1,MapKept.run_setObj_map _ hb,Result.andThen]
    · rw [hm',List.map_append]
      refine List.nodup_append.2 ⟨hnd,by simp,fun x hx y hy e => ?_⟩
      obtain ⟨p,hp,rfl⟩:=List.mem_map.1 hx
      simp at hy
      rw [hy] at e
      exact hno p hp e
    · intro p hp
      rw [hm'] at hp
      rcases List.mem_append.1 hp with hp|hp
      · exact hkeys p hp
      · simp at hp;subst hp;exact ⟨l,hkey⟩
  · have hj:es[j]? = some e0:=by simpa using h2
    have hmj:m[j]? = some (key,e0.val):=by rw [← he,List.getElem?_map,h2,← h3];rfl
    have hm':m'=m.set j (key,v):=by
      rcases hput with ⟨i,old,h4,h5⟩|⟨h4,_⟩
      · have hij:i=j:=same_ix hnd h4 hmj
        rw [h5,hij]
      · exact absurd rfl (h4 _ (List.mem_of_getElem? hmj))
    refine ⟨es.modify j fun x=>{ x with key:=key,val:=v },clock,?_,?_,?_,?_⟩
    · have hst:=L.stays w hkey
      have hks:((es[j]?).map (·.key)).getD key=key:=by rw [hj];exact h3
      simp [Instr.mapUpdate,run_underlying ht,MapKept.run_getObj_map hb,L.check w _ hkey,h1,hj,h3,hst,MapKept.run_setObj_map _ hb,Result.andThen]
    · rw [hm',← he]
      apply List.ext_getElem?
      intro i
      rw [List.getElem?_map,Array.getElem?_toList,Array.getElem?_modify,List.getElem?_set,List.getElem?_map,Array.getElem?_toList]
      by_cases hij:j=i
      · subst hij
        simp [hj]
        have:=(Array.getElem?_eq_some_iff.1 hj).1
        omega
      · simp [hij]
    · rw [hm',List.map_set]
      have:(m.map (·.1)).set j key=m.map (·.1):=by
        apply List.ext_getElem?
        intro i
        rw [List.getElem?_set]
        by_cases hij:j=i
        · subst hij
          rw [if_pos rfl,List.getElem?_map,hmj]
          have:=(List.getElem?_eq_some_iff.1 hmj).1
          simp [this]
        · rw [if_neg hij]
      rw [this];exact hnd
    · intro p hp
      rw [hm'] at hp
      rcases List.mem_or_eq_of_mem_set hp with hp|rfl
      · exact hkeys p hp
      · exact ⟨l,hkey⟩
theorem LOK.mapUpdateAt {k b:Nat} {t kt et:TypeId} {x y u:Operand} {ty:TypeId} {pos:String} {after_:Array Edge} {g:Option (Nat×Bool)} {m m':List (Value×Value)} {e:TypeId} {cs:List CV} {key v:Value} {l:Lit} {lk lv:LV}
    (hx:σ.ev x=some (.sv (.one (.val (.map (some b)))))) (hy:σ.ev y=some lk) (hlk:∀ (S:Nat→Option (Option Box)) (ι:Nat→Nat×Nat) (w:Value),lk.rel S ι w→w=key) (hu:σ.ev u=some lv) (hlv:∀ (S:Nat→Option (Option Box)) (ι:Nat→Nat×Nat) (w:Value),lv.rel S ι w→w=v) (hk:σ.stat k=some (some ⟨e,cs,.res (atR b (mapR P kt m))⟩)) (hm:mapOf P t=some (kt,et)) (L:KL P kt) (hkey:Go.keyOf P kt key=some l) (hput:Put m key v m'):
    LOK P n ops ⟨none,.mapUpdate t x y u,ty,pos,after_,g⟩ σ ⟨[],[],[(k,some ⟨0,[],.res (atR b (mapR P kt m'))⟩)]⟩:=
  LOK.act fun σ' ha C ι a w hr=>by
    have hk':=(ha.stat k (.inr (by simp))).trans hk
    have hv:a.eval x = .map (some b):=hr.ev ((ha.ev (x:=x) (by simp [Op.operands])).trans hx)
    have hkv:a.eval y=key:=hlk _ _ _ (hr.ev ((ha.ev (x:=y) (by simp [Op.operands])).trans hy))
    have huv:a.eval u=v:=hlv _ _ _ (hr.ev ((ha.ev (x:=u) (by simp [Op.operands])).trans hu))
    obtain ⟨H,⟨hkb,es,clock,hHe,he,hnd,hkeys⟩,hH,_,hstep⟩:=hr.resStep hk'
    have hb:=hH (ι k).1 (.map es clock) (by rw [hHe];exact withBlock_at _ _ _)
    have hset:=fun (o':Obj)=>MapKept.heap_set (o':=o') hb
    obtain ⟨es',clock',hrun,he',hnd',hkeys'⟩:=run_update_at hm L hkey hput hb he hnd hkeys
    rw [hkb] at hrun
    rw [hkb] at hset
    refine ⟨{ w with heap:=w.heap.setIfInBounds b (.map es' clock') },ι,by simp only [execOp,hv,hkv,huv,Sem.run_bind,hrun,Result.andThen_ok,Sem.run_pure],?_⟩
    refine hstep _ (withBlock (fun _=>none) (ι k).1 (.map es' clock')) _ (fun c hb2 _ => ?_) (fun c o ho => ?_) (fun c h => ?_) (by rw [withBlock_at];simp) ⟨hkb,es',clock',rfl,he',hnd',hkeys'⟩ (by simp) rfl rfl rfl
    · refine (hset _).2 c fun e => ?_
      rw [hHe,e,hkb,withBlock_at] at hb2
      cases hb2
    · unfold withBlock at ho
      split at ho
      · rename_i e;cases ho;rw [hkb] at e;subst e
        exact ⟨(hset _).1,trivial⟩
      · cases ho
    · rw [hHe]
      unfold withBlock at h ⊢
      split
      · simp
      · rename_i hne;rw [if_neg hne] at h;exact h
theorem K.mapUpdateAt {k b:Nat} {t kt et:TypeId} {x y u:Operand} {ty:TypeId} {pos:String} {after_:Array Edge} {g:Option (Nat×Bool)} {m:List (Value×Value)} (m':List (Value×Value)) {e:TypeId} {cs:List CV} {key v:Value} {l:Lit} {lk lv:LV}
    (hx:(⟨s,bx,X⟩:St).ev x=some (.sv (.one (.val (.map (some b)))))) (hy:(⟨s,bx,X⟩:St).ev y=some lk) (hlk:∀ (S:Nat→Option (Option Box)) (ι:Nat→Nat×Nat) (w:Value),lk.rel S ι w→w=key) (hu:(⟨s,bx,X⟩:St).ev u=some lv) (hlv:∀ (S:Nat→Option (Option Box)) (ι:Nat→Nat×Nat) (w:Value),lv.rel S ι w→w=v) (hk:(⟨s,bx,X⟩:St).stat k=some (some ⟨e,cs,.res (atR b (mapR P kt m))⟩)) (hm:mapOf P t=some (kt,et)) (L:KL P kt) (hkey:Go.keyOf P kt key=some l) (hput:Put m key v m') (hw:Want ops s g)
    (kont:RunK P n ops os ⟨s,(k,some ⟨0,[],.res (atR b (mapR P kt m'))⟩)::bx,X⟩ (⟨[],[],[(k,some ⟨0,[],.res (atR b (mapR P kt m'))⟩)]⟩::acc) K):
    RunK P n ops (⟨none,.mapUpdate t x y u,ty,pos,after_,g⟩::os) ⟨s,bx,X⟩ acc K:=RunK.g3 (LOK.mapUpdateAt hx hy hlk hu hlv hk hm L hkey hput) hw kont
theorem agg_key {us:List Value} (S:Nat→Option (Option Box)) (ι:Nat→Nat×Nat) (w:Value) (h:LV.rel S ι (.sv (.agg (us.map .val))) w):w = .agg us.toArray:=by
  obtain ⟨arr,rfl,h⟩:=h
  rw [← rel_vals h]
theorem one_key {u:Value} (S:Nat→Option (Option Box)) (ι:Nat→Nat×Nat) (w:Value) (h:LV.rel S ι (.sv (.one (.val u))) w):w=u:=h
end
theorem Refs.append {H K:Nat→Option Obj} {ps qs:List Nat} {Rs Ss:List Rsc} (h:Refs H ps Rs) (h2:Refs K qs Ss) (hd:∀ x,K x≠none→H x=none):Refs (joinM H K) (ps++qs) (Rs++Ss):=by
  obtain ⟨l1,F,a1,a2,a3⟩:=h
  obtain ⟨l2,G,b1,b2,b3⟩:=h2
  have far:∀ i j x,F i x≠none→G j x≠none→False:=fun i j x hi hj=>by
    cases hf:F i x with
    | none=>exact hi hf
    | some o =>
      cases hg:G j x with
      | none=>exact hj hg
      | some o'=>have:=hd x (by rw [b1 j x o' hg];simp);rw [a1 i x o hf] at this;cases this
  refine ⟨by rw [List.length_append,List.length_append,l1,l2],fun i=>if i<Rs.length then F i else G (i-Rs.length),fun i x o hx => ?_,fun i j x hi hj => ?_,fun i c S hS hc => ?_⟩
  · replace hx:(if i<Rs.length then F i else G (i-Rs.length)) x=some o:=hx
    split at hx
    · have h4:=a1 i x o hx
      cases hk:K x with
      | none=>rw [joinM_out hk];exact h4
      | some o'=>have:=hd x (by rw [hk];simp);rw [h4] at this;cases this
    · exact joinM_in (b1 _ x o hx)
  · replace hi:(if i<Rs.length then F i else G (i-Rs.length)) x≠none:=hi
    replace hj:(if j<Rs.length then F j else G (j-Rs.length)) x≠none:=hj
    split at hi
    · split at hj
      · exact a2 i j x hi hj
      · exact (far _ _ x hi hj).elim
    · split at hj
      · exact (far _ _ x hj hi).elim
      · have:=b2 _ _ x hi hj
        omega
  · show (∃ m,S.holds (c,m) (if i<Rs.length then F i else G (i-Rs.length)))∧(if i<Rs.length then F i else G (i-Rs.length)) c≠none
    by_cases e:i<Rs.length
    · rw [if_pos e]
      rw [List.getElem?_append_left e] at hS
      rw [List.getElem?_append_left (by omega)] at hc
      exact a3 i c S hS hc
    · rw [if_neg e]
      rw [List.getElem?_append_right (by omega)] at hS
      rw [List.getElem?_append_right (by omega)] at hc
      rw [l1] at hc
      exact b3 _ c S hS hc
section
variable {n:Nat} {C:Ctx} {s:List (Nat×LV)} {bx:List (Nat×Option Box)} {X:Nat→Option Obj} {k:Nat}
theorem Rel.dead {ι:Nat→Nat×Nat} {a:Act} {w:World} (hk:look k bx=none) (hr:Rel n C ι ⟨s,bx,X⟩ a w):Rel n C ι ⟨s,(k,none)::bx,X⟩ a w:=by
  have live:∀ i b,(⟨s,(k,none)::bx,X⟩:St).stat i=some (some b)→(⟨s,bx,X⟩:St).stat i=some (some b):=fun i b hi=>by
    rw [stat_cons] at hi
    by_cases e:i=k
    · rw [if_pos e] at hi;cases hi
    · rw [if_neg e] at hi;exact hi
  have hlater:Later (⟨s,bx,X⟩:St).stat (⟨s,(k,none)::bx,X⟩:St).stat ι ι:=fun i hi=>by
    refine ⟨?_,fun b hb=>⟨rfl,b,live i b hb⟩⟩
    rw [stat_cons]
    by_cases e:i=k
    · rw [if_pos e];simp
    · rw [if_neg e];exact hi
  exact {
    defers:=hr.defers,size:=hr.size
    slots:=fun d lv hd=>by
      obtain ⟨v,hv,hvr⟩:=hr.slots d lv hd
      exact ⟨v,hv,LV.rel_later hlater hvr⟩
    boxes:=fun i b hi hbk=>by
      obtain ⟨arr,fr,g1,g2,g3,g4⟩:=hr.boxes i b (live i b hi) hbk
      exact ⟨arr,fr,g1,g2,g3,Box.rel_later hlater g4⟩
    own:=fun i b hi=>hr.own i b (live i b hi)
    inj:=fun i j bi bj hi hj he=>hr.inj i j bi bj (live i bi hi) (live j bj hj) he
    keep:=fun i b hi hge=>hr.keep i b (live i b hi) hge
    ext:=hr.ext
    res:=by
      obtain ⟨F,hG⟩:=hr.res
      refine ⟨F,fun i e cs R hi=>hG.holds i e cs R (live i _ hi),fun i b o ho => ?_,hG.apart⟩
      obtain ⟨⟨e,cs,R,h1⟩,h2,h3,h4,h5,h6⟩:=hG.mem i b o ho
      refine ⟨⟨e,cs,R,?_⟩,h2,h3,h4,h5,fun j bj hj ej=>h6 j bj (live j bj hj) ej⟩
      rw [stat_cons]
      have h1:look i bx=some (some ⟨e,cs,.res R⟩):=h1
      rw [if_neg (fun e'=>by rw [e',hk] at h1;cases h1)]
      exact h1
    frame:=hr.frame,big:=hr.big,os:=hr.os,tape:=hr.tape,output:=hr.output }
theorem Leads.dead {Mid:St→Prop} (hk:look k bx=none) (h:Leads n C Mid ⟨s,(k,none)::bx,X⟩):Leads n C Mid ⟨s,bx,X⟩:=⟨fun ι a w hr=>h.out ι a w (hr.dead hk)⟩
end
def exitQ (n:Nat) (C:Ctx) (Mid:St→Prop):Exit→St→Prop:=fun e σ=>match e with
  | .normal | .ret=>Leads n C Mid σ
  | _=>False
section
variable {P:Program} {n:Nat} {C:Ctx} {c:Code} {Q:Exit→St→Prop} {s:List (Nat×LV)} {bx:List (Nat×Option Box)} {X:Nat→Option Obj}
theorem LWP.exits {Mid:St→Prop} (h:LWP P n C c (exitQ n C Mid) ⟨s,bx,X⟩) (hn:∀ σ,Mid σ→Q .normal σ) (hr:∀ σ,Mid σ→Q .ret σ):LWP P n C c Q ⟨s,bx,X⟩:=by
  refine LWP.ends (h.mono fun e σ hq => ?_)
  cases e<;>first|exact hq.elim|skip
  · exact ⟨fun ι a w hr'=>let ⟨ι',σ',h1,h2⟩:=Leads.out hq ι a w hr';⟨ι',σ',hn _ h1,h2⟩⟩
  · exact ⟨fun ι a w hr'=>let ⟨ι',σ',h1,h2⟩:=Leads.out hq ι a w hr';⟨ι',σ',hr _ h1,h2⟩⟩
theorem LWP.toNil (h:LWP P n C c Q ⟨s,bx,joinM X (fun _=>none)⟩):LWP P n C c Q ⟨s,bx,X⟩:=by
  rw [joinM_nil] at h
  exact h
theorem LWP.ofBody {fn:Func} {c c':Code} {σ:St} (hb:fn.body=some c') (hc:fn.body=some c) (h:LWP P n C c' Q σ):LWP P n C c Q σ:=by
  rw [hb] at hc
  cases hc
  exact h
end
end Go.Lg
end
section
namespace Go.Lg
open Go Go.RowKit Go.WideShapes
abbrev ifcM (t:TypeId) (k:Nat):CV:=.hang (fun b=>.iface t (.map (some b))) (fun _=>rfl) k
theorem run_clone_map {P:Program} {w:World} {r:Nat} {es:Array MapEntry} {clock:Nat} (t:TypeId) (hb:w.heap[r]? = some (.map es clock)):
    (Extern.MapsClone.clone #[.iface t (.map (some r))]).run P w = .ok (.iface t (.map (some w.heap.size))) (w.alloc (.map es clock)):=by
  show ((getObj r >>= fun o=>match o with
      | .map entries clock=>(newObj (.map entries clock) >>= fun n=>pure (.iface t (.map (some n))))
      | _ => stuck "maps.clone: a map expected") : Sem Value).run P w = _
  simp [MapKept.run_getObj_map hb,Result.andThen,go_sem]
theorem run_map_nil {P:Program} {w:World} {t k e:TypeId} {b:Nat} (h:P.underlying t=some (.map k e)):(binOp .eql t (.map (some b)) (.map none)).run P w = .ok (.bool false) w:=by
  have h0:∀ d,(Op.equalIn (d+1) t (.map (some b)) (.map none)).run P w = .ok false w:=fun d=>by simp [Op.equalIn,run_underlying h]
  have h1:(Op.equal t (.map (some b)) (.map none)).run P w = .ok false w:=h0 9999
  simp only [binOp]
  simp [h1]
section
variable {P:Program} {n:Nat} {ops os:List Oper} {acc:List Eff} {K:List Eff→St→Prop} {s:List (Nat×LV)} {bx:List (Nat×Option Box)} {X:Nat→Option Obj} {σ:St}
theorem LOK.mapNilX {d:Nat} {t kt et t':TypeId} {x:Operand} {ty:TypeId} {pos:String} {after_:Array Edge} {g:Option (Nat×Bool)} {b:Nat} (hx:σ.ev x=some (.sv (.one (.val (.map (some b)))))) (hm:mapOf P t=some (kt,et)):
    LOK P n ops ⟨some d,.binOp .eql t x (.const (.map none)) t',ty,pos,after_,g⟩ σ ⟨[(d,.sv (.one (.val (.bool false))))],[],[]⟩:=
  LOK.value fun σ' ha C ι a w hr=>by
    have hv:a.eval x = .map (some b):=hr.ev ((ha.ev (x:=x) (by simp [Op.operands])).trans hx)
    have hc:a.eval (.const (.map none)) = .map none:=rfl
    exact ⟨_,by simp only [execOp,hv,hc,eqGuard,Sem.run_bind];simp [run_map_nil (mapOf_spec hm)],rfl⟩
theorem K.mapNilX {d:Nat} {t kt et t':TypeId} {x:Operand} {ty:TypeId} {pos:String} {after_:Array Edge} {g:Option (Nat×Bool)} {b:Nat} (hx:(⟨s,bx,X⟩:St).ev x=some (.sv (.one (.val (.map (some b)))))) (hm:mapOf P t=some (kt,et)) (hw:Want ops s g)
    (kont:RunK P n ops os ⟨(d,.sv (.one (.val (.bool false))))::s,bx,X⟩ (⟨[(d,.sv (.one (.val (.bool false))))],[],[]⟩::acc) K):
    RunK P n ops (⟨some d,.binOp .eql t x (.const (.map none)) t',ty,pos,after_,g⟩::os) ⟨s,bx,X⟩ acc K:=RunK.g1 (LOK.mapNilX hx hm) hw kont
def isClone (P : Program) (f : FuncId) : Prop := ∃ fn, P.funcs[f]? = some fn ∧ (fn.name == "runtime.NumGoroutine") = false ∧ fn.body.isNone = true ∧ Extern.findNext fn = none ∧ Extern.find fn = some Extern.MapsClone.clone
theorem LOK.cloneMap {d b:Nat} {t kt:TypeId} {f:FuncId} {x:Operand} {tys:Array TypeId} {ty:TypeId} {pos:String} {after_:Array Edge} {g:Option (Nat×Bool)} {m:List (Value×Value)}
    (hx:σ.ev x=some (.sv (.one (.val (.iface t (.map (some b))))))) (hI:MapIn P kt σ.X b m) (hf:isClone P f) (hk:σ.fresh d=true):
    LOK P n ops ⟨some d,.call ⟨.value (.func f),#[x],tys⟩,ty,pos,after_,g⟩ σ ⟨[(d,.sv (.one (ifcM t d)))],[],[(d,some ⟨0,[],.res (mapR P kt m)⟩)]⟩:=
  LOK.make fun σ' ha C ι a w hr=>by
    have hk':σ'.stat d=none:=(ha.stat d (.inr (by simp))).trans (St.fresh_none hk)
    have hlt:=St.fresh_lt hk
    have hv:a.eval x = .iface t (.map (some b)):=hr.ev ((ha.ev (x:=x) (by simp [Op.operands,Call.operands])).trans hx)
    obtain ⟨es,clock,hb,he,hnd,hkeys⟩:=hI.ex
    have hb:w.heap[b]? = some (.map es clock):=hr.ext b _ (by rw [ha.X];exact hb)
    obtain ⟨fn,h1,h2,h3,h4,h5⟩:=hf
    have hrun:=run_callFunc_extern h1 h2 h3 h4 h5 #[.iface t (.map (some b))] w
    rw [run_clone_map t hb] at hrun
    refine ⟨.iface t (.map (some w.heap.size)),w.alloc (.map es clock),put1 ι d (w.heap.size,0),?_,?_,?_⟩
    · have hfe:a.eval (.func f) = .func (.func f) #[] #[]:=rfl
      simp only [execOp,resolve,hfe,Deferred.ofValue,invoke,Sem.run_bind,Sem.run_pure,Result.andThen_ok]
      simp [hv,hrun,Result.andThen]
    · exact hr.resNew hlt hk' trivial fun b=>⟨es,clock,rfl,he,hnd,hkeys⟩
    · simp [LV.rel,SV.rel,CV.rel,stat_cons,put1]
theorem K.cloneMap {d b:Nat} {t:TypeId} (kt:TypeId) {f:FuncId} {x:Operand} {tys:Array TypeId} {ty:TypeId} {pos:String} {after_:Array Edge} {g:Option (Nat×Bool)} {m:List (Value×Value)}
    (hx:(⟨s,bx,X⟩:St).ev x=some (.sv (.one (.val (.iface t (.map (some b))))))) (hI:MapIn P kt X b m) (hf:isClone P f) (hk:(⟨s,bx,X⟩:St).fresh d=true) (hw:Want ops s g)
    (kont:RunK P n ops os ⟨(d,.sv (.one (ifcM t d)))::s,(d,some ⟨0,[],.res (mapR P kt m)⟩)::bx,X⟩ (⟨[(d,.sv (.one (ifcM t d)))],[],[(d,some ⟨0,[],.res (mapR P kt m)⟩)]⟩::acc) K):
    RunK P n ops (⟨some d,.call ⟨.value (.func f),#[x],tys⟩,ty,pos,after_,g⟩::os) ⟨s,bx,X⟩ acc K:=RunK.g2 (LOK.cloneMap hx hI hf hk) hw kont
theorem LOK.assertM {d k:Nat} {t xt:TypeId} {x:Operand} {ty:TypeId} {pos:String} {after_:Array Edge} {g:Option (Nat×Bool)} {B:Box} (hx:σ.ev x=some (.sv (.one (ifcM t k)))) (hk:σ.stat k=some (some B)) (ht:concrete P t=true):
    LOK P n ops ⟨some d,.typeAssert x xt t false,ty,pos,after_,g⟩ σ ⟨[(d,.sv (.one (.mp k)))],[k],[]⟩:=
  LOK.value fun σ' ha C ι a w hr=>by
    have hk':=(ha.stat k (.inl (by simp))).trans hk
    have hv:=hr.ev ((ha.ev (x:=x) (by simp [Op.operands])).trans hx)
    simp only [LV.rel,SV.rel,CV.rel,hk'] at hv
    refine ⟨.map (some (ι k).1),?_,by simp only [LV.rel,SV.rel,CV.rel,hk']⟩
    unfold concrete at ht
    cases hu:P.underlying t with
    | none=>rw [hu] at ht;cases ht
    | some u =>
      rw [hu] at ht
      cases u<;>first|cases (show false=true from ht)|simp [execOp,hv,Instr.typeAssert,Sem.run_bind,run_underlying hu]
theorem K.assertM {d k:Nat} {t xt:TypeId} {x:Operand} {ty:TypeId} {pos:String} {after_:Array Edge} {g:Option (Nat×Bool)} {B:Box} (hx:(⟨s,bx,X⟩:St).ev x=some (.sv (.one (ifcM t k)))) (hk:(⟨s,bx,X⟩:St).stat k=some (some B)) (ht:concrete P t=true) (hw:Want ops s g)
    (kont:RunK P n ops os ⟨(d,.sv (.one (.mp k)))::s,bx,X⟩ (⟨[(d,.sv (.one (.mp k)))],[k],[]⟩::acc) K):
    RunK P n ops (⟨some d,.typeAssert x xt t false,ty,pos,after_,g⟩::os) ⟨s,bx,X⟩ acc K:=RunK.g1 (LOK.assertM hx hk ht) hw kont
end
section
variable {n:Nat} {C:Ctx} {s:List (Nat×LV)} {bx:List (Nat×Option Box)} {X:Nat→Option Obj} {d k b:Nat} {e:TypeId} {cs:List CV} {R:Rsc}
theorem Rel.named {ι:Nat→Nat×Nat} {a:Act} {w:World} (hs:s.all (fun p=>p.2.inUse ((k,some ⟨0,[],.res R⟩)::bx))=true) (hr:Rel n C ι ⟨(d,.sv (.one (.val (.pointer (some ⟨b,0,none⟩)))))::s,(k,some ⟨e,cs,.res (atR b R)⟩)::bx,X⟩ a w):
    Rel n C ι ⟨(d,.sv (.one (.ptr k 0)))::s,(k,some ⟨0,[],.res R⟩)::bx,X⟩ a w:=by
  have _:=hs
  have hk0:(⟨(d,.sv (.one (.val (.pointer (some ⟨b,0,none⟩)))))::s,(k,some ⟨e,cs,.res (atR b R)⟩)::bx,X⟩:St).stat k=some (some ⟨e,cs,.res (atR b R)⟩):=by rw [stat_hd,if_pos rfl]
  have live:∀ i B,(⟨(d,.sv (.one (.ptr k 0)))::s,(k,some ⟨0,[],.res R⟩)::bx,X⟩:St).stat i=some (some B)→∃ B0,(⟨(d,.sv (.one (.val (.pointer (some ⟨b,0,none⟩)))))::s,(k,some ⟨e,cs,.res (atR b R)⟩)::bx,X⟩:St).stat i=some (some B0)∧(i≠k→B=B0):=fun i B hi=>by
    rw [stat_hd] at hi ⊢
    by_cases e:i=k
    · rw [if_pos e];exact ⟨_,rfl,fun h=>absurd e h⟩
    · rw [if_neg e] at hi ⊢;exact ⟨B,hi,fun _=>rfl⟩
  have hlater:Later (⟨(d,.sv (.one (.val (.pointer (some ⟨b,0,none⟩)))))::s,(k,some ⟨e,cs,.res (atR b R)⟩)::bx,X⟩:St).stat (⟨(d,.sv (.one (.ptr k 0)))::s,(k,some ⟨0,[],.res R⟩)::bx,X⟩:St).stat ι ι:=fun i hi=>by
    refine ⟨?_,fun B hB=>⟨rfl,(live i B hB).elim fun B0 h=>⟨B0,h.1⟩⟩⟩
    rw [stat_hd] at hi ⊢
    by_cases e:i=k
    · rw [if_pos e];simp
    · rw [if_neg e] at hi ⊢;exact hi
  obtain ⟨F,hG⟩:=hr.res
  obtain ⟨⟨hb,hR⟩,hroot⟩:=hG.holds k _ _ _ hk0
  exact {
    defers:=hr.defers,size:=hr.size
    slots:=fun d' lv hd=>by
      simp only [St.slot,look] at hd
      cases e2:Nat.beq d d' with
      | true =>
        rw [e2] at hd
        simp at hd
        subst hd
        have:=Nat.eq_of_beq_eq_true e2
        subst this
        obtain ⟨v,hv,hvr⟩:=hr.slots d (.sv (.one (.val (.pointer (some ⟨b,0,none⟩))))) (by simp [St.slot,look])
        refine ⟨v,hv,?_⟩
        have hvr:v = .pointer (some ⟨b,0,none⟩):=hvr
        simp only [LV.rel,SV.rel,CV.rel]
        rw [stat_hd,if_pos rfl]
        simp only
        rw [hvr,hb]
      | false =>
        rw [e2] at hd
        have hd:look d' s=some lv:=by simpa using hd
        obtain ⟨v,hv,hvr⟩:=hr.slots d' lv (by simp only [St.slot,look,e2];exact hd)
        exact ⟨v,hv,LV.rel_later hlater hvr⟩
    boxes:=fun i B hi hbk=>by
      obtain ⟨B0,h0,h1⟩:=live i B hi
      by_cases ei:i=k
      · rw [stat_hd,if_pos ei] at hi
        simp only [Option.some.injEq] at hi
        subst hi;cases hbk
      · have:=h1 ei
        subst this
        obtain ⟨arr,fr,g1,g2,g3,g4⟩:=hr.boxes i B h0 hbk
        exact ⟨arr,fr,g1,g2,g3,Box.rel_later hlater g4⟩
    own:=fun i B hi=>by obtain ⟨B0,h0,_⟩:=live i B hi;exact hr.own i B0 h0
    inj:=fun i j bi bj hi hj he=>by
      obtain ⟨b1,h1,_⟩:=live i bi hi
      obtain ⟨b2,h2,_⟩:=live j bj hj
      exact hr.inj i j b1 b2 h1 h2 he
    keep:=fun i B hi hge=>by obtain ⟨B0,h0,_⟩:=live i B hi;exact hr.keep i B0 h0 hge
    ext:=hr.ext
    res:=by
      refine ⟨F,fun i e' cs' R' hi => ?_,fun i x o ho => ?_,hG.apart⟩
      · rw [stat_hd] at hi
        by_cases ei:i=k
        · rw [if_pos ei] at hi
          simp only [Option.some.injEq,Box.mk.injEq,Row.res.injEq] at hi
          obtain ⟨_,_,rfl⟩:=hi
          rw [ei];exact ⟨hR,hroot⟩
        · rw [if_neg ei] at hi
          exact hG.holds i e' cs' R' (by rw [stat_hd,if_neg ei];exact hi)
      · obtain ⟨⟨e1,cs1,R1,h1⟩,h2,h3,h4,h5,h6⟩:=hG.mem i x o ho
        refine ⟨?_,h2,h3,h4,h5,fun j bj hj ej => ?_⟩
        · by_cases ei:i=k
          · exact ⟨0,[],R,by rw [stat_hd,if_pos ei]⟩
          · exact ⟨e1,cs1,R1,by rw [stat_hd,if_neg ei];rw [stat_hd,if_neg ei] at h1;exact h1⟩
        · obtain ⟨B0,h0,_⟩:=live j bj hj
          exact h6 j B0 h0 ej
    frame:=hr.frame,big:=hr.big,os:=hr.os,tape:=hr.tape,output:=hr.output }
theorem Leads.named {Mid:St→Prop} (hs:s.all (fun p=>p.2.inUse ((k,some ⟨0,[],.res R⟩)::bx))=true) (h:Leads n C Mid ⟨(d,.sv (.one (.ptr k 0)))::s,(k,some ⟨0,[],.res R⟩)::bx,X⟩):
    Leads n C Mid ⟨(d,.sv (.one (.val (.pointer (some ⟨b,0,none⟩)))))::s,(k,some ⟨e,cs,.res (atR b R)⟩)::bx,X⟩:=⟨fun ι a w hr=>h.out ι a w (hr.named hs)⟩
theorem Leads.takeRes {Mid:St→Prop} {m:Nat} {H Hc:Nat→Option Obj} (hO:OwnedM C X H) (hsub:∀ x o,Hc x=some o→H x=some o) (hR:R.holds (b,m) Hc) (hroot:Hc b≠none)
    (hs:s.all (fun p=>p.2.inUse bx)=true) (hb:bx.all (fun p=>match p.2 with|some b=>b.cells.all (CV.inUse bx)|none=>true)=true) (hk:look k bx=none) (hlt:k<1000000)
    (h:Leads n C Mid ⟨s,(k,some ⟨0,[],.res (atR b R)⟩)::bx,joinM X (minusM H Hc)⟩):Leads n C Mid ⟨s,bx,joinM X H⟩:=
  ⟨fun ι a w hr=>h.out _ a w (hr.takeRes hO hsub hR hroot hs hb hk hlt)⟩
end
end Go.Lg
end
