/- A piece of a proof over this program: contracts of its functions, and a logic to prove them by. -/
import Derived.Test.YtopiioklkkiedaaGreatDoorW7a
section
set_option maxHeartbeats 12800000
set_option maxRecDepth 100000
namespace Go.Proofs.YtopiioklkkiedaaGreatDoor
open Go Go.Lg Go.Lg.Fml Go.Lg.Fld Go.Lg.Arith
set_option maxRecDepth 100000
def rwZ:List Rl→List Value→List Value
 | r::rs,v::vs=>.int .i64 r.nw :: .int .i64 r.old::v::rwZ rs vs
 | _,_=>[]
theorem rwZ_len:∀ {rs:List Rl} {ws:List Value},ws.length=rs.length→(rwZ rs ws).length=rs.length*3
 | [],[],_=>rfl
 | c::cs,v::vs,h=>by
  simp only [rwZ,dJ] at h ⊢
  rw [rwZ_len (rs:=cs) (ws:=vs) (by omega)];omega
 | [],_::_,h=>by simp at h
 | _::_,[],h=>by simp at h
theorem rwZ_add:∀ {rs:List Rl} {ws:List Value} {r:Rl} {v:Value},ws.length=rs.length→rwZ (rs++[r]) (ws++[v])=rwZ rs ws++[.int .i64 r.nw,.int .i64 r.old,v]
 | [],[],_,_,_=>rfl
 | c::cs,w::ws,r,v,h=>by
  simp only [dJ] at h
  simp only [List.cons_append,rwZ]
  rw [rwZ_add (rs:=cs) (ws:=ws) (by omega)]
 | [],_::_,_,_,h=>by simp at h
 | _::_,[],_,_,h=>by simp at h
theorem rwZ_at:∀ {i:Nat} {rs:List Rl} {ws sp:List Value} {r:Rl} {w:Value},rs[i]? = some r→ws[i]? = some w→((rwZ rs ws++sp).drop (i*3)).take 3=[.int .i64 r.nw,.int .i64 r.old,w]
 | 0,c::cs,v::vs,sp,r,w,h1,h2=>by
  simp only [List.getElem?_cons_zero,Option.some.injEq] at h1 h2
  subst h1 h2
  rfl
 | i+1,c::cs,v::vs,sp,r,w,h1,h2=>by
  simp only [List.getElem?_cons_succ] at h1 h2
  have:=rwZ_at (sp:=sp) h1 h2
  rw [show (i+1)*3=i*3+3 by omega]
  exact this
 | _,[],_,_,_,_,h,_=>by simp at h
 | _,_::_,[],_,_,_,_,h=>by simp at h
theorem snoc_get {α:Type} {l:List α} {a x:α} {i:Nat} (h:(l++[a])[i]? = some x):(i<l.length∧l[i]? = some x)∨(i=l.length∧x=a):=by
 by_cases e:i<l.length
 ·rw [dR e] at h;exact .inl ⟨e,h⟩
 ·have h1:=(wl h)
  rw [cW] at h1
  simp only [cZ] at h1
  have e2:i=l.length:=by omega
  subst e2
  rw [List.getElem?_append_right (dO _),Nat.sub_self] at h
  simp only [List.getElem?_cons_zero,Option.some.injEq] at h
  exact .inr ⟨O,h.symm⟩
structure FormsH (H:Nat→Option Obj) (vs:List Value) (cs:List (List Ins)):Prop where
 len:vs.length=cs.length
 at_:∀ (i:Nat) (v:Value) (c:List Ins),vs[i]? = some v→cs[i]? = some c→∃ (vad:Option Addr) (vcap:Nat),v = .slice vad c.length vcap∧InsIn H vad c
theorem FormsH.nil {H:Nat→Option Obj}:FormsH H [] []:=⟨rfl,fun i v c h=>by simp at h⟩
theorem FormsH.mono {H H':Nat→Option Obj} (hH:∀ b o,H b=some o→H' b=some o) {vs:List Value} {cs:List (List Ins)} (G:FormsH H vs cs):FormsH H' vs cs:=⟨G.len,fun i v c hv hc=>by
 obtain ⟨vad,vcap,h1,h2⟩:=G.at_ i v c hv hc
 exact ⟨vad,vcap,h1,h2.mono hH⟩⟩
theorem FormsH.push {H:Nat→Option Obj} {vs:List Value} {cs:List (List Ins)} (G:FormsH H vs cs) {v:Value} {c:List Ins} (hv:∃ (vad:Option Addr) (vcap:Nat),v = .slice vad c.length vcap∧InsIn H vad c):FormsH H (vs++[v]) (cs++[c]):=⟨by rw [cW,cW,G.len];rfl,fun i w d hw hd=>by
 have hl:=G.len
 rcases snoc_get hw with ⟨h1,h2⟩|⟨h1,rfl⟩
 ·rcases snoc_get hd with ⟨h3,h4⟩|⟨h3,_⟩
  ·exact G.at_ i w d h2 h4
  ·omega
 ·rcases snoc_get hd with ⟨h3,_⟩|⟨_,rfl⟩
  ·omega
  ·exact hv⟩
structure RulesH (H:Nat→Option Obj) (ws:List Value) (rs:List Rl):Prop where
 len:ws.length=rs.length
 at_:∀ (i:Nat) (w:Value) (r:Rl),ws[i]? = some w→rs[i]? = some r→∃ (ead:Option Addr) (ecap:Nat),w = .slice ead r.ex.length ecap∧CodesIn H ead r.ex
theorem RulesH.nil {H:Nat→Option Obj}:RulesH H [] []:=⟨rfl,fun i v c h=>by simp at h⟩
theorem RulesH.mono {H H':Nat→Option Obj} (hH:∀ b o,H b=some o→H' b=some o) {vs:List Value} {cs:List Rl} (G:RulesH H vs cs):RulesH H' vs cs:=⟨G.len,fun i v c hv hc=>by
 obtain ⟨vad,vcap,h1,h2⟩:=G.at_ i v c hv hc
 exact ⟨vad,vcap,h1,h2.mono hH⟩⟩
theorem RulesH.push {H:Nat→Option Obj} {vs:List Value} {cs:List Rl} (G:RulesH H vs cs) {v:Value} {c:Rl} (hv:∃ (vad:Option Addr) (vcap:Nat),v = .slice vad c.ex.length vcap∧CodesIn H vad c.ex):RulesH H (vs++[v]) (cs++[c]):=⟨by rw [cW,cW,G.len];rfl,fun i w d hw hd=>by
 have hl:=G.len
 rcases snoc_get hw with ⟨h1,h2⟩|⟨h1,rfl⟩
 ·rcases snoc_get hd with ⟨h3,h4⟩|⟨h3,_⟩
  ·exact G.at_ i w d h2 h4
  ·omega
 ·rcases snoc_get hd with ⟨h3,_⟩|⟨_,rfl⟩
  ·omega
  ·exact hv⟩
theorem forms_block {Y:Nat→Option Obj} {blk:Nat} {arr:Array Value} {el:TypeId} {fr:Nat×Nat} {vs sp:List Value} {cs:List (List Ins)} (hY:Y blk=some (.cells arr el fr)) (h:arr.toList=vs++sp) (G:FormsH Y vs cs):CodesIn Y (some ⟨blk,0,none⟩) cs:=⟨fun i c hc=>by
 have hi:=(wl hc)
 have hl:=G.len
 obtain ⟨v,hv⟩:∃ v,vs[i]? = some v:=wg V3
 obtain ⟨vad,vcap,h1,h2⟩:=G.at_ i v c hv hc
 have hsz:arr.size=vs.length+sp.length:=by rw [← Array.length_toList,h,cW]
 refine ⟨blk,0,arr,el,fr,vad,vcap,O,hY,by omega,?_,h2⟩
 rw [← Array.getElem?_toList,h,Nat.zero_add,dR (by omega),hv,h1]⟩
theorem rules_block {Y:Nat→Option Obj} {blk:Nat} {arr:Array Value} {el:TypeId} {fr:Nat×Nat} {ws sp:List Value} {rs:List Rl} (hY:Y blk=some (.cells arr el fr)) (h:arr.toList=rwZ rs ws++sp) (G:RulesH Y ws rs) (hs:∀ r∈rs,smallR r):RulesIn Y (some ⟨blk,0,none⟩) rs:=⟨fun i r hr=>by
 have hi:=(wl hr)
 have hl:=G.len
 obtain ⟨v,hv⟩:∃ v,ws[i]? = some v:=wg V3
 obtain ⟨ead,ecap,h1,h2⟩:=G.at_ i v r hv hr
 have hsz:arr.size=rs.length*3+sp.length:=by rw [← Array.length_toList,h,cW,rwZ_len hl]
 refine ⟨blk,0,arr,el,fr,ead,ecap,O,hY,by omega,?_,h2⟩
 rw [h,Nat.zero_add,rwZ_at hr hv,h1],hs⟩
def rlR (t:TypeId) (rs:List Rl):Rsc:=⟨fun ρ H=>(∃ (arr:Array Value) (fr:Nat×Nat),H ρ.1=some (.cells arr t fr)∧arr.size=ρ.2)∧RulesIn H (some ⟨ρ.1,0,none⟩) rs⟩
abbrev rlB (t:TypeId) (k:Nat) (rs:List Rl):Nat×Option Box:=(k,some ⟨0,[],.res (rlR t rs)⟩)
section
variable {n:Nat} {C:Ctx} {X:Nat→Option Obj} {s:List (Nat×LV)} {bx:List (Nat×Option Box)} {k:Nat}
theorem rl_shut {Mid:St→Prop} {t:TypeId} {rs:List Rl} {H:Nat→Option Obj} {ws sp:List Value} (hO:OwnedM C X H) (G:RulesH H ws rs) (hs:∀ r∈rs,smallR r)
  (h:Leads n C Mid ⟨s,rlB t k rs::bx,X⟩):Leads n C Mid ⟨s,(k,some ⟨t,(rwZ rs ws++sp).map .val,false⟩)::bx,joinM X H⟩:=by
 refine Leads.closeRes (vals:=rwZ rs ws++sp) hO (fun ρ fr h1 h2 h3 => ?_) h
 refine ⟨⟨_,fr,cN _ _ _,by rw [h3];simp⟩,?_⟩
 exact rules_block (cN _ _ _) (by simp;rfl) (G.mono (cJ h1)) hs
end
theorem ins_leads {H:Nat→Option Obj} {b:Nat} {v:Value} {el:TypeId} {c:List Ins} (h:LeadsTo H b v el 6 (inssV c)) (hs:∀ x∈c,smallI x):∃ (vad:Option Addr) (vcap:Nat),v = .slice vad c.length vcap∧InsIn H vad c:=by
 obtain ⟨len,cap,arr,fr,h1,h2,_,_,h5,h6⟩:=h
 have hl:=inssV_len c
 rw [cX] at hl
 have e:len=c.length:=by omega
 subst e
 exact ⟨_,cap,h1,ins_in h5 hs h6⟩
theorem codes_leads {H:Nat→Option Obj} {b:Nat} {v:Value} {el:TypeId} {vs:List Value} {cs:List (List Ins)} (h:LeadsTo H b v el 1 vs) (G:FormsH H vs cs):∃ (ead:Option Addr) (ecap:Nat),v = .slice ead cs.length ecap∧CodesIn H ead cs:=by
 obtain ⟨len,cap,arr,fr,h1,h2,_,_,h5,sp,h6⟩:=h
 have hl:=G.len
 have e:len=cs.length:=by omega
 subst e
 exact ⟨_,cap,h1,forms_block h5 h6 G⟩
theorem CodesIn.nilIn {H:Nat→Option Obj}:∃ (ead:Option Addr) (ecap:Nat),Value.slice none 0 0 = .slice ead ([]:List (List Ins)).length ecap∧CodesIn H ead []:=⟨none,0,rfl,CodesIn.nil⟩
variable (X:Nat→Option Obj)
end Go.Proofs.YtopiioklkkiedaaGreatDoor
end
section
set_option maxHeartbeats 12800000
set_option maxRecDepth 100000
namespace Go.Proofs.YtopiioklkkiedaaGreatDoor
open Go Go.Lg Go.Lg.Fml Go.Lg.Fld Go.Lg.Arith
set_option maxRecDepth 100000
variable (X:Nat→Option Obj)
theorem kIsVersion (n:Int):PSpec Tryz.prog X 61 [Ln .i64 n] (Lb (verOk n)):=by
 refine cF Tryz.func61 rfl V5 rfl rfl ?_
 intro C
 by_cases h1:1≤n
 ·by_cases h2:n≤1073741824
  ·rw [show verOk n=true by unfold verOk;simp;omega]
   (refine U10 ?_;refine K.leq O O (cP V3) (dT O O) ?_;refine U4 ?_)
   exact V6
  ·rw [show verOk n=false by unfold verOk;simp;omega]
   (refine U10 ?_;refine K.leq O O (cO V3) (dT O O) ?_;refine U4 ?_)
   exact V6
 ·rw [show verOk n=false by unfold verOk;simp;omega]
  refine U15 ?_
  exact V6
set_option maxHeartbeats 3200000 in
theorem kCheckRule (r:Rl) (ead:Option Addr) (ecap:Nat) (hE:CodesIn X ead r.ex) (h1:r.ex.length<4611686018427387904) (h2:∀ c∈r.ex,c.length<1152921504606846976) (last:Int) (h0:0≤last):
  PSpec Tryz.prog X 62 [LPg r.nw r.old ead r.ex.length ecap,Ln .i64 last] (Ln .i64 (chkR r last)):=by
 refine cF Tryz.func62 rfl V5 rfl rfl ?_
 intro C
 obtain ⟨nw,old,ex⟩:=r
 simp only at hE h1 h2 ⊢
 by_cases c1:nw≤last
 ·rw [show chkR ⟨nw,old,ex⟩ last=1 from if_pos (by simp only;omega)]
  (refine U12 ?_;refine K.leq O O (cP V3) dS ?_;refine U23 ?_)
  exact V6
 by_cases c2:24<nw
 ·rw [show chkR ⟨nw,old,ex⟩ last=1 from if_pos (by simp only;omega)]
  refine U36 ?_
  exact V6
 by_cases c3:old<0
 ·rw [show chkR ⟨nw,old,ex⟩ last=1 from if_pos (by simp only;omega)]
  (refine U21 ?_;refine bK O O (cP V3) (dT O O) ?_;refine U14 ?_)
  exact V6
 by_cases c4:24<old
 ·rw [show chkR ⟨nw,old,ex⟩ last=1 from if_pos (by simp only;omega)]
  refine U36 ?_
  exact V6
 have e1:chkR ⟨nw,old,ex⟩ last=if old=0∧ex≠[] then 4 else if 8<ex.length then 5 else firstX ex:=if_neg (by simp only;omega)
 rw [e1]
 have hl:ex≠[]↔0<ex.length:=by rw [List.length_pos_iff]
 by_cases c5:old=0
 ·by_cases c6:0<ex.length
  ·rw [if_pos ⟨c5,hl.2 c6⟩]
   (refine U35 ?_;refine keq rfl rfl (cV c5) ?_;refine U14 ?_)
   exact V6
  ·have e0:ex=[]:=by
    by_cases h:ex=[]
    ·exact h
    ·exact absurd (hl.1 h) c6
   subst e0
   rw [if_neg (fun h=>h.2 rfl),if_neg (by decide)]
   ((refine U34 ?_);(refine U1 ?_;refine keq O O (cV c5) ?_;refine U4 ?_;refine aS O O (cO VA) (dT O O) ?_;refine U9 ?_;refine aS O O (cO VA) dS ?_;refine U13 ?_))
   refine cL (fun m σ=>m=0∧σ=⟨[(46,Ln .i64 0),(47,Ln .i64 0)],[],X⟩) 0 ⟨⟨[(46,Ln .i64 0),(47,Ln .i64 0)],[],X⟩,Le.of VE VC V2 V2 V0,O,O⟩ ?_
   rintro m σ ⟨rfl,rfl⟩
   (refine U2 ?_;refine klt rfl rfl (r:=false) rfl ?_;refine U9 ?_)
   exact V6
 rw [if_neg (fun h=>c5 h.1)]
 by_cases c7:8<ex.length
 ·rw [if_pos c7]
  (refine U35 ?_;refine keq rfl rfl (cS c5) ?_;refine U23 ?_)
  exact V6
 rw [if_neg c7]
 (refine U35 ?_;refine keq rfl rfl (cS c5) ?_;refine U28 ?_)
 refine cL (fun m σ=>∃ i:Nat,i≤ex.length∧m=ex.length-i∧firstX ex=firstX (ex.drop i)∧σ=⟨[(45,Lx ead ex.length ecap),(46,Ln .i64 (ex.length:Nat)),(47,Ln .i64 (i:Nat))],[],X⟩) ex.length
  ⟨⟨[(45,Lx ead ex.length ecap),(46,Ln .i64 (ex.length:Nat)),(47,Ln .i64 (0:Nat))],[],X⟩,Le.of V9 VC V2 V2 V0,0,by omega,by omega,rfl,rfl⟩ ?_
 rintro m σ ⟨i,hi,rfl,hpre,rfl⟩
 by_cases hlt:i<ex.length
 case neg =>
  rw [hpre,List.drop_eq_nil_of_le (by omega)]
  refine U12 ?_
  exact V6
 obtain ⟨c,hc⟩:=wg hlt
 obtain ⟨eb,eo,earr,eel,efr,vad,vcap,rfl,hEX,hec,hI⟩:=hE.get hc
 have hio:=wo eo i 1
 have hG:=gEncode' X c vad vcap hI (h2 c (dE hc))
 rw [drop_at hc,firstX_cons] at hpre
 by_cases he:encErr c=0
 ·rw [if_pos he] at hpre
  rw [he] at hG
  have hadd:=wi i V3
  refine U36 ?_
  exact ⟨_,⟨[(45,Lx (some ⟨eb,eo,none⟩) ex.length ecap),(46,Ln .i64 (ex.length:Nat)),(47,Ln .i64 (i+1:Nat))],[],X⟩,by omega,Le.of V9 VC V2 V2 V0,i+1,by omega,O,hpre,O⟩
 ·rw [if_neg he] at hpre
  rw [hpre]
  have hne:(encErr c != 0)=true:=by rw [bne_iff_ne];exact he
  generalize encErr c=ce at *
  (refine U28 ?_;refine kne rfl rfl hne ?_;refine U8 ?_)
  exact V6
set_option maxHeartbeats 3200000 in
theorem kCheck (p:Pg) (ad:Option Addr) (cap:Nat) (hin:RulesIn X ad p.rs) (hbig:p.rs.length<4611686018427387904) (hsz:sizeR p.rs):PSpec Tryz.prog X 27 [LPg p.va p.vb ad p.rs.length cap] (Ln .i64 (chkP p)):=by
 obtain ⟨va,vb,rs⟩:=p
 simp only at hin hbig hsz ⊢
 have v1:=kIsVersion X va
 have v2:=kIsVersion X vb
 refine cF Tryz.func27 rfl V5 rfl rfl ?_
 intro C
 cases q1:verOk va with
 | false =>
  rw [q1] at v1
  rw [chkP_bad (by simp only;rw [q1,Bool.false_and];decide)]
  refine U25 ?_
  exact V6
 | true =>
 rw [q1] at v1
 cases q2:verOk vb with
 | false =>
  rw [q2] at v2
  rw [chkP_bad (by simp only;rw [q2,Bool.and_false];decide)]
  refine U25 ?_
  exact V6
 | true =>
 rw [q2] at v2
 rw [chkP_good (by simp only;rw [q1,q2];rfl)]
 refine U34 ?_
 simp only
 refine cL (fun m σ=>∃ i:Nat,i≤rs.length∧m=rs.length-i∧chkRs 0 rs=chkRs (lastR rs i) (rs.drop i)∧0≤lastR rs i∧σ=⟨[(3,Ln .i64 (lastR rs i)),(18,Lx ad rs.length cap),(19,Ln .i64 (rs.length:Nat)),(20,Ln .i64 (i:Nat))],[],X⟩) rs.length
  ⟨⟨[(3,Ln .i64 (lastR rs 0)),(18,Lx ad rs.length cap),(19,Ln .i64 (rs.length:Nat)),(20,Ln .i64 (0:Nat))],[],X⟩,Le.of V8 VC V2 V2 V0,0,by omega,by omega,rfl,Int.le_refl 0,rfl⟩ ?_
 rintro m σ ⟨i,hi,rfl,hpre,hlast,rfl⟩
 by_cases hlt:i<rs.length
 case neg =>
  rw [hpre,List.drop_eq_nil_of_le (by omega)]
  refine U12 ?_
  exact V6
 obtain ⟨r,hr⟩:=wg hlt
 obtain ⟨blk,off,arr,el,fr,ead,ecap,rfl,hX,hsiz,hcs,g1,g2,g3,hE⟩:=hin.get hr
 have hio:=wo off i 3
 obtain ⟨hz1,hz2⟩:=hsz r (dE hr)
 have hR:=kCheckRule X r ead ecap hE V3 hz2 (lastR rs i) hlast
 rw [drop_at hr,chkRs_cons] at hpre
 by_cases he:chkR r (lastR rs i)=0
 ·rw [if_pos he] at hpre
  have hgt:=(chkR_zero he).2.2.1
  rw [he] at hR
  have hnl:=lastR_at hr
  have hadd:=wi i V3
  refine U40 ?_
  rw [← hnl] at hpre hgt ⊢
  exact ⟨_,⟨[(3,Ln .i64 (lastR rs (i+1))),(18,Lx (some ⟨blk,off,none⟩) rs.length cap),(19,Ln .i64 (rs.length:Nat)),(20,Ln .i64 (i+1:Nat))],[],X⟩,by omega,Le.of V8 VC V2 V2 V0,i+1,by omega,O,hpre,by omega,O⟩
 ·rw [if_neg he] at hpre
  rw [hpre]
  have hne:(chkR r (lastR rs i) != 0)=true:=by rw [bne_iff_ne];exact he
  generalize chkR r (lastR rs i)=ce at *
  (refine U27 ?_;refine kne rfl rfl hne ?_;refine U8 ?_)
  exact V6
end Go.Proofs.YtopiioklkkiedaaGreatDoor
end
section
set_option maxHeartbeats 12800000
set_option maxRecDepth 100000
namespace Go.Proofs.YtopiioklkkiedaaGreatDoor
open Go Go.Lg Go.Lg.Fld
set_option maxRecDepth 100000
abbrev Ext (X Y:Nat→Option Obj):Prop := ∀ b o,X b=some o→Y b=some o
variable (X:Nat→Option Obj)
end Go.Proofs.YtopiioklkkiedaaGreatDoor
end
section
set_option maxHeartbeats 12800000
set_option maxRecDepth 100000
namespace Go.Proofs.YtopiioklkkiedaaGreatDoor
open Go Go.Lg Go.Lg.Fld
set_option maxRecDepth 100000
theorem unpErr_facts {fs:List Fl} {s:List UInt8} (h:unpErr fs s=0):layErr fs=0∧s.length=rowSize fs∧readOk (elemsAt 0 fs) s=true∧packB fs ((unpZ fs s).map qn)=s:=by
 unfold unpErr at h
 split at h
 ·rename_i h0
  split at h
  ·rename_i h1
   unfold unpOk at h1
   simp only [Bool.and_eq_true,decide_eq_true_eq,beq_iff_eq] at h1
   exact ⟨h0,h1.1,h1.2.1,h1.2.2⟩
  ·cases h
 ·contradiction
theorem unp_R {fs:List Fl} {s:List UInt8} (h:unpErr fs s=0):∀ z∈unpZ fs s,R127 z:=by
 obtain ⟨hl,hn,_,_⟩:=unpErr_facts h
 obtain ⟨_,hall,_⟩:=layErr_facts hl
 intro z hz
 obtain ⟨e,he,rfl⟩:=List.mem_map.1 hz
 exact (read_R (within_row hall) hn he).2
theorem unpZ_len {fs:List Fl} {s:List UInt8} (h:unpErr fs s=0):(unpZ fs s).length≤64:=by
 obtain ⟨hl,_,_,_⟩:=unpErr_facts h
 obtain ⟨h8,hall,_⟩:=layErr_facts hl
 have:=elems_len fs 0 hall
 simp only [unpZ,cX];omega
variable (X:Nat→Option Obj)
end Go.Proofs.YtopiioklkkiedaaGreatDoor
end
section
set_option maxHeartbeats 12800000
set_option maxRecDepth 100000
namespace Go.Proofs.YtopiioklkkiedaaGreatDoor
open Go Go.Lg Go.Lg.Fml Go.Lg.Fld Go.Lg.Arith
set_option maxRecDepth 100000
def RowV (Y:Nat→Option Obj) (vs:List Value) (fs:List (List Nm)):Prop:=vs.length=fs.length∧∀ (i:Nat) (r:List Nm),fs[i]? = some r→∃ (ad:Option Addr) (cap:Nat),vs[i]? = some (.slice ad r.length cap)∧NumsIn Y ad r
variable (X:Nat→Option Obj)
end Go.Proofs.YtopiioklkkiedaaGreatDoor
end
section
set_option maxHeartbeats 12800000
set_option maxRecDepth 100000
namespace Go.Proofs.YtopiioklkkiedaaGreatDoor
open Go Go.Lg Go.Lg.Fml Go.Lg.Fld Go.Lg.Arith
set_option maxRecDepth 100000
def int1 (l:List Int):List Value:=l.map fun n=>.int .i64 n
section
variable {n:Nat} {C:Ctx} {X:Nat→Option Obj} {s:List (Nat×LV)} {bx:List (Nat×Option Box)} {k:Nat}
end
variable (X:Nat→Option Obj)
abbrev Vp' (b:Nat):LV:=.sv (.one (.val (.pointer (some ⟨b,0,none⟩))))
theorem kIndex (ad:Option Addr) (cap:Nat) (rs:List Rl) (hin:RulesIn X ad rs) (hbig:rs.length<4611686018427387904) (f:FuncId) (caps:List Value) (p:Rl→Bool)
  (hp:∀ r∈rs,∀ ead ecap,PSpec Tryz.prog X f ([LPg r.nw r.old ead r.ex.length ecap]++caps.map fun v=>.sv (.one (.val v))) (Lb (p r))):
  PSpec Tryz.prog X 171 [Lx ad rs.length cap,Lf f caps] (Ln .i64 (findI p rs)):=by
 refine cF Tryz.func171 rfl V5 rfl rfl ?_
 intro C
 refine U12 ?_
 refine cL (fun m σ=>∃ i:Nat,i≤rs.length∧m=rs.length-i∧(∀ (j:Nat) (y:Rl),j<i→rs[j]? = some y→p y=false)∧σ=⟨[(0,Lx ad rs.length cap),(1,Lf f caps),(7,Ln .i64 (rs.length:Nat)),(8,Ln .i64 (i:Nat))],[],X⟩) rs.length
  ⟨_,Le.of V8 VC V2 V2 V2,0,by omega,by omega,fun j y hj=>absurd hj V3,rfl⟩ ?_
 rintro m σ ⟨i,hi,rfl,hpre,rfl⟩
 by_cases hlt:i<rs.length
 ·obtain ⟨c,hc⟩:=wg hlt
  obtain ⟨blk,off,arr,el,fr,fad,fcap,rfl,hX,hsz,hcs,_,_,_,hF⟩:=hin.get hc
  have hio:=wo off i 3
  have hP:=hp c (dE hc) fad fcap
  cases hpc:p c with
  | true =>
   rw [hpc] at hP
   rw [findI_some hpre hc hpc]
   (refine U21 ?_;refine K.callF O O O hP dS ?_;refine U8 ?_)
   exact V6
  | false =>
   rw [hpc] at hP
   (refine U21 ?_;refine K.callF O O O hP dS ?_;refine U7 ?_)
   exact ⟨_,_,by omega,Le.of V8 VC V2 V2 V2,i+1,by omega,O,(fun j y hj hy=>by
    by_cases e:j=i
    ·subst e;rw [hc] at hy;cases hy;exact hpc
    ·exact hpre j y V3 hy),rfl⟩
 ·rw [findI_none fun j y hy=>hpre j y V2D hy]
  refine U12 ?_
  exact V6
end Go.Proofs.YtopiioklkkiedaaGreatDoor
end
section
set_option maxHeartbeats 12800000
set_option maxRecDepth 100000
namespace Go.Proofs.YtopiioklkkiedaaGreatDoor
open Go Go.Lg Go.Lg.Fml Go.Lg.Fld Go.Lg.Arith
set_option maxRecDepth 100000
theorem firstE_shift {f:Nat→Int}:∀ n i,firstE f (i+1) n=firstE (fun j=>f (j+1)) i n
 | 0,_=>rfl
 | n+1,i=>by
  show (if f (i+1)=0 then firstE f (i+1+1) n else f (i+1))=(if f (i+1)=0 then firstE (fun j=>f (j+1)) (i+1) n else f (i+1))
  rw [firstE_shift n (i+1)]
theorem seqE_cons {α:Type} {g:α→Int} {x:α} {t:List α}:seqE g (x::t)=if g x=0 then seqE g t else g x:=by
 show (if atE g (x::t) 0=0 then firstE (atE g (x::t)) (0+1) t.length else atE g (x::t) 0)=_
 rw [firstE_shift]
 rfl
theorem seqE_uses {fs:List Fl} {f:Fl}:∀ l:List Ins,seqE (findE fs f) (usesX l)=seqE (findE fs f) l
 | []=>rfl
 | x::t=>by
  have ih:=seqE_uses (fs:=fs) (f:=f) t
  have h1:usesX (x::t)=if (x.op==2||x.op==3)=true then x::usesX t else usesX t:=List.filter_cons
  rw [h1,seqE_cons]
  by_cases h:x.op=2∨x.op=3
  ·rw [if_pos V2E,seqE_cons,ih]
  ·rw [if_neg V2E,findE_skip h,if_pos rfl,ih]
theorem uses_mem {l:List Ins} {x:Ins} (h:x∈usesX l):x∈l∧(x.op=2∨x.op=3):=by
 unfold usesX at h
 rw [List.mem_filter] at h
 exact ⟨h.1,by simpa using h.2⟩
def hdB:List Ins→Bool
 | [x]=>x.op==2||x.op==3||(x.op==1&&decide (x.k=(false,0)))
 | _=>false
theorem refE_hd {f:Fl} {l:List Ins} (h:chkX l=0):refE f l=if f.kind=10∧hdB l=false then 8 else 0:=by
 match l,h with
 | [],h=>exact absurd rfl (chkX_ne h)
 | [x],h =>
  have hd:=(chkX_zero h).2
  have ho:=(okI_facts (chkX_ok h x (List.mem_singleton.2 rfl))).1
  have ht:takes x.op=0:=by
   by_cases e:takes x.op=0
   ·exact e
   ·exfalso
    unfold dep at hd
    rw [if_neg (by omega)] at hd
    cases hd
  have h4:x.op≤4:=by
   unfold takes at ht
   by_cases e:x.op≤4
   ·exact e
   ·exfalso
    by_cases a1:x.op=16
    ·rw [if_pos a1] at ht;cases ht
    ·rw [if_neg a1] at ht
     by_cases a2:x.op=10∨x.op=15
     ·rw [if_pos a2] at ht;cases ht
     ·rw [if_neg a2,if_pos V3] at ht;cases ht
  show (if f.kind=10∧(x.op=4∨(x.op=1∧x.k≠(false,0))) then (8:Int) else 0)=if f.kind=10∧(x.op==2||x.op==3||(x.op==1&&decide (x.k=(false,0))))=false then 8 else 0
  have hi:(x.op=4∨(x.op=1∧x.k≠(false,0)))↔(x.op==2||x.op==3||(x.op==1&&decide (x.k=(false,0))))=false:=by
   by_cases hk:x.k=(false,0)
   ·simp [hk];omega
   ·simp [hk];omega
  by_cases hf:f.kind=10
  ·by_cases hb:x.op=4∨(x.op=1∧x.k≠(false,0))
   ·rw [if_pos ⟨hf,hb⟩,if_pos ⟨hf,hi.1 hb⟩]
   ·rw [if_neg (fun h=>hb h.2),if_neg (fun h=>hb (hi.2 h.2))]
  ·rw [if_neg (fun h=>hf h.1),if_neg (fun h=>hf h.1)]
 | x::y::t,h =>
  show (if f.kind=10 then (8:Int) else 0)=if f.kind=10∧hdB (x::y::t)=false then 8 else 0
  by_cases hf:f.kind=10
  ·rw [if_pos hf,if_pos ⟨hf,rfl⟩]
  ·rw [if_neg hf,if_neg (fun h=>hf h.1)]
abbrev Ax (x:Ins):LV:=.sv (.agg ((insV x).map CV.val))
def heB (g f:Fl) (x:Ins):Bool:=if x.op=2 then decide (x.b<g.count) else decide (f.count≤g.count)
variable (X:Nat→Option Obj)
theorem yIsRef (f:Fl):PSpec Tryz.prog X 141 [Fx f] (Lb (decide (f.kind=10))):=by
 refine cF Tryz.func141 rfl V5 rfl rfl ?_
 intro C
 (refine U9 ?_;refine keq rfl rfl (r:=decide (f.kind=10)) (beq_dec f.kind 10) ?_;refine U3 ?_)
 exact V6
theorem yHas (g f:Fl) (x:Ins):PSpec Tryz.prog X 176 [Fx g,Fx f,Ax x] (Lb (heB g f x)):=by
 refine cF Tryz.func176 rfl V5 rfl rfl ?_
 intro C
 unfold heB
 by_cases c2:x.op=2
 ·rw [if_pos c2]
  (refine U12 ?_;refine keq rfl rfl (r:=true) (cV c2) ?_;refine U8 ?_;refine klt rfl rfl rfl ?_;refine U3 ?_)
  exact V6
 ·rw [if_neg c2]
  (refine U12 ?_;refine keq O O (r:=false) (cS c2) ?_;refine U9 ?_;refine bD O O O dS ?_;refine U3 ?_)
  exact V6
theorem yUse (c:Cp) (f:Fl) (x:Ins) (cad:Option Addr) (ccap:Nat) (hF:FieldsIn X cad c.fs) (hfl:c.fs.length<4611686018427387904) (h23:x.op=2∨x.op=3) (ha0:0≤x.a):
  PSpec Tryz.prog X 135 [Cx c cad ccap,Fx f,Ax x] (Ln .i64 (findE c.fs f x)):=by
 refine cF Tryz.func135 rfl V5 rfl rfl ?_
 intro C
 cases hg:c.fs[x.a.toNat]? with
 | none =>
  have hge:=List.getElem?_eq_none_iff.1 hg
  rw [findE_out h23 hg]
  refine U23 ?_
  exact V6
 | some g =>
 have hlg:=(wl hg)
 have hE:=findE_at (f:=f) h23 hg
 obtain ⟨fb,fo,farr,fel,ffr,rfl,hFX,hFz,hFc,_⟩:=hF.cells hg
 have hio3:fo+Int.toNat x.a*3=fo+x.a.toNat*3:=rfl
 have hH:=yHas X g f x
 cases hb:heB g f x with
 | false =>
  rw [hb] at hH
  have h3:(x.op=2∧g.count≤x.b)∨(x.op=3∧g.count<f.count):=by
   unfold heB at hb
   by_cases c2:x.op=2
   ·rw [if_pos c2] at hb
    have:=of_decide_eq_false hb
    exact .inl ⟨c2,by omega⟩
   ·rw [if_neg c2] at hb
    have:=of_decide_eq_false hb
    exact .inr ⟨by omega,by omega⟩
  rw [if_pos h3] at hE
  rw [hE]
  refine U47 ?_
  exact V6
 | true =>
 rw [hb] at hH
 have h3:¬((x.op=2∧g.count≤x.b)∨(x.op=3∧g.count<f.count)):=by
  unfold heB at hb
  by_cases c2:x.op=2
  ·rw [if_pos c2] at hb
   have:=of_decide_eq_true hb
   omega
  ·rw [if_neg c2] at hb
   have:=of_decide_eq_true hb
   omega
 rw [if_neg h3] at hE
 have hg1:=yIsRef X g
 have hg2:=yIsRef X f
 by_cases hk:(g.kind=10)=(f.kind=10)
 ·rw [if_pos hk] at hE
  rw [hE]
  have hn:(decide (g.kind=10) != decide (f.kind=10))=false:=by simp [hk]
  (refine U43 ?_;refine rgD mixed ?_;refine U4 ?_;refine K.neqB O O hn dS ?_;refine U10 ?_)
  exact V6
 ·rw [if_neg hk] at hE
  rw [hE]
  have hn:(decide (g.kind=10) != decide (f.kind=10))=true:=by
   rw [bne_iff_ne]
   intro h
   exact hk V2E
  (refine U43 ?_;refine rgD mixed ?_;refine U4 ?_;refine K.neqB O O hn dS ?_;refine U9 ?_)
  exact V6
theorem yIsHandle (l:List Ins) (ad:Option Addr) (cap:Nat) (hin:InsIn X ad l) (hl:l.length<4611686018427387904):
  PSpec Tryz.prog X 142 [Lx ad l.length cap] (Lb (hdB l)):=by
 refine cF Tryz.func142 rfl V5 rfl rfl ?_
 intro C
 by_cases h1:l.length=1
 case neg =>
  have hr:hdB l=false:=by
   unfold hdB
   split
   ·exact absurd rfl h1
   ·rfl
  rw [hr]
  refine U17 ?_
  exact V6
 obtain ⟨x,hx⟩:∃ x,l[0]? = some x:=wg V3
 have hl1:l=[x]:=by
  match l,h1,hx with
  | [y],_,hx=>simp only [List.getElem?_cons_zero,Option.some.injEq] at hx;rw [hx]
 obtain ⟨blk,off,arr,el,fr,rfl,hX,hsz,hcs,g0,g1,g2,g3⟩:=hin.six hx
 obtain ⟨_,_,_,hk2⟩:=hin.small x (dE hx)
 have h00:off+Int.toNat 0*6=off+0*6:=by simp
 have hr:hdB l=(x.op==2||x.op==3||(x.op==1&&decide (x.k=(false,0)))):=by rw [hl1];rfl
 rw [hr]
 clear hr hl1
 by_cases c2:x.op=2
 ·have e:(x.op==2||x.op==3||(x.op==1&&decide (x.k=(false,0))))=true:=by rw [c2];rfl
  rw [e]
  (refine U9 ?_;refine kne rfl rfl (r:=false) (cT V3) ?_;refine U21 ?_;refine keq rfl rfl (r:=true) (cV c2) ?_;refine U10 ?_)
  exact V6
 by_cases c3:x.op=3
 ·have e:(x.op==2||x.op==3||(x.op==1&&decide (x.k=(false,0))))=true:=by rw [c3];rfl
  rw [e]
  (refine U9 ?_;refine kne rfl rfl (r:=false) (cT V3) ?_;refine U21 ?_;refine keq rfl rfl (r:=false) (cS c2) ?_;refine U4 ?_;refine keq rfl rfl (r:=true) (cV c3) ?_;refine U8 ?_)
  exact V6
 have e:(x.op==2||x.op==3||(x.op==1&&decide (x.k=(false,0))))=(x.op==1&&decide (x.k=(false,0))):=by
  rw [cS c2,cS c3];rfl
 rw [e]
 by_cases c1:x.op=1
 ·rw [cV c1,Bool.true_and]
  obtain ⟨op,a,b,kb,kN⟩:=x
  simp only at hk2 g0 g1 g2 g3 hcs c2 c3 c1 ⊢
  have q:=eqI (b:=kb) (b':=false) (h:=kN/18446744073709551616) (h':=0) (l:=kN%18446744073709551616) (l':=0) _ (eqZ hk2)
  (refine U9 ?_;refine kne O O (r:=false) (cT V3) ?_;refine U21 ?_;refine keq O O (r:=false) (cS c2) ?_;refine U4 ?_;refine keq O O (r:=false) (cS c3) ?_;refine U5 ?_;refine keq O O (r:=true) (cV c1) ?_;refine U6 ?_;refine bJ O O O V28 dS ?_;refine U1 ?_;refine bR O O O O V5 q (.inl ⟨O,O⟩) dS ?_;refine U3 ?_)
  exact V6
 ·rw [cS c1,Bool.false_and]
  (refine U9 ?_;refine kne rfl rfl (r:=false) (cT V3) ?_;refine U21 ?_;refine keq rfl rfl (r:=false) (cS c2) ?_;refine U4 ?_;refine keq rfl rfl (r:=false) (cS c3) ?_;refine U5 ?_;refine keq rfl rfl (r:=false) (cS c1) ?_;refine U9 ?_)
  exact V6
set_option maxHeartbeats 6400000 in
theorem yFormula (c:Cp) (f:Fl) (l:List Ins) (cad ad:Option Addr) (ccap cap:Nat) (hF:FieldsIn X cad c.fs) (hin:InsIn X ad l) (hbig:l.length<1152921504606846976) (hfl:c.fs.length<4611686018427387904):
  PSpec Tryz.prog X 102 [Cx c cad ccap,Fx f,Lx ad l.length cap] (Ln .i64 (fmE c.fs f l)):=by
 have hC:=gCheck X l ad cap hin hbig
 refine cF Tryz.func102 rfl V5 rfl rfl ?_
 intro C
 unfold fmE
 by_cases h0:chkX l=0
 case neg =>
  rw [if_neg h0]
  generalize chkX l=e at *
  (refine U16 ?_;refine kne rfl rfl (cU h0) ?_;refine U8 ?_)
  exact V6
 rw [h0] at hC
 have hchk:=chkX_ok h0
 have h64:=(chkX_zero h0).1
 have hU:=gUses' X l ad cap hin V3
 have hul:=uses_le l
 rw [if_pos h0,refE_hd h0,← seqE_uses (fs:=c.fs) (f:=f) l]
 (refine U24 ?_;refine bE [(1000001,601)] (.sv (.one (.slc 601 0 (usesX l).length 6))) [(601,some ⟨88,(inssV (usesX l)).map .val,true⟩)] (hU) O O VC O O O O O V18 dS ?_;refine U4 ?_)
 refine LWP.le (σ':=⟨[(17,.sv (.one (.slc 601 0 (usesX l).length 6))),(2,Lx ad l.length cap),(3,Lp 3),(4,Lp 4),(18,Ln .i64 ((usesX l).length:Nat)),(19,Ln .i64 0)],[(601,some ⟨88,(inssV (usesX l)).map .val,true⟩),flB 4 f,cpB 3 c cad ccap],X⟩) (Le.of V11 V9 V2 V2 V0) ?_
 refine LWP.freeze O O O fun ub uc ua uf hn _ _ _ hsp => ?_
 have hum:∀ x∈usesX l,smallI x:=fun x hx=>hin.small x (uses_mem hx).1
 have hUI:=ins_in (cN X ub (.cells ua 88 uf)) hum hsp
 have hXY:=cJ (o:=.cells ua 88 uf) hn
 replace hF:=hF.mono hXY
 have hH:=yIsHandle _ l ad cap (hin.mono hXY) V3
 have huse:∀ x∈usesX l,(x.op=2∨x.op=3)∧0≤x.a:=fun x hx=>⟨(uses_mem hx).2,(okI_facts (hchk x (uses_mem hx).1)).2.2.1.1⟩
 clear hin hC hU hsp hn hchk hum
 generalize withBlock X ub (.cells ua 88 uf)=Y at *
 generalize (some ⟨ub,0,none⟩:Option Addr)=uad at *
 generalize usesX l=u at *
 have hR:=yIsRef Y f
 refine cL (fun m σ=>∃ i:Nat,i≤u.length∧m=u.length-i∧(∀ j,0≤j→j<i→atE (findE c.fs f) u j=0)∧σ=⟨[(2,Lx ad l.length cap),(3,Lp 3),(4,Lp 4),(17,Lx uad u.length uc),(18,Ln .i64 (u.length:Nat)),(19,Ln .i64 (i:Nat))],[flB 4 f,cpB 3 c cad ccap],Y⟩) u.length
  ⟨_,Le.of V11 VE V2 V2 V0,0,by omega,by omega,fun j _ hj=>absurd hj V3,rfl⟩ ?_
 rintro m σ ⟨i,hi,rfl,hpre,rfl⟩
 by_cases hlt:i<u.length
 case neg =>
  have e:i=u.length:=by omega
  subst e
  have hs:seqE (findE c.fs f) u=0:=firstE_none fun j h1 h2=>hpre j h1 V3
  rw [if_pos hs]
  by_cases hk:f.kind=10
  ·rw [cP hk] at hR
   cases hd:hdB l with
   | true =>
    rw [hd] at hH
    rw [if_neg (fun h=>by cases h.2)]
    refine U25 ?_
    exact V6
   | false =>
    rw [hd] at hH
    rw [if_pos ⟨hk,rfl⟩]
    refine U24 ?_
    exact V6
  ·rw [cO hk] at hR
   rw [if_neg (fun h=>hk h.1)]
   refine U25 ?_
   exact V6
 obtain ⟨x,hx⟩:=wg hlt
 obtain ⟨blk,off,arr,el,fr,rfl,hX,hsz,hcs,_⟩:=hUI.at hx
 have hio:=wo off i 6
 obtain ⟨h23,ha0⟩:=huse x (dE hx)
 have hadd:IntKind.i64.wrap ((i:Int)+1)=((i+1:Nat):Int):=by rw [cH V3];omega
 have hq:=yUse Y c f x cad ccap hF hfl h23 ha0
 by_cases he:findE c.fs f x=0
 ·rw [he] at hq
  have next:∀ j,0≤j→j<i+1→atE (findE c.fs f) u j=0:=fun j h0 hj=>by
   by_cases e:j=i
   ·rw [e,atE_at hx];exact he
   ·exact hpre j h0 V3
  refine U35 ?_
  exact ⟨_,_,by omega,Le.of V11 VE V2 V2 V0,i+1,by omega,O,next,O⟩
 ·have hs:seqE (findE c.fs f) u=findE c.fs f x:=firstE_some hpre (Nat.zero_le _) V3 (by rw [atE_at hx]) he
  rw [hs,if_neg he]
  generalize findE c.fs f x=e at *
  (refine U27 ?_;refine kne rfl rfl (cU he) ?_;refine U8 ?_)
  exact V6
end Go.Proofs.YtopiioklkkiedaaGreatDoor
end
section
set_option maxHeartbeats 12800000
set_option maxRecDepth 100000
namespace Go.Proofs.YtopiioklkkiedaaGreatDoor
open Go Go.Lg Go.Lg.Fml Go.Lg.Fld Go.Lg.Arith
set_option maxRecDepth 100000
variable (X:Nat→Option Obj)
set_option maxHeartbeats 6400000 in
theorem yRule (a b:Cp) (r:Rl) (aad bad ead:Option Addr) (acap bcap ecap:Nat) (hA:FieldsIn X aad a.fs) (hB:FieldsIn X bad b.fs) (hE:CodesIn X ead r.ex) (hal:a.fs.length<4611686018427387904) (hbl:b.fs.length<4611686018427387904) (hcl:∀ c∈r.ex,c.length<1152921504606846976):
  PSpec Tryz.prog X 67 [Cx a aad acap,Cx b bad bcap,.sv (.agg [.val (.int .i64 r.nw),.val (.int .i64 r.old),.val (.slice ead r.ex.length ecap)])] (Ln .i64 (ruE a.fs b.fs r)):=by
 refine cF Tryz.func67 rfl V5 rfl rfl ?_
 intro C
 by_cases h0:r.old=0
 ·rw [show ruE a.fs b.fs r=0 from if_pos h0]
  (refine U13 ?_;refine keq rfl rfl (r:=true) (cV h0) ?_;refine U8 ?_)
  exact V6
 by_cases hl:r.ex.length=b.fs.length
 case neg =>
  rw [show ruE a.fs b.fs r=4 by unfold ruE;rw [if_neg h0,if_neg hl]]
  (refine U13 ?_;refine keq rfl rfl (r:=false) (cS h0) ?_;refine U20 ?_)
  exact V6
 rw [ruE_at h0 hl]
 have hzl:(b.fs.zip r.ex).length=b.fs.length:=by rw [List.length_zip];omega
 (refine U13 ?_;refine keq rfl rfl (r:=false) (cS h0) ?_;refine U11 ?_;refine kne rfl rfl (r:=false) (cT V3) ?_;refine U13 ?_)
 refine cL (fun m σ=>∃ i:Nat,i≤r.ex.length∧m=r.ex.length-i∧(∀ j,0≤j→j<i→atE (fun q:Fl×List Ins=>fmE a.fs q.1 q.2) (b.fs.zip r.ex) j=0)∧σ=⟨[(3,Lp 3),(4,Lp 4),(23,Lx ead r.ex.length ecap),(24,Ln .i64 (r.ex.length:Nat)),(25,Ln .i64 (i:Nat))],[cpB 4 b bad bcap,cpB 3 a aad acap],X⟩) r.ex.length
  ⟨_,Le.of V10 VE V2 V2 V0,0,by omega,by omega,fun j _ hj=>absurd hj V3,rfl⟩ ?_
 rintro m σ ⟨i,hi,rfl,hpre,rfl⟩
 by_cases hlt:i<r.ex.length
 case neg =>
  rw [show seqE (fun q:Fl×List Ins=>fmE a.fs q.1 q.2) (b.fs.zip r.ex)=0 from firstE_none fun j h1 h2=>hpre j h1 (by omega)]
  refine U12 ?_
  exact V6
 obtain ⟨f,hf⟩:∃ f,b.fs[i]? = some f:=wg V3
 obtain ⟨c,hc⟩:=wg hlt
 obtain ⟨fb,fo,farr,fel,ffr,rfl,hFX,hFz,hFc,_⟩:=hB.cells hf
 obtain ⟨eb,eo,earr,eel,efr,vad,vcap,rfl,hEX,hec,hI⟩:=hE.get hc
 have hio3:=wo fo i 3
 have hio1:=wo eo i 1
 have hadd:IntKind.i64.wrap ((i:Int)+1)=((i+1:Nat):Int):=by rw [cH V3];omega
 have hq:=yFormula X a f c aad vad acap vcap hA hI (hcl c (dE hc)) hal
 have hat:atE (fun q:Fl×List Ins=>fmE a.fs q.1 q.2) (b.fs.zip r.ex) i=fmE a.fs f c:=atE_at (zip_two hf hc)
 by_cases he:fmE a.fs f c=0
 ·rw [he] at hq
  (refine U18 ?_;refine rgD mixed ?_;refine U22 ?_)
  exact ⟨_,_,by omega,Le.of V10 VE V2 V2 V0,i+1,by omega,O,(fun j h0 hj=>by
   by_cases e:j=i
   ·rw [e,hat];exact he
   ·exact hpre j h0 V3),rfl⟩
 ·rw [show seqE (fun q:Fl×List Ins=>fmE a.fs q.1 q.2) (b.fs.zip r.ex)=fmE a.fs f c from firstE_some hpre (Nat.zero_le _) V3 hat he]
  generalize fmE a.fs f c=e at *
  (refine U18 ?_;refine rgD mixed ?_;refine U14 ?_;refine kne rfl rfl (r:=true) (cU he) ?_;refine U8 ?_)
  exact V6
end Go.Proofs.YtopiioklkkiedaaGreatDoor
end
section
set_option maxHeartbeats 12800000
set_option maxRecDepth 100000
namespace Go.Proofs.YtopiioklkkiedaaGreatDoor
open Go Go.Lg Go.Lg.Fml Go.Lg.Fld Go.Lg.Arith
set_option maxRecDepth 100000
structure NmsIn (X:Nat→Option Obj) (ad:Option Addr) (l:List Int):Prop where
 at_:∀ (i:Nat) (v:Int),l[i]? = some v→∃ (blk off:Nat) (arr:Array Value) (el:TypeId) (fr:Nat×Nat),ad=some ⟨blk,off,none⟩∧X blk=some (.cells arr el fr)∧arr[off+i*1]? = some (.int .i64 v)
theorem NmsIn.mono {X Y:Nat→Option Obj} (hXY:∀ b o,X b=some o→Y b=some o) {ad:Option Addr} {l:List Int} (h:NmsIn X ad l):NmsIn Y ad l:=⟨fun i v hv=>by
 obtain ⟨blk,off,arr,el,fr,h1,h2,h3⟩:=h.at_ i v hv
 exact ⟨blk,off,arr,el,fr,h1,hXY _ _ h2,h3⟩⟩
theorem nms_block {Y:Nat→Option Obj} {blk:Nat} {arr:Array Value} {el:TypeId} {fr:Nat×Nat} {l:List Int} (hY:Y blk=some (.cells arr el fr)) (h:∃ sp,arr.toList=int1 l++sp):NmsIn Y (some ⟨blk,0,none⟩) l:=⟨fun i v hv=>by
 obtain ⟨sp,h⟩:=h
 have hi:=(wl hv)
 refine ⟨blk,0,arr,el,fr,O,hY,?_⟩
 rw [← Array.getElem?_toList,h,Nat.zero_add,Nat.mul_one,dR (by unfold int1;rw [cX];exact hi)]
 unfold int1
 rw [dM,hv];rfl⟩
theorem idsV_int1 (cs:List Cp):idsV cs=int1 (cs.map Cp.id):=by unfold idsV int1;rw [List.map_map];rfl
theorem findI_any {α:Type} (p:α→Bool) (l:List α):decide (0≤findI p l)=l.any p:=by
 unfold findI
 cases hq:l.findIdx? p with
 | none =>
  simp only
  have:=List.findIdx?_eq_none_iff.1 hq
  rw [List.any_eq_false.2 (fun x hx=>by simpa using this x hx)]
  rfl
 | some i =>
  obtain ⟨hi,h1,_⟩:=List.findIdx?_eq_some_iff_getElem.1 hq
  rw [List.any_eq_true.2 ⟨l[i],List.getElem_mem hi,h1⟩]
  simp
variable (X:Nat→Option Obj)
theorem yIndex (l:List Int) (ad:Option Addr) (cap:Nat) (v:Int) (hin:NmsIn X ad l) (hbig:l.length<4611686018427387904):
  PSpec Tryz.prog X 172 [Lx ad l.length cap,Ln .i64 v] (Ln .i64 (findI (fun x=>v==x) l)):=by
 refine cF Tryz.func172 rfl V5 rfl rfl ?_
 intro C
 refine U12 ?_
 refine cL (fun m σ=>∃ i:Nat,i≤l.length∧m=l.length-i∧(∀ (j:Nat) (y:Int),j<i→l[j]? = some y→(v==y)=false)∧σ=⟨[(0,Lx ad l.length cap),(1,Ln .i64 v),(7,Ln .i64 (l.length:Nat)),(8,Ln .i64 (i:Nat))],[],X⟩) l.length
  ⟨_,Le.of V8 VC V2 V2 V2,0,by omega,by omega,fun j y hj=>absurd hj V3,rfl⟩ ?_
 rintro m σ ⟨i,hi,rfl,hpre,rfl⟩
 by_cases hlt:i<l.length
 ·obtain ⟨c,hc⟩:=wg hlt
  obtain ⟨blk,off,arr,el,fr,rfl,hX,hcs⟩:=hin.at_ i c hc
  have hio:=wo off i 1
  have hadd:=wi i V3
  cases hpc:(v==c) with
  | true =>
   rw [findI_some hpre hc hpc]
   (refine U21 ?_;refine keq rfl rfl hpc ?_;refine U8 ?_)
   exact V6
  | false =>
   (refine U21 ?_;refine keq rfl rfl hpc ?_;refine U7 ?_)
   exact ⟨_,_,by omega,Le.of V8 VC V2 V2 V2,i+1,by omega,O,(fun j y hj hy=>by
    by_cases e:j=i
    ·subst e;rw [hc] at hy;cases hy;exact hpc
    ·exact hpre j y V3 hy),rfl⟩
 ·rw [findI_none fun j y hy=>hpre j y V2D hy]
  refine U12 ?_
  exact V6
theorem yContains (l:List Int) (ad:Option Addr) (cap:Nat) (v:Int) (hin:NmsIn X ad l) (hbig:l.length<4611686018427387904):
  PSpec Tryz.prog X 128 [Lx ad l.length cap,Ln .i64 v] (Lb (l.any fun x=>v==x)):=by
 have hI:=yIndex X l ad cap v hin hbig
 refine cF Tryz.func128 rfl V5 rfl rfl ?_
 intro C
 (refine U9 ?_;refine bD O O (findI_any _ _) dS ?_;refine U3 ?_)
 exact V6
theorem yEqual (l m:List Int) (ad ad2:Option Addr) (cap cap2:Nat) (ha:NmsIn X ad l) (hb:NmsIn X ad2 m) (hbig:l.length<4611686018427387904) (r:Bool) (hr:decide (l=m)=r):
  PSpec Tryz.prog X 85 [Lx ad l.length cap,Lx ad2 m.length cap2] (Lb r):=by
 subst hr
 refine cF Tryz.func85 rfl V5 rfl rfl ?_
 intro C
 by_cases hl:l.length=m.length
 ·(refine U11 ?_;refine kne rfl rfl (r:=false) (by rw [hl];simp) ?_;refine U11 ?_)
  refine cL (fun q σ=>∃ i:Nat,i≤l.length∧q=l.length-i∧l.take i=m.take i∧σ=⟨[(0,Lx ad l.length cap),(1,Lx ad2 m.length cap2),(12,Ln .i64 (l.length:Nat)),(13,Ln .i64 (i:Nat))],[],X⟩) l.length
   ⟨_,Le.of V8 VC V2 V2 V2,0,by omega,rfl,rfl,rfl⟩ ?_
  rintro q σ ⟨i,hi,rfl,hpre,rfl⟩
  by_cases hlt:i<l.length
  ·obtain ⟨f,hf⟩:=wg hlt
   obtain ⟨f',hf'⟩:∃ v,m[i]? = some v:=wg V3
   obtain ⟨blk,off,arr,el,fr,rfl,hX,hcells⟩:=ha.at_ i f hf
   obtain ⟨blk',off',arr',el',fr',rfl,hX',hcells'⟩:=hb.at_ i f' hf'
   have hio:=wo off i 1
   have hio':=wo off' i 1
   have hadd:=wi i V3
   by_cases hq:f=f'
   ·(refine U15 ?_;refine rgD mixed ?_;refine U8 ?_;refine kne rfl rfl (r:=false) (cT hq) ?_;refine U8 ?_)
    exact ⟨_,_,by omega,Le.of V8 VC V2 V2 V2,i+1,by omega,rfl,by rw [take_snoc hf,take_snoc hf',hpre,hq],rfl⟩
   ·rw [cO (show ¬l=m from fun e=>hq (by rw [e,hf'] at hf;exact (Option.some.inj hf).symm))]
    (refine U15 ?_;refine rgD mixed ?_;refine U8 ?_;refine kne rfl rfl (r:=true) (cU hq) ?_;refine U8 ?_)
    exact V6
  ·have e:i=l.length:=by omega
   subst e
   rw [dG,List.take_of_length_le (by omega)] at hpre
   rw [cP hpre]
   refine U12 ?_
   exact V6
 ·rw [cO (show ¬l=m from fun e=>hl (by rw [e]))]
  (refine U11 ?_;refine kne rfl rfl (r:=true) (by rw [bne_iff_ne];omega) ?_;refine U7 ?_)
  exact V6
theorem equal_lent {S:Nat→Option (Option Box)} {l m:List Int} {j k n1 n2:Nat} {e1 e2:TypeId} {row1 row2:Bool} {r:Bool} (hbig:l.length<4611686018427387904) (hr:decide (l=m)=r) (h1:n1=l.length) (h2:n2=m.length) (hj:S j=some (some ⟨e1,(int1 l).map .val,row1⟩)) (hk:S k=some (some ⟨e2,(int1 m).map .val,row2⟩)):
  ∀ (Y:Nat→Option Obj) (us:List Value),(∀ b o,X b=some o→Y b=some o)→LentLs S Y [.sv (.one (.slc j 0 n1)),.sv (.one (.slc k 0 n2))] us→PSpec Tryz.prog Y 85 (us.map toLV) (Lb r):=by
 subst h1 h2
 intro Y us hY hL
 obtain ⟨u1,us1,rfl,g1,u2,us2,rfl,g2,rfl⟩:=hL
 obtain ⟨b1,blk1,cap1,m1,hq1,rfl,hc1,hf1,hB1⟩:=g1
 obtain ⟨b2,blk2,cap2,m2,hq2,rfl,hc2,hf2,hB2⟩:=g2
 rw [hj] at hq1
 rw [hk] at hq2
 simp only [Option.some.injEq] at hq1 hq2
 subst hq1 hq2
 obtain ⟨arr1,fr1,us1',sp1,hY1,hsz1,harr1,hv1⟩:=hB1
 obtain ⟨arr2,fr2,us2',sp2,hY2,hsz2,harr2,hv2⟩:=hB2
 have:=hv1 (int1 l) rfl
 subst this
 have:=hv2 (int1 m) rfl
 subst this
 exact yEqual Y l m (some ⟨blk1,0,none⟩) (some ⟨blk2,0,none⟩) cap1 cap2 (nms_block hY1 ⟨sp1,harr1⟩) (nms_block hY2 ⟨sp2,harr2⟩) hbig r hr
theorem yNewIds (va vb:Int) (rs:List Rl) (ad:Option Addr) (cap:Nat) (hin:RulesIn X ad rs) (hS:rs.length≤65536):
  MSpec Tryz.prog X 86 [LPg va vb ad rs.length cap] [] (.sv (.one (.slc 1000001 0 rs.length))) [(1000001,some ⟨3,(int1 (rs.map Rl.nw)).map .val,false⟩)]:=by
 refine cG Tryz.func86 rfl V5 rfl rfl V7 rfl rfl ?_
 intro C
 have hmk:slcBuild Tryz.prog 103 rs.length=some (List.replicate rs.length (.int .i64 0),1,3):=slcBuild_one V5 V5 V3
 (refine U10 ?_;refine K.makeSlc (m:=rs.length) (bytes:=8) O O hmk V5 V3 O O dS ?_;refine U11 ?_)
 refine cL (fun m σ=>∃ i:Nat,i≤rs.length∧m=rs.length-i∧σ=⟨[(3,.sv (.one (.slc 9 0 rs.length))),(11,Lx ad rs.length cap),(12,Ln .i64 (rs.length:Nat)),(13,Ln .i64 (i:Nat))],[(9,some ⟨3,(int1 ((rs.take i).map Rl.nw)++List.replicate (rs.length-i) (Value.int .i64 0)).map .val,false⟩)],X⟩) rs.length
  ⟨_,Le.of V8 V13 V2 V2 V0,0,by omega,by omega,rfl⟩ ?_
 rintro m σ ⟨i,hi,rfl,rfl⟩
 by_cases hlt:i<rs.length
 ·obtain ⟨c,hc⟩:=wg hlt
  obtain ⟨blk,off,arr,el,fr,fad,fcap,rfl,hX,hsz,hcs,_,_,_,hF⟩:=hin.get hc
  have hio:=wo off i 3
  have hix:0+Int.toNat (i:Int)*1=i:=by rw [dH];omega
  have hadd:=wi i V3
  have hil:(int1 ((rs.take i).map Rl.nw)).length=i:=by unfold int1;rw [cX,cX,dA];omega
  have hroom:i+1≤((int1 ((rs.take i).map Rl.nw)++List.replicate (rs.length-i) (Value.int .i64 0)).map CV.val).length:=by rw [cX,cW,hil,dF];omega
  have hspl:splice ((int1 ((rs.take i).map Rl.nw)++List.replicate (rs.length-i) (Value.int .i64 0)).map CV.val) i [.val (.int .i64 c.nw)]=(int1 ((rs.take (i+1)).map Rl.nw)++List.replicate (rs.length-(i+1)) (Value.int .i64 0)).map CV.val:=by
   unfold splice
   rw [show rs.length-i=(rs.length-(i+1))+1 by omega,List.replicate_succ,take_snoc hc]
   have e:int1 ((rs.take i++[c]).map Rl.nw)=int1 ((rs.take i).map Rl.nw)++[.int .i64 c.nw]:=by unfold int1;rw [dI,dI];rfl
   rw [e]
   simp only [dI,dN]
   have hml:((int1 ((rs.take i).map Rl.nw)).map CV.val).length=i:=by rw [cX,hil]
   generalize (int1 ((rs.take i).map Rl.nw)).map CV.val=R at *
   rw [← hml,List.take_left,List.drop_length_add_append]
   simp
  (refine U24 ?_;refine K.store O O O O V5 hroom hspl dS ?_;refine U5 ?_)
  exact ⟨_,_,by omega,Le.of V8 V13 V2 V2 V0,i+1,by omega,O,O⟩
 ·have e:i=rs.length:=by omega
  subst e
  rw [dG,Nat.sub_self,List.replicate_zero,dK]
  refine U13 ?_
  exact ⟨[(1000001,9)],⟨[_],⟨O,trivial⟩,O⟩,V1,O,O⟩
def oldB (ids:List Int) (r:Rl):Bool:=r.old != 0 && !(ids.any fun x=>r.old==x)
theorem yOld1 (r:Rl) (ead:Option Addr) (ecap:Nat) (ids:List Int) (iad:Option Addr) (icap:Nat) {b:Nat} {arr:Array Value} {el:TypeId} {fr:Nat×Nat} (hX:X b=some (.cells arr el fr)) (h0:arr[0]? = some (.slice iad ids.length icap)) (hin:NmsIn X iad ids) (hbig:ids.length<4611686018427387904):
  PSpec Tryz.prog X 127 [LPg r.nw r.old ead r.ex.length ecap,Vp' b] (Lb (oldB ids r)):=by
 have hC:=yContains X ids iad icap r.old hin hbig
 refine cF Tryz.func127 rfl V5 rfl rfl ?_
 intro C
 by_cases h:r.old=0
 ·rw [show oldB ids r=false by unfold oldB;rw [h];rfl]
  (refine U9 ?_;refine kne rfl rfl (r:=false) (cT h) ?_;refine U10 ?_)
  exact V6
 ·rw [show oldB ids r = !(ids.any fun x=>r.old==x) by unfold oldB;rw [cU h];rfl]
  (refine U9 ?_;refine kne rfl rfl (r:=true) (cU h) ?_;refine U10 ?_)
  exact V6
theorem yContainsFunc (ad:Option Addr) (cap:Nat) (rs:List Rl) (hin:RulesIn X ad rs) (hbig:rs.length<4611686018427387904) (f:FuncId) (caps:List Value) (p:Rl→Bool)
  (hp:∀ r∈rs,∀ ead ecap,PSpec Tryz.prog X f ([LPg r.nw r.old ead r.ex.length ecap]++caps.map fun v=>.sv (.one (.val v))) (Lb (p r))):
  PSpec Tryz.prog X 126 [Lx ad rs.length cap,Lf f caps] (Lb (rs.any p)):=by
 have hI:=kIndex X ad cap rs hin hbig f caps p hp
 refine cF Tryz.func126 rfl V5 rfl rfl ?_
 intro C
 (refine U9 ?_;refine bD O O (findI_any _ _) dS ?_;refine U3 ?_)
 exact V6
theorem yHasOlds (a:Sc) (p:Pg) (ad1 ad:Option Addr) (cap1 cap:Nat) (ha:CompsIn X ad1 a.cs) (hp:RulesIn X ad p.rs) (hal:a.cs.length≤65536) (hpl:p.rs.length<4611686018427387904):
  PSpec Tryz.prog X 88 [Sx a.ver ad1 a.cs.length cap1,LPg p.va p.vb ad p.rs.length cap] (Lb (!(p.rs.any (oldB (a.cs.map Cp.id))))):=by
 obtain ⟨va,vb,rs⟩:=p
 simp only at hp hpl ⊢
 have hI:=pIds X a.ver ad1 cap1 a.cs ha hal
 rw [idsV_int1] at hI
 refine cF Tryz.func88 rfl V5 rfl rfl ?_
 intro C
 (refine U9 ?_;refine bE [(1000001,601)] (.sv (.one (.slc 601 0 a.cs.length))) [(601,some ⟨3,(int1 (a.cs.map Cp.id)).map .val,false⟩)] (hI) O O VC O O O O O V18 dS ?_;refine U1 ?_;refine bG O O O O O (nl1 O O) dS ?_;refine U2 ?_)
 refine LWP.le (σ':=⟨[(5,Lp 5),(3,Lp 3)],[(5,some ⟨103,[] ++ .slc 601 0 a.cs.length 1::[],false⟩),(601,some ⟨3,(int1 (a.cs.map Cp.id)).map .val,false⟩),v3B 36 3 va vb ad rs.length cap],X⟩) (Le.of VE V9 V2 V2 V0) ?_
 refine LWP.freezeCell O O O O O O fun b1 c1 a1 f1 hn1 _ _ _ hs1 => ?_
 have hM:=nms_block (cN X b1 (.cells a1 3 f1)) hs1
 have hXY:=cJ (o:=.cells a1 3 f1) hn1
 replace hp:=hp.mono hXY
 clear ha hI hs1 hn1 hXY
 generalize withBlock X b1 (.cells a1 3 f1)=Y at *
 generalize (some ⟨b1,0,none⟩:Option Addr)=iad at *
 refine LWP.le (σ':=⟨[(5,Lp 5),(3,Lp 3)],[(5,some ⟨103,[Value.slice iad a.cs.length c1].map .val,false⟩),v3B 36 3 va vb ad rs.length cap],Y⟩) (Le.of VE VE V2 V2 V0) ?_
 refine LWP.freezePtr V31 V31 V31 fun b arr0 fr0 hn _ h0 => ?_
 have hl:(a.cs.map Cp.id).length=a.cs.length:=cX ..
 have hq:=yContainsFunc _ ad cap rs (hp.mono (cJ (o:=.cells arr0 103 fr0) hn)) hpl 127 [.pointer (some ⟨b,0,none⟩)] (oldB (a.cs.map Cp.id)) (fun r _ ead ecap=>yOld1 _ r ead ecap (a.cs.map Cp.id) iad c1 (cN Y b (.cells arr0 103 fr0)) (by rw [hl];exact at_zero h0) (hM.mono (cJ hn)) V3)
 (refine U3 ?_;refine K.makeFunc O O dS ?_;refine U5 ?_)
 exact V6
end Go.Proofs.YtopiioklkkiedaaGreatDoor
end
section
set_option maxHeartbeats 12800000
set_option maxRecDepth 100000
namespace Go.Proofs.YtopiioklkkiedaaGreatDoor
open Go Go.Lg Go.Lg.Fml Go.Lg.Fld Go.Lg.Arith
set_option maxRecDepth 100000
def e4:List UInt8×Bool→Nat×List UInt8×Bool
 | (l,b)=>if b=false∧4≤l.length then (le (l.take 4),l.drop 4,false) else (0,l,true)
structure KE (l:List UInt8) (b:Bool) (c:List Ins) (l':List UInt8) (b':Bool):Prop where
 less:l'.length≤l.length
 bad:b=true→b'=true
 ok:c.length<256∧∀ x∈c,smallI x
 get:(b=false∧b'=false∧getE l=some (c,l'))∨((b=true∨getE l=none)∧(b'=true∨c=[]))
structure KEs (l:List UInt8) (b:Bool) (i:Nat) (cs:List (List Ins)) (l':List UInt8) (b':Bool):Prop where
 len:cs.length=i
 less:l'.length≤l.length
 bad:b=true→b'=true
 ok:∀ c∈cs,c.length<256∧∀ x∈c,smallI x
 get:(b=false∧b'=false∧getEs i l=some (cs,l'))∨((b=true∨∀ k,getEs (i+k) l=none)∧(b'=true∨[]∈cs))
def okK (r:Rl):Prop:=(0≤r.nw∧r.nw<256)∧(0≤r.old∧r.old<256)∧r.ex.length<256∧∀ c∈r.ex,c.length<256∧∀ x∈c,smallI x
structure KR (l:List UInt8) (b:Bool) (r:Rl) (l':List UInt8) (b':Bool):Prop where
 less:l'.length≤l.length
 bad:b=true→b'=true
 ok:okK r
 get:(b=false∧b'=false∧getRl l=some (r,l'))∨((b=true∨getRl l=none)∧(b'=true∨[]∈r.ex))
structure KRs (l:List UInt8) (b:Bool) (i:Nat) (rs:List Rl) (l':List UInt8) (b':Bool):Prop where
 len:rs.length=i
 less:l'.length≤l.length
 bad:b=true→b'=true
 ok:∀ r∈rs,okK r
 get:(b=false∧b'=false∧getRls i l=some (rs,l'))∨((b=true∨∀ k,getRls (i+k) l=none)∧(b'=true∨∃ r∈rs,[]∈r.ex))
variable (X:Nat→Option Obj)
end Go.Proofs.YtopiioklkkiedaaGreatDoor
end
section
set_option maxHeartbeats 12800000
set_option maxRecDepth 100000
namespace Go.Proofs.YtopiioklkkiedaaGreatDoor
open Go Go.Lg Go.Lg.Fml Go.Lg.Fld Go.Lg.Arith
set_option maxRecDepth 100000
def pgOk (p:Pg):Prop:=p.rs.length≤30∧∀ r∈p.rs,r.ex.length≤12∧∀ c∈r.ex,c.length≤80
theorem pgOk.size {p:Pg} (h:pgOk p):sizeR p.rs:=fun r hr=>by
 obtain ⟨h1,h2⟩:=h.2 r hr
 exact ⟨by omega,fun c hc=>by have:=h2 c hc;omega⟩
theorem pgOk.big {p:Pg} (h:pgOk p):p.rs.length<4611686018427387904:=by have:=h.1;omega
variable (X:Nat→Option Obj)
section
variable (p:Pg) (ad:Option Addr) (cap:Nat) (hin:RulesIn X ad p.rs) (hs:pgOk p)
include hin hs
theorem hCheck:PSpec Tryz.prog X 27 [LPg p.va p.vb ad p.rs.length cap] (Ln .i64 (chkP p)):=kCheck X p ad cap hin hs.big hs.size
end
end Go.Proofs.YtopiioklkkiedaaGreatDoor
end
section
set_option maxHeartbeats 12800000
set_option maxRecDepth 100000
namespace Go.Proofs.YtopiioklkkiedaaGreatDoor
open Go Go.Lg Go.Lg.Fml Go.Lg.Fld Go.Lg.Arith
set_option maxRecDepth 100000
theorem oldB_false {cs:List Cp} {r:Rl}:oldB (cs.map Cp.id) r=false↔(r.old=0∨(findC cs r.old).isSome=true):=by
 unfold oldB
 by_cases h:r.old=0
 ·simp [h]
 ·have e:((cs.map Cp.id).any fun x=>r.old==x)=(findC cs r.old).isSome:=by
   unfold findC
   rw [List.any_map]
   cases hf:cs.find? (fun c=>c.id==r.old) with
   | none =>
    rw [List.any_eq_false.2 (fun x hx=>by
     have:=List.find?_eq_none.1 hf x hx
     simp only [beq_iff_eq,Function.comp_apply] at this ⊢
     exact fun e=>this e.symm)]
    rfl
   | some c =>
    obtain ⟨hm,hi⟩:=findC_some hf
    rw [List.any_eq_true.2 ⟨c,hm,by simp [hi]⟩]
    rfl
  rw [e]
  simp [h]
theorem news_iff {a b:Sc} {p:Pg}:(p.rs.map Rl.nw=b.cs.map Cp.id∧p.rs.any (oldB (a.cs.map Cp.id))=false)↔(p.rs.length=b.cs.length∧seqE (nwE a) (p.rs.zip b.cs)=0):=by
 constructor
 ·rintro ⟨h1,h2⟩
  refine ⟨by have:=congrArg List.length h1;simpa using this,seqE_none fun q hq => ?_⟩
  obtain ⟨i,hi⟩:=List.mem_iff_getElem?.1 hq
  obtain ⟨g1,g2⟩:=List.getElem?_zip_eq_some.1 hi
  unfold nwE
  rw [if_pos]
  refine ⟨?_,oldB_false.1 (by simpa using List.any_eq_false.1 h2 q.1 (dE g1))⟩
  have:=congrArg (fun l=>l[i]?) h1
  simp only [dM,g1,g2,Option.map_some,Option.some.injEq] at this
  exact this
 ·rintro ⟨h1,h2⟩
  have hz:=seqE_zero h2
  have key:∀ (i:Nat) (r:Rl) (c:Cp),p.rs[i]? = some r→b.cs[i]? = some c→r.nw=c.id∧(r.old=0∨(findC a.cs r.old).isSome=true):=fun i r c hr hc=>by
   have:=hz (r,c) (dE (zip_two hr hc))
   unfold nwE at this
   split at this
   ·rename_i h;exact h
   ·cases this
  refine ⟨?_,List.any_eq_false.2 fun r hr => ?_⟩
  ·apply List.ext_getElem?
   intro i
   rw [dM,dM]
   by_cases hi:i<p.rs.length
   ·obtain ⟨r,hr⟩:=wg hi
    obtain ⟨c,hc⟩:∃ c,b.cs[i]? = some c:=wg V3
    rw [hr,hc]
    exact congrArg some (key i r c hr hc).1
   ·rw [List.getElem?_eq_none V3,List.getElem?_eq_none V3];rfl
  ·obtain ⟨i,hi⟩:=List.mem_iff_getElem?.1 hr
   have hlt:=(wl hi)
   obtain ⟨c,hc⟩:∃ c,b.cs[i]? = some c:=wg V3
   rw [oldB_false.2 (key i r c hi hc).2]
   decide
def eaE (a b:Sc) (p:Pg):Int:=if chkE a=0 then (if chkE b=0 then chkP p else chkE b) else chkE a
theorem ckE_each {a b:Sc} {p:Pg} (h:eaE a b p≠0):ckE a b p=eaE a b p:=by
 unfold eaE at h ⊢
 unfold ckE
 by_cases h1:chkE a=0
 ·rw [if_pos h1] at h ⊢
  by_cases h2:chkE b=0
  ·rw [if_pos h2] at h ⊢
   rw [if_pos h1,if_pos h2,if_neg h]
  ·rw [if_neg h2] at h ⊢
   rw [if_pos h1,if_neg h2]
 ·rw [if_neg h1,if_neg h1]
theorem eaE_zero {a b:Sc} {p:Pg} (h:eaE a b p=0):chkE a=0∧chkE b=0∧chkP p=0:=by
 unfold eaE at h
 by_cases h1:chkE a=0
 ·rw [if_pos h1] at h
  by_cases h2:chkE b=0
  ·rw [if_pos h2] at h;exact ⟨h1,h2,h⟩
  ·rw [if_neg h2] at h;exact absurd h h2
 ·rw [if_neg h1] at h;exact absurd h h1
theorem ckE_go {a b:Sc} {p:Pg} (h:eaE a b p=0):ckE a b p=if p.va=a.ver∧p.vb=b.ver∧p.va<p.vb then (if p.rs.length=b.cs.length then (if seqE (nwE a) (p.rs.zip b.cs)=0 then seqE (ruC a) (p.rs.zip b.cs) else 6) else 6) else 7:=by
 obtain ⟨h1,h2,h3⟩:=eaE_zero h
 unfold ckE
 rw [if_pos h1,if_pos h2,if_pos h3]
variable (X:Nat→Option Obj)
theorem yEach (a b:Sc) (p:Pg) (ad1 ad2 ad:Option Addr) (cap1 cap2 cap:Nat) (ha:CompsIn X ad1 a.cs) (hb:CompsIn X ad2 b.cs) (hp:RulesIn X ad p.rs) (na:NamesC a.cs) (nb:NamesC b.cs) (hal:a.cs.length<4611686018427387904) (hbl:b.cs.length<4611686018427387904) (sp:pgOk p):
  PSpec Tryz.prog X 84 [Sx a.ver ad1 a.cs.length cap1,Sx b.ver ad2 b.cs.length cap2,LPg p.va p.vb ad p.rs.length cap] (Ln .i64 (eaE a b p)):=by
 have hA:=pCheckBig X a ad1 cap1 ha hal na _ rfl
 have hB:=pCheckBig X b ad2 cap2 hb hbl nb _ rfl
 have hP:=hCheck X p ad cap hp sp
 refine cF Tryz.func84 rfl V5 rfl rfl ?_
 intro C
 unfold eaE
 by_cases h1:chkE a=0
 case neg =>
  rw [if_neg h1]
  generalize chkE a=e at *
  (refine U17 ?_;refine kne rfl rfl (r:=true) (cU h1) ?_;refine U8 ?_)
  exact V6
 rw [if_pos h1]
 rw [h1] at hA
 by_cases h2:chkE b=0
 case neg =>
  rw [if_neg h2]
  generalize chkE b=e at *
  (refine U31 ?_;refine kne rfl rfl (r:=true) (cU h2) ?_;refine U8 ?_)
  exact V6
 rw [if_pos h2]
 rw [h2] at hB
 generalize chkP p=e at *
 refine U42 ?_
 exact V6
abbrev ycSt (a b:Sc) (p:Pg) (ad1 ad2 ad:Option Addr) (cap1 cap2 cap i:Nat) (Y:Nat→Option Obj):St:=
 ⟨[(3,Lp 3),(4,Lp 4),(54,Lx ad p.rs.length cap),(55,Ln .i64 (p.rs.length:Nat)),(56,Ln .i64 (i:Nat))],[sxB 4 b.ver ad2 b.cs.length cap2,sxB 3 a.ver ad1 a.cs.length cap1],Y⟩
set_option maxHeartbeats 12800000 in
theorem yCheck (a b:Sc) (p:Pg) (ad1 ad2 ad:Option Addr) (cap1 cap2 cap:Nat) (ha:CompsIn X ad1 a.cs) (hb:CompsIn X ad2 b.cs) (hp:RulesIn X ad p.rs) (na:NamesC a.cs) (nb:NamesC b.cs) (sa:a.cs.length≤30∧∀ c∈a.cs,c.fs.length≤12) (sb:b.cs.length≤30∧∀ c∈b.cs,c.fs.length≤12) (sp:pgOk p):
  PSpec Tryz.prog X 46 [Sx a.ver ad1 a.cs.length cap1,Sx b.ver ad2 b.cs.length cap2,LPg p.va p.vb ad p.rs.length cap] (Ln .i64 (ckE a b p)):=by
 obtain ⟨sa1,sa2⟩:=sa
 obtain ⟨sb1,sb2⟩:=sb
 have sp1:=sp.1
 have hE:=yEach X a b p ad1 ad2 ad cap1 cap2 cap ha hb hp na nb V3 V3 sp
 refine cF Tryz.func46 rfl V5 rfl rfl ?_
 intro C
 by_cases h0:eaE a b p=0
 case neg =>
  rw [ckE_each h0]
  generalize eaE a b p=e at *
  (refine U19 ?_;refine kne rfl rfl (r:=true) (cU h0) ?_;refine U8 ?_)
  exact V6
 rw [ckE_go h0]
 rw [h0] at hE
 by_cases c1:p.va=a.ver
 case neg =>
  rw [if_neg (fun h=>c1 h.1)]
  (refine U31 ?_;refine kne rfl rfl (r:=true) (cU c1) ?_;refine U22 ?_)
  exact V6
 by_cases c2:p.vb=b.ver
 case neg =>
  rw [if_neg (fun h=>c2 h.2.1)]
  (refine U31 ?_;refine kne O O (r:=false) (cT c1) ?_;refine U5 ?_;refine aX O O (r:=true) (cU c2) (dT O O) ?_;refine U16 ?_)
  exact V6
 by_cases c3:p.va<p.vb
 case neg =>
  rw [if_neg (fun h=>c3 h.2.2)]
  (refine U31 ?_;refine kne O O (r:=false) (cT c1) ?_;refine U5 ?_;refine aX O O (r:=false) (cT c2) (dT O O) ?_;refine U6 ?_;refine bD O O (cP V3) (dT O O) ?_;refine U9 ?_)
  exact V6
 rw [if_pos ⟨c1,c2,c3⟩]
 have hN:=yNewIds X p.va p.vb p.rs ad cap hp V3
 have hI:=pIds X b.ver ad2 cap2 b.cs hb V3
 rw [idsV_int1] at hI
 have hO:=yHasOlds X a p ad1 ad cap1 cap ha hp V3 V3
 by_cases d1:p.rs.map Rl.nw=b.cs.map Cp.id
 case neg =>
  have hr:(if p.rs.length=b.cs.length then (if seqE (nwE a) (p.rs.zip b.cs)=0 then seqE (ruC a) (p.rs.zip b.cs) else 6) else (6:Int))=6:=by
   by_cases e1:p.rs.length=b.cs.length
   ·rw [if_pos e1]
    by_cases e2:seqE (nwE a) (p.rs.zip b.cs)=0
    ·exact absurd (news_iff.2 ⟨e1,e2⟩).1 d1
    ·rw [if_neg e2]
   ·rw [if_neg e1]
  rw [hr]
  have hQ:=fun (S:Nat→Option (Option Box)) h1 h2=>equal_lent X (S:=S) (l:=p.rs.map Rl.nw) (m:=b.cs.map Cp.id) (j:=601) (k:=602) (n1:=p.rs.length) (n2:=b.cs.length) (e1:=3) (e2:=3) (row1:=false) (row2:=false) V29 (cO d1) (cX ..).symm (cX ..).symm h1 h2
  ((refine U31 ?_;refine kne O O (r:=false) (cT c1) ?_;refine U5 ?_;refine aX O O (r:=false) (cT c2) (dT O O) ?_);(refine U12 ?_;refine rgD mixed ?_;refine U1 ?_;refine bE [(1000001,601)] (.sv (.one (.slc 601 0 p.rs.length))) [(601,some ⟨3,(int1 (p.rs.map Rl.nw)).map .val,false⟩)] (hN) O O VC O O O O O V18 dS ?_;refine U1 ?_;refine bE [(1000001,602)] (.sv (.one (.slc 602 0 b.cs.length))) [(602,some ⟨3,(int1 (b.cs.map Cp.id)).map .val,false⟩)] (hI) O O VC O O O O O V18 dS<|K.callL [601,602] O O O (hQ _ O O) dS ?_;refine U16 ?_))
  exact V6
 have hQ:=fun (S:Nat→Option (Option Box)) h1 h2=>equal_lent X (S:=S) (l:=p.rs.map Rl.nw) (m:=b.cs.map Cp.id) (j:=601) (k:=602) (n1:=p.rs.length) (n2:=b.cs.length) (e1:=3) (e2:=3) (row1:=false) (row2:=false) V29 (cP d1) (cX ..).symm (cX ..).symm h1 h2
 cases d2:p.rs.any (oldB (a.cs.map Cp.id)) with
 | true =>
  have hr:(if p.rs.length=b.cs.length then (if seqE (nwE a) (p.rs.zip b.cs)=0 then seqE (ruC a) (p.rs.zip b.cs) else 6) else (6:Int))=6:=by
   by_cases e1:p.rs.length=b.cs.length
   ·rw [if_pos e1]
    by_cases e2:seqE (nwE a) (p.rs.zip b.cs)=0
    ·exact absurd (news_iff.2 ⟨e1,e2⟩).2 (by rw [d2];decide)
    ·rw [if_neg e2]
   ·rw [if_neg e1]
  rw [hr]
  rw [d2] at hO
  ((refine U31 ?_;refine kne O O (r:=false) (cT c1) ?_;refine U5 ?_;refine aX O O (r:=false) (cT c2) (dT O O) ?_);(refine U12 ?_;refine rgD mixed ?_;refine U1 ?_;refine bE [(1000001,601)] (.sv (.one (.slc 601 0 p.rs.length))) [(601,some ⟨3,(int1 (p.rs.map Rl.nw)).map .val,false⟩)] (hN) O O VC O O O O O V18 dS ?_;refine U1 ?_;refine bE [(1000001,602)] (.sv (.one (.slc 602 0 b.cs.length))) [(602,some ⟨3,(int1 (b.cs.map Cp.id)).map .val,false⟩)] (hI) O O VC O O O O O V18 dS<|K.callL [601,602] O O O (hQ _ O O) dS ?_;refine U6 ?_);(refine U10 ?_))
  exact V6
 | false =>
 obtain ⟨e1,e2⟩:=news_iff.1 ⟨d1,d2⟩
 rw [if_pos e1,if_pos e2]
 rw [d2] at hO
 ((refine U31 ?_;refine kne O O (r:=false) (cT c1) ?_;refine U5 ?_;refine aX O O (r:=false) (cT c2) (dT O O) ?_);(refine U12 ?_;refine rgD mixed ?_;refine U1 ?_;refine bE [(1000001,601)] (.sv (.one (.slc 601 0 p.rs.length))) [(601,some ⟨3,(int1 (p.rs.map Rl.nw)).map .val,false⟩)] (hN) O O VC O O O O O V18 dS ?_;refine U1 ?_;refine bE [(1000001,602)] (.sv (.one (.slc 602 0 b.cs.length))) [(602,some ⟨3,(int1 (b.cs.map Cp.id)).map .val,false⟩)] (hI) O O VC O O O O O V18 dS<|K.callL [601,602] O O O (hQ _ O O) dS ?_;refine U6 ?_);(refine U15 ?_))
 clear hE hN hI hO hQ
 have hzl:(p.rs.zip b.cs).length=p.rs.length:=by rw [List.length_zip];omega
 refine cL (fun m σ=>∃ i:Nat,i≤p.rs.length∧m=p.rs.length-i∧(∀ j,0≤j→j<i→atE (ruC a) (p.rs.zip b.cs) j=0)∧σ=ycSt a b p ad1 ad2 ad cap1 cap2 cap i X) p.rs.length
  ⟨ycSt a b p ad1 ad2 ad cap1 cap2 cap 0 X,Le.of V10 VE V2 V2 V0,0,by omega,by omega,fun j _ hj=>absurd hj V3,rfl⟩ ?_
 rintro m σ ⟨i,hi,rfl,hpre,rfl⟩
 by_cases hlt:i<p.rs.length
 case neg =>
  rw [show seqE (ruC a) (p.rs.zip b.cs)=0 from firstE_none fun j h1 h2=>hpre j h1 (by omega)]
  refine U12 ?_
  exact V6
 obtain ⟨r,hr⟩:=wg hlt
 obtain ⟨c,hc⟩:∃ c,b.cs[i]? = some c:=wg V3
 obtain ⟨rb,ro,rarr,rel,rfr,ead,ecap,rfl,hRX,hRz,hRc,_,_,_,hRE⟩:=hp.get hr
 have hior:=wo ro i 3
 refine U19 ?_
 refine LWP.le (σ':=⟨[(3,Lp 3),(4,Lp 4),(54,Lx (some ⟨rb,ro,none⟩) p.rs.length cap),(55,Ln .i64 (p.rs.length:Nat)),(56,Ln .i64 (i:Nat)),(8,Ln .i64 (i:Nat)),(9,Lp 9)],[v3B 27 9 r.nw r.old ead r.ex.length ecap,sxB 4 b.ver ad2 b.cs.length cap2,sxB 3 a.ver ad1 a.cs.length cap1],X⟩) (Le.of V14 V9 V2 V2 V0) ?_
 repeat refine aA ?_
 refine LWP.meetL (fun σ=>∃ (Y:Nat→Option Obj) (w:Cp) (fad:Option Addr) (fcap:Nat),(∀ b x,X b=some x→Y b=some x)∧w.fs=flC a r.old∧FieldsIn Y fad w.fs∧σ=⟨[(3,Lp 3),(4,Lp 4),(54,Lx (some ⟨rb,ro,none⟩) p.rs.length cap),(55,Ln .i64 (p.rs.length:Nat)),(56,Ln .i64 (i:Nat)),(8,Ln .i64 (i:Nat)),(9,Lp 9),(10,Lp 10)],[cpB 10 w fad fcap,v3B 27 9 r.nw r.old ead r.ex.length ecap,sxB 4 b.ver ad2 b.cs.length cap2,sxB 3 a.ver ad1 a.cs.length cap1],Y⟩) ?_ ?_
 ·cases ho:findC a.cs r.old with
  | none =>
   have hf:=pFind_no X a.ver ad1 cap1 a.cs r.old ha V3 (findC_no ho)
   refine U12 ?_
   exact Leads.here (Le.of V15 V8 V2 V2 V0) ⟨X,⟨0,[],[]⟩,none,0,fun _ _ h=>h,by unfold flC;rw [ho],fields_none rfl,rfl⟩
  | some o =>
   obtain ⟨k,hk,hid,hpr⟩:=findC_at ho
   have hw:o.fs=flC a r.old:=by unfold flC;rw [ho]
   rcases pFind X a.ver ad1 cap1 a.cs r.old ha V3 (fun c hc=>by have:=sa2 c hc;omega) hpr hk hid with ⟨h0,hf⟩|hf
   ·have hl:o.fs.length=0:=by rw [h0];rfl
    refine U12 ?_
    exact Leads.here (Le.of V15 V8 V2 V2 V0) ⟨X,o,none,0,fun _ _ h=>h,hw,fields_none h0,O⟩
   ·obtain ⟨_,_,_,_,_,_,_,_,_,_,_,_,_,_,hoF⟩:=ha.get hk
    (refine U4 ?_;refine bE [(1000001,601)] (.tup [SCs o 601,Sb true]) [fdB 601 o.fs] (hf) O O VC O O O O O V18 dS ?_;refine U7 ?_)
    refine cE (σ':=⟨[(3,Lp 3),(4,Lp 4),(54,Lx (some ⟨rb,ro,none⟩) p.rs.length cap),(55,Ln .i64 (p.rs.length:Nat)),(56,Ln .i64 (i:Nat)),(8,Ln .i64 (i:Nat)),(9,Lp 9),(10,Lp 10)],[(10,some ⟨24,[.val (.int .i64 o.id),.val (.string ⟨o.nm.toArray⟩)] ++ .slc 601 0 o.fs.length 3::[],false⟩),fdB 601 o.fs,v3B 27 9 r.nw r.old ead r.ex.length ecap,sxB 4 b.ver ad2 b.cs.length cap2,sxB 3 a.ver ad1 a.cs.length cap1],X⟩) (Le.of V15 V10 V2 V2 V0) ?_
    refine Leads.freezeCell O O O O O O fun blk cp arr fr hn _ _ _ hsp => ?_
    obtain ⟨sp',hsp⟩:=hsp
    exact cE (Le.of V15 V8 V2 V2 V0) (cD ⟨_,o,some ⟨blk,0,none⟩,cp,cJ hn,hw,fields_block (cN _ _ _) hsp hoF.small,O⟩)
 rintro σ ⟨Y,w,fad,fcap,hXY,hw,hF,rfl⟩
 have hwl:w.fs.length≤12:=by
  rw [hw]
  unfold flC
  split
  ·rename_i o ho;exact sa2 o (findC_some ho).1
  ·exact Nat.zero_le _
 obtain ⟨cb,co,carr,cel,cfr,cad,ccap,rfl,hCX,hCz,hCc,_,_,_,hCF⟩:=hb.get hc
 have hioc:=wo co i 3
 have hCY:=hXY _ _ hCX
 have hadd:IntKind.i64.wrap ((i:Int)+1)=((i+1:Nat):Int):=by rw [cH V3];omega
 have hcl:=sb2 c (dE hc)
 have hq:=yRule Y w c r fad cad ead fcap ccap ecap hF (hCF.mono hXY) (hRE.mono hXY) V3 V3 (fun q hq=>by have:=(sp.2 r (dE hr)).2 q hq;omega)
 have hat:atE (ruC a) (p.rs.zip b.cs) i=ruE w.fs c.fs r:=by rw [atE_at (zip_two hr hc),hw];rfl
 by_cases he:ruE w.fs c.fs r=0
 ·rw [he] at hq
  (refine aA<|rgD mixed ?_;refine U22 ?_)
  exact ⟨_,ycSt a b p ad1 (some ⟨cb,co,none⟩) (some ⟨rb,ro,none⟩) cap1 cap2 cap (i+1) X,by omega,(by refine Le.trans ?_ (Le.drop hXY);exact Le.of V10 VE V2 V2 V0),i+1,by omega,O,(fun j h0 hj=>by
   by_cases e:j=i
   ·rw [e,hat];exact he
   ·exact hpre j h0 V3),rfl⟩
 ·rw [show seqE (ruC a) (p.rs.zip b.cs)=ruE w.fs c.fs r from firstE_some hpre (Nat.zero_le _) V3 hat he]
  generalize ruE w.fs c.fs r=e at *
  (refine aA<|rgD mixed ?_;refine U14 ?_;refine kne O O (r:=true) (cU he) ?_;refine U8 ?_)
  exact V6
end Go.Proofs.YtopiioklkkiedaaGreatDoor
end
section
set_option maxHeartbeats 12800000
set_option maxRecDepth 100000
namespace Go.Proofs.YtopiioklkkiedaaGreatDoor
open Go Go.Lg Go.Lg.Fml Go.Lg.Fld Go.Lg.Arith
set_option maxRecDepth 100000
def scOk (cs:List Cp):Prop:=cs.length≤30∧∀ c∈cs,c.fs.length≤12
def scBig (cs:List Cp):Prop:=cs.length≤4398046511104∧∀ c∈cs,c.fs.length≤4398046511104
theorem scOk.names {cs:List Cp} (h:scOk cs) (hn:NamesIn cs):NamesC cs:=fun c hc=>⟨by have:=h.2 c hc;omega,hn c hc⟩
variable (X:Nat→Option Obj)
theorem cRule (a b:Cp) (r:Rl) (aad bad ead:Option Addr) (acap bcap ecap:Nat) (hA:FieldsIn X aad a.fs) (hB:FieldsIn X bad b.fs) (hE:CodesIn X ead r.ex) (hal:a.fs.length<4611686018427387904) (hbl:b.fs.length<4611686018427387904) (hcl:∀ c∈r.ex,c.length<1152921504606846976):
  PSpec Tryz.prog X 67 [Cx a aad acap,Cx b bad bcap,.sv (.agg [.val (.int .i64 r.nw),.val (.int .i64 r.old),.val (.slice ead r.ex.length ecap)])] (Ln .i64 (ruE a.fs b.fs r)):=yRule X a b r aad bad ead acap bcap ecap hA hB hE hal hbl hcl
theorem cCheck (a b:Sc) (p:Pg) (ad1 ad2 ad:Option Addr) (cap1 cap2 cap:Nat) (ha:CompsIn X ad1 a.cs) (hb:CompsIn X ad2 b.cs) (hp:RulesIn X ad p.rs) (na:NamesIn a.cs) (nb:NamesIn b.cs) (sa:scOk a.cs) (sb:scOk b.cs) (sp:p.rs.length≤30∧∀ r∈p.rs,r.ex.length≤12∧∀ c∈r.ex,c.length≤80):
  PSpec Tryz.prog X 46 [Sx a.ver ad1 a.cs.length cap1,Sx b.ver ad2 b.cs.length cap2,LPg p.va p.vb ad p.rs.length cap] (Ln .i64 (ckE a b p)):=yCheck X a b p ad1 ad2 ad cap1 cap2 cap ha hb hp (sa.names na) (sb.names nb) sa sb sp
end Go.Proofs.YtopiioklkkiedaaGreatDoor
end
section
set_option maxHeartbeats 12800000
set_option maxRecDepth 100000
namespace Go.Proofs.YtopiioklkkiedaaGreatDoor
open Go Go.Lg Go.Lg.Fml Go.Lg.Fld Go.Lg.Arith
set_option maxRecDepth 100000
def valA (a b:List Fl) (r:Rl) (ns:List Nm):List Nm:=if valE a b r ns=0 then valN a b r ns else []
def psA (a b:Sc) (p:Pg) (ps:List Pt):List Pt:=if psE a b p ps=0 then psV a b p ps else []
def vShape (e:Int) (_:List Nm):Bool:=e==0
def vRow (_:List Nm):Bool:=true
def pShape (e:Int) (_:List Pt):Bool:=e==0
theorem vShape_nil {a b:List Fl} {r:Rl} {ns:List Nm} (h:vShape (valE a b r ns) (valA a b r ns)=false):valA a b r ns=[]:=if_neg (by unfold vShape at h;simpa using h)
theorem pShape_nil {a b:Sc} {p:Pg} {ps:List Pt} (h:pShape (psE a b p ps) (psA a b p ps)=false):psA a b p ps=[]:=if_neg (by unfold pShape at h;simpa using h)
def prtR (t:TypeId) (ps:List Pt):Rsc:=⟨fun ρ H=>(∃ (arr:Array Value) (fr:Nat×Nat),H ρ.1=some (.cells arr t fr)∧arr.size=ρ.2)∧PartsIn H (some ⟨ρ.1,0,none⟩) ps⟩
abbrev prtB (k:Nat) (ps:List Pt):Nat×Option Box:=(k,some ⟨0,[],.res (prtR 59 ps)⟩)
abbrev nmsB (k:Nat) (l:List Nm) (row:Bool):Nat×Option Box:=(k,some ⟨86,(nmsV l).map .val,row⟩)
structure PartsC (X:Nat→Option Obj) (ad:Option Addr) (ps:List Pt):Prop where
 at_:∀ (i:Nat) (p:Pt),ps[i]? = some p→∃ (blk off:Nat) (arr:Array Value) (el:TypeId) (fr:Nat×Nat) (vad:Option Addr) (vcap:Nat),ad=some ⟨blk,off,none⟩∧X blk=some (.cells arr el fr)∧off+i*2+2≤arr.size ∧
  (arr.toList.drop (off+i*2)).take 2=[.int .i64 p.comp,.slice vad p.val.length vcap]∧NumsIn X vad p.val∧p.val.length≤vcap
 small:∀ p∈ps,-9223372036854775808≤p.comp∧p.comp<9223372036854775808
theorem PartsC.parts {X:Nat→Option Obj} {ad:Option Addr} {ps:List Pt} (h:PartsC X ad ps):PartsIn X ad ps:=⟨fun i p hp=>by
 obtain ⟨blk,off,arr,el,fr,vad,vcap,h1,h2,h3,h4,h5,_⟩:=h.at_ i p hp
 exact ⟨blk,off,arr,el,fr,vad,vcap,h1,h2,h3,h4,h5⟩,h.small⟩
theorem PartsC.mono {X Y:Nat→Option Obj} (hXY:∀ b o,X b=some o→Y b=some o) {ad:Option Addr} {ps:List Pt} (h:PartsC X ad ps):PartsC Y ad ps:=⟨fun i p hp=>by
 obtain ⟨blk,off,arr,el,fr,vad,vcap,h1,h2,h3,h4,h5,h6⟩:=h.at_ i p hp
 exact ⟨blk,off,arr,el,fr,vad,vcap,h1,hXY _ _ h2,h3,h4,⟨h5.rows.mono hXY,h5.in2⟩,h6⟩,h.small⟩
theorem PartsC.get {X:Nat→Option Obj} {ad:Option Addr} {ps:List Pt} (h:PartsC X ad ps) {i:Nat} {p:Pt} (hc:ps[i]? = some p):∃ (blk off:Nat) (arr:Array Value) (el:TypeId) (fr:Nat×Nat) (vad:Option Addr) (vcap:Nat),ad=some ⟨blk,off,none⟩∧X blk=some (.cells arr el fr)∧off+i*2+2≤arr.size ∧
  ((arr.toList.drop (off+i*2)).take 2).map CV.val=[.val (.int .i64 p.comp),.val (.slice vad p.val.length vcap)]∧arr[off+i*2]? = some (.int .i64 p.comp)∧arr[off+i*2+1]? = some (.slice vad p.val.length vcap)∧NumsIn X vad p.val∧p.val.length≤vcap:=by
 obtain ⟨blk,off,arr,el,fr,vad,vcap,h1,h2,h3,h4,h5,h6⟩:=h.at_ i p hc
 obtain ⟨g1,g2⟩:=two_at h4
 exact ⟨blk,off,arr,el,fr,vad,vcap,h1,h2,h3,by rw [h4];rfl,g1,g2,h5,h6⟩
end Go.Proofs.YtopiioklkkiedaaGreatDoor
end
