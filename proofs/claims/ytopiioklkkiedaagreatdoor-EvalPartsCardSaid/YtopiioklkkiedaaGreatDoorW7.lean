/- A piece of a proof over this program: contracts of its functions, and a logic to prove them by. -/
import Derived.Test.YtopiioklkkiedaaGreatDoorW7b
section
set_option maxHeartbeats 12800000
set_option maxRecDepth 100000
namespace Go.Proofs.YtopiioklkkiedaaGreatDoor
open Go Go.Lg Go.Lg.Fml Go.Lg.Fld Go.Lg.Arith
set_option maxRecDepth 100000
theorem evX_two {l:List Ins} {fs:List (List Nm)} {at_:Int} {v:Nm} (hl:∀ x∈l,In2 x.k.2) (hf:∀ r∈fs,∀ u∈r,In2 u.2) (hat:at_<9223372036854775808) (h:evX l fs at_ = .ok v):In2 v.2:=by
 by_cases hz:chkX l=0
 ·obtain ⟨t,ht,e⟩:=parse (chkX_zero hz).2
  rw [evX_tree hz ht e] at h
  cases hev:t.ev (oneX fs at_) with
  | error e'=>rw [hev] at h;cases h
  | ok u =>
   rw [hev] at h
   simp only at h
   split at h
   ·cases h;exact tree_in2 hf hat (fun x hx=>hl x (by rw [← e];exact hx)) hev
   ·cases h
 ·rw [show evX l fs at_ = .error (chkX l) from if_neg hz] at h;cases h
def subA (vad:Option Addr) (s:Nat):Option Addr:=vad.map fun a=>⟨a.block,a.off+s*3,a.spot⟩
def subV (vad:Option Addr) (vcap:Nat):Nat→List Fl→List Value
 | _,[]=>[]
 | s,f::t=>.slice (subA vad s) f.n (vcap-s)::subV vad vcap (s+f.n) t
theorem subV_snoc (vad:Option Addr) (vcap:Nat) (f:Fl):∀ (l:List Fl) (s:Nat),subV vad vcap s (l++[f])=subV vad vcap s l++[.slice (subA vad (s+sumC l)) f.n (vcap-(s+sumC l))]
 | [],s=>by simp [subV,sumC]
 | g::t,s=>by
  have e:s+sumC (g::t)=s+g.n+sumC t:=by simp [sumC];omega
  simp only [List.cons_append,subV,subV_snoc vad vcap f t,e]
theorem subV_len (vad:Option Addr) (vcap:Nat):∀ (l:List Fl) (s:Nat),(subV vad vcap s l).length=l.length
 | [],_=>rfl
 | g::t,s=>by simp only [subV,dJ,subV_len vad vcap t]
theorem subV_at (vad:Option Addr) (vcap:Nat):∀ {l:List Fl} {s i:Nat} {f:Fl},l[i]? = some f→(subV vad vcap s l)[i]? = some (.slice (subA vad (s+sumC (l.take i))) f.n (vcap-(s+sumC (l.take i))))
 | g::t,s,0,f,h=>by
  simp only [List.getElem?_cons_zero,Option.some.injEq] at h
  subst h
  simp [subV,sumC]
 | g::t,s,i+1,f,h=>by
  simp only [List.getElem?_cons_succ] at h
  have:=subV_at vad vcap (s:=s+g.n) h
  have e:s+sumC ((g::t).take (i+1))=s+g.n+sumC (t.take i):=by simp [sumC];omega
  rw [e]
  exact this
 | [],_,_,_,h=>by simp at h
theorem nums_sub {X:Nat→Option Obj} {vad:Option Addr} {ns:List Nm} (h:NumsIn X vad ns) (s n:Nat):NumsIn X (subA vad s) ((ns.drop s).take n):=⟨fun i r hr=>by
 rw [List.map_take,List.map_drop,List.getElem?_take] at hr
 split at hr
 ·rw [List.getElem?_drop] at hr
  obtain ⟨blk,off,arr,el,fr,rfl,h2,h3,h4⟩:=h.rows (s+i) r hr
  refine ⟨blk,off+s*3,arr,el,fr,O,h2,by omega,?_⟩
  rw [show off+s*3+i*3=off+(s+i)*3 by omega]
  exact h4
 ·simp at hr,fun u hu=>h.in2 u (List.mem_of_mem_drop (List.mem_of_mem_take hu))⟩
theorem fss_block {Y:Nat→Option Obj} {blk:Nat} {arr:Array Value} {el:TypeId} {fr:Nat×Nat} {vad:Option Addr} {vcap:Nat} {fs:List Fl} {ns:List Nm} (hY:Y blk=some (.cells arr el fr)) (h:∃ sp,arr.toList=subV vad vcap 0 fs++sp) (hn:NumsIn Y vad ns) (hl:ns.length=sumC fs):FssIn Y (some ⟨blk,0,none⟩) (cutN fs ns):=⟨fun i r hr=>by
 obtain ⟨sp,h⟩:=h
 have hi:=(wl hr)
 rw [cutN_len] at hi
 obtain ⟨f,hf⟩:=wg hi
 rw [cut_at hf] at hr
 cases hr
 have hs:=sum_take hf
 have hlen:((ns.drop (sumC (fs.take i))).take f.n).length=f.n:=by rw [dA,dC];omega
 have hv:=subV_at vad vcap (s:=0) hf
 rw [Nat.zero_add] at hv
 have hsz:arr.size=fs.length+sp.length:=by rw [← Array.length_toList,h,cW,subV_len]
 refine ⟨blk,0,arr,el,fr,subA vad (sumC (fs.take i)),vcap-sumC (fs.take i),O,hY,by omega,?_,nums_sub hn _ _⟩
 rw [← Array.getElem?_toList,h,Nat.zero_add,dR (by rw [subV_len];exact hi),hv,hlen]⟩
theorem sum_pos {fs:List Fl} (h:fs.all Fl.ok=true) {i:Nat} {f:Fl} (hf:fs[i]? = some f):1≤f.n∧f.n≤8∧(f.n:Int)=f.count:=(ok_w (List.all_eq_true.1 h f (dE hf))).2
def vR14 (e:Int) (L:List Nm):LV:=if e=0 then .tup [.one (.slc 1000001 0 L.length 3),Sn .i64 0] else .tup [Vnil,Sn .i64 e]
def vBx14 (e:Int) (L:List Nm):List (Nat×Option Box):=if e=0 then [nmsB 1000001 L (Nat.blt 0 L.length)] else []
def ptZ:List Pt→List Value→List Value
 | p::ps,v::vs=>.int .i64 p.comp::v::ptZ ps vs
 | _,_=>[]
theorem ptZ_len:∀ {rs:List Pt} {ws:List Value},ws.length=rs.length→(ptZ rs ws).length=rs.length*2
 | [],[],_=>rfl
 | c::cs,v::vs,h=>by
  simp only [ptZ,dJ] at h ⊢
  rw [ptZ_len (rs:=cs) (ws:=vs) (by omega)];omega
 | [],_::_,h=>by simp at h
 | _::_,[],h=>by simp at h
theorem ptZ_add:∀ {rs:List Pt} {ws:List Value} {r:Pt} {v:Value},ws.length=rs.length→ptZ (rs++[r]) (ws++[v])=ptZ rs ws++[.int .i64 r.comp,v]
 | [],[],_,_,_=>rfl
 | c::cs,w::ws,r,v,h=>by
  simp only [dJ] at h
  simp only [List.cons_append,ptZ]
  rw [ptZ_add (rs:=cs) (ws:=ws) (by omega)]
 | [],_::_,_,_,h=>by simp at h
 | _::_,[],_,_,h=>by simp at h
theorem ptZ_at:∀ {i:Nat} {rs:List Pt} {ws sp:List Value} {r:Pt} {w:Value},rs[i]? = some r→ws[i]? = some w→((ptZ rs ws++sp).drop (i*2)).take 2=[.int .i64 r.comp,w]
 | 0,c::cs,v::vs,sp,r,w,h1,h2=>by
  simp only [List.getElem?_cons_zero,Option.some.injEq] at h1 h2
  subst h1 h2
  rfl
 | i+1,c::cs,v::vs,sp,r,w,h1,h2=>by
  simp only [List.getElem?_cons_succ] at h1 h2
  have:=ptZ_at (sp:=sp) h1 h2
  rw [show (i+1)*2=i*2+2 by omega]
  exact this
 | _,[],_,_,_,_,h,_=>by simp at h
 | _,_::_,[],_,_,_,_,h=>by simp at h
structure PartsH (H:Nat→Option Obj) (ws:List Value) (ps:List Pt):Prop where
 len:ws.length=ps.length
 at_:∀ (i:Nat) (w:Value) (p:Pt),ws[i]? = some w→ps[i]? = some p→∃ (vad:Option Addr) (vcap:Nat),w = .slice vad p.val.length vcap∧NumsIn H vad p.val
theorem PartsH.nil {H:Nat→Option Obj}:PartsH H [] []:=⟨rfl,fun i v c h=>by simp at h⟩
theorem PartsH.mono {H H':Nat→Option Obj} (hH:∀ b o,H b=some o→H' b=some o) {vs:List Value} {cs:List Pt} (G:PartsH H vs cs):PartsH H' vs cs:=⟨G.len,fun i v c hv hc=>by
 obtain ⟨vad,vcap,h1,h2⟩:=G.at_ i v c hv hc
 exact ⟨vad,vcap,h1,h2.rows.mono hH,h2.in2⟩⟩
theorem PartsH.push {H:Nat→Option Obj} {vs:List Value} {cs:List Pt} (G:PartsH H vs cs) {v:Value} {c:Pt} (hv:∃ (vad:Option Addr) (vcap:Nat),v = .slice vad c.val.length vcap∧NumsIn H vad c.val):PartsH H (vs++[v]) (cs++[c]):=⟨by rw [cW,cW,G.len];rfl,fun i w d hw hd=>by
 have hl:=G.len
 rcases snoc_get hw with ⟨h1,h2⟩|⟨h1,rfl⟩
 ·rcases snoc_get hd with ⟨h3,h4⟩|⟨h3,_⟩
  ·exact G.at_ i w d h2 h4
  ·omega
 ·rcases snoc_get hd with ⟨h3,_⟩|⟨_,rfl⟩
  ·omega
  ·exact hv⟩
def smallP (p:Pt):Prop := -9223372036854775808≤p.comp∧p.comp<9223372036854775808
theorem prt_block {Y:Nat→Option Obj} {blk:Nat} {arr:Array Value} {el:TypeId} {fr:Nat×Nat} {ws sp:List Value} {rs:List Pt} (hY:Y blk=some (.cells arr el fr)) (h:arr.toList=ptZ rs ws++sp) (G:PartsH Y ws rs) (hs:∀ r∈rs,smallP r):PartsIn Y (some ⟨blk,0,none⟩) rs:=⟨fun i r hr=>by
 have hi:=(wl hr)
 have hl:=G.len
 obtain ⟨v,hv⟩:∃ v,ws[i]? = some v:=wg V3
 obtain ⟨ead,ecap,h1,h2⟩:=G.at_ i v r hv hr
 have hsz:arr.size=rs.length*2+sp.length:=by rw [← Array.length_toList,h,cW,ptZ_len hl]
 refine ⟨blk,0,arr,el,fr,ead,ecap,O,hY,by omega,?_,h2⟩
 rw [h,Nat.zero_add,ptZ_at hr hv,h1],hs⟩
section
variable {n:Nat} {C:Ctx} {X:Nat→Option Obj} {s:List (Nat×LV)} {bx:List (Nat×Option Box)} {k:Nat}
theorem prt_shut {Mid:St→Prop} {t:TypeId} {rs:List Pt} {H:Nat→Option Obj} {ws sp:List Value} (hO:OwnedM C X H) (G:PartsH H ws rs) (hs:∀ r∈rs,smallP r)
  (h:Leads n C Mid ⟨s,(k,some ⟨0,[],.res (prtR t rs)⟩)::bx,X⟩):Leads n C Mid ⟨s,(k,some ⟨t,(ptZ rs ws++sp).map .val,false⟩)::bx,joinM X H⟩:=by
 refine Leads.closeRes (vals:=ptZ rs ws++sp) hO (fun ρ fr h1 h2 h3 => ?_) h
 refine ⟨⟨_,fr,cN _ _ _,by rw [h3];simp⟩,?_⟩
 exact prt_block (cN _ _ _) (by simp;rfl) (G.mono (cJ h1)) hs
end
theorem nms_leads {H:Nat→Option Obj} {b:Nat} {v:Value} {el:TypeId} {c:List Nm} (h:LeadsTo H b v el 3 (nmsV c)) (hs:∀ x∈c,In2 x.2):∃ (vad:Option Addr) (vcap:Nat),v = .slice vad c.length vcap∧NumsIn H vad c:=by
 obtain ⟨len,cap,arr,fr,h1,h2,_,_,h5,h6⟩:=h
 have hl:=nmsV_len c
 rw [cX] at hl
 have e:len=c.length:=by omega
 subst e
 exact ⟨_,cap,h1,nms_in h5 hs h6⟩
theorem valN_two {a b:List Fl} {r:Rl} {ns:List Nm} (hI:∀ c∈r.ex,∀ x∈c,In2 x.k.2) (hN:∀ u∈ns,In2 u.2) (hk:∀ f∈b,f.count<9223372036854775808):∀ u∈valN a b r ns,In2 u.2:=fun u hu=>by
 obtain ⟨q,hq,rfl⟩:=List.mem_map.1 hu
 obtain ⟨i,h1,h2,h3⟩:=mem_steps hq
 have hc:=hk q.1 (dE h1)
 unfold Fl.n at h3
 unfold stepV
 cases he:evX q.2.1 (cutN a ns) q.2.2 with
 | error e=>show 0≤(0:Int)∧(0:Int)<_;decide
 | ok v=>exact evX_two (hI q.2.1 (dE h2)) (fun l hl u hu=>hN u (cut_mem hl u hu)) V3 he
def pR14 (e:Int) (L:List Pt):LV:=if e=0 then .tup [.one (.slc 1000001 0 L.length 2),Sn .i64 0] else .tup [Vnil,Sn .i64 e]
def pBx14 (e:Int) (L:List Pt):List (Nat×Option Box):=if e=0 then [prtB 1000001 L] else []
end Go.Proofs.YtopiioklkkiedaaGreatDoor
end
section
set_option maxHeartbeats 12800000
set_option maxRecDepth 100000
namespace Go.Proofs.YtopiioklkkiedaaGreatDoor
open Go Go.Lg Go.Lg.Fml Go.Lg.Fld Go.Lg.Arith
set_option maxRecDepth 100000
def ckV (a b:List Fl) (r:Rl) (ns:List Nm):Int:=if fitErr a ns=0 then (if layErr b=0 then (if r.old=0 then 7 else ruE a b r) else layErr b) else fitErr a ns
theorem valE_no {a b:List Fl} {r:Rl} {ns:List Nm} (h:ckV a b r ns≠0):valE a b r ns=ckV a b r ns:=by
 unfold valE
 unfold ckV at h ⊢
 by_cases z1:fitErr a ns=0
 ·rw [if_pos z1] at h ⊢
  rw [if_pos z1]
  by_cases z2:layErr b=0
  ·rw [if_pos z2] at h ⊢
   rw [if_pos z2]
   by_cases z3:r.old=0
   ·rw [if_pos z3,if_pos z3]
   ·rw [if_neg z3] at h ⊢
    rw [if_neg z3,if_neg h]
  ·rw [if_neg z2,if_neg z2]
 ·rw [if_neg z1,if_neg z1]
theorem valE_go {a b:List Fl} {r:Rl} {ns:List Nm} (h:ckV a b r ns=0):fitErr a ns=0∧layErr b=0∧r.old≠0∧ruE a b r=0∧valE a b r ns=seqE (stepE (cutN a ns)) (stepsN b r.ex):=by
 unfold valE
 unfold ckV at h
 by_cases z1:fitErr a ns=0
 ·rw [if_pos z1] at h ⊢
  by_cases z2:layErr b=0
  ·rw [if_pos z2] at h ⊢
   by_cases z3:r.old=0
   ·rw [if_pos z3] at h;cases h
   ·rw [if_neg z3] at h ⊢
    exact ⟨z1,z2,z3,h,if_pos h⟩
  ·rw [if_neg z2] at h;exact absurd h z2
 ·rw [if_neg z1] at h;exact absurd h z1
def elX (k:Int) (c:List Ins) (G:List (List Nm)) (at_:Int):Except Int Nm:=match evX c G at_ with | .error e=>.error e | .ok v=>if fitB k v.1 v.2=true then .ok v else .error 3
theorem elX_err {f:Fl} {c:List Ins} {G:List (List Nm)} {k:Nat} {e:Int} (h:elX f.kind c G k = .error e):e≠0∧stepE G (f,c,k)=e:=by
 unfold elX at h
 unfold stepE
 show _∧(if erV (evX c G (k:Nat))=0 then (if fitB f.kind (okV (evX c G (k:Nat))).1 (okV (evX c G (k:Nat))).2=true then 0 else 3) else erV (evX c G (k:Nat)))=e
 cases hev:evX c G (k:Nat) with
 | error e' =>
  rw [hev] at h
  cases h
  have hne:=evX_err hev
  exact ⟨hne,if_neg hne⟩
 | ok v =>
  rw [hev] at h
  simp only at h
  cases hq:fitB f.kind v.1 v.2 with
  | true=>rw [if_pos hq] at h;cases h
  | false =>
   rw [if_neg (by rw [hq];decide)] at h
   cases h
   refine ⟨by decide,?_⟩
   rw [show erV (Except.ok v:Except Int Nm)=0 from rfl,if_pos rfl,show okV (Except.ok v:Except Int Nm)=v from rfl,hq]
   rfl
theorem elX_ok {f:Fl} {c:List Ins} {G:List (List Nm)} {k:Nat} {v:Nm} (h:elX f.kind c G k = .ok v):stepE G (f,c,k)=0∧stepV G (f,c,k)=v:=by
 unfold elX at h
 unfold stepE stepV
 show (if erV (evX c G (k:Nat))=0 then (if fitB f.kind (okV (evX c G (k:Nat))).1 (okV (evX c G (k:Nat))).2=true then 0 else 3) else erV (evX c G (k:Nat)))=0∧okV (evX c G (k:Nat))=v
 cases hev:evX c G (k:Nat) with
 | error e'=>rw [hev] at h;cases h
 | ok w =>
  rw [hev] at h
  simp only at h
  cases hq:fitB f.kind w.1 w.2 with
  | false=>rw [if_neg (by rw [hq];decide)] at h;cases h
  | true =>
   rw [if_pos hq] at h
   cases h
   rw [show erV (Except.ok v:Except Int Nm)=0 from rfl,if_pos rfl,show okV (Except.ok v:Except Int Nm)=v from rfl,hq]
   exact V30
theorem partsOf_one {r:Rl} {c:Cp} {ps:List Pt} (h:ps.Pairwise (fun x y=>x.comp≠y.comp)) {j:Nat} {x:Pt} (hx:ps[j]? = some x) (he:x.comp=r.old):partsOf r c ps=[(r,c,x)]:=by
 have hm:x∈ps.filter fun p=>p.comp==r.old:=List.mem_filter.2 ⟨dE hx,cV he⟩
 have h1:=filter_one h r.old
 unfold partsOf
 match hq:ps.filter fun p=>p.comp==r.old with
 | []=>rw [hq] at hm;cases hm
 | [y]=>rw [hq,List.mem_singleton] at hm;rw [hm,hq];rfl
 | _::_::_=>rw [hq] at h1;simp at h1
theorem partsOf_none {r:Rl} {c:Cp} {ps:List Pt} (h:∀ (j:Nat) (x:Pt),ps[j]? = some x→(x.comp==r.old)=false):partsOf r c ps=[]:=by
 unfold partsOf
 rw [List.filter_eq_nil_iff.2 fun x hx=>by
  obtain ⟨j,hj⟩:=List.mem_iff_getElem?.1 hx
  rw [h j x hj];decide]
 rfl
theorem find_made {a b:Sc} {p:Pg} (h:ckE a b p=0) {i:Nat} {r:Rl} {c:Cp} (hr:p.rs[i]? = some r) (hc:b.cs[i]? = some c):findC b.cs r.nw=some c:=by
 obtain ⟨_,hb,_,_,hq⟩:=ckE_facts h
 have hz:(p.rs.zip b.cs)[i]? = some (r,c):=zip_two hr hc
 rw [((hq _ (dE hz)).1).1]
 exact find_good (chkE_good hb).2 (dE hc)
end Go.Proofs.YtopiioklkkiedaaGreatDoor
end
section
set_option maxHeartbeats 12800000
set_option maxRecDepth 100000
namespace Go.Proofs.YtopiioklkkiedaaGreatDoor
open Go Go.Lg Go.Lg.Fml Go.Lg.Fld Go.Lg.Arith
set_option maxRecDepth 100000
variable (X:Nat→Option Obj)
theorem eCheck (a b:Cp) (r:Rl) (ns:List Nm) (aad bad ead vad:Option Addr) (acap bcap ecap vcap:Nat) (hA:FieldsIn X aad a.fs) (hB:FieldsIn X bad b.fs) (hE:CodesIn X ead r.ex) (hN:NumsIn X vad ns) (hal:a.fs.length<4611686018427387904) (hbl:b.fs.length<4611686018427387904) (hcl:∀ c∈r.ex,c.length<1152921504606846976):
  PSpec Tryz.prog X 32 [Cx a aad acap,Cx b bad bcap,LPg r.nw r.old ead r.ex.length ecap,Lx vad ns.length vcap] (Ln .i64 (ckV a.fs b.fs r ns)):=by
 have hF:=lFit_any X aad vad acap vcap a.fs ns hA hal hN
 have hL:=Check_spec X bad bcap b.fs hB hbl
 have hR:=cRule X a b r aad bad ead acap bcap ecap hA hB hE hal hbl hcl
 refine cF Tryz.func32 rfl V5 rfl rfl ?_
 intro C
 unfold ckV
 by_cases z1:fitErr a.fs ns=0
 case neg =>
  rw [if_neg z1]
  generalize fitErr a.fs ns=e at *
  (refine U19 ?_;refine kne rfl rfl (r:=true) (cU z1) ?_;refine U8 ?_)
  exact V6
 rw [if_pos z1]
 rw [z1] at hF
 by_cases z2:layErr b.fs=0
 case neg =>
  rw [if_neg z2]
  generalize layErr b.fs=e at *
  (refine U34 ?_;refine kne rfl rfl (r:=true) (cU z2) ?_;refine U8 ?_)
  exact V6
 rw [if_pos z2]
 rw [z2] at hL
 by_cases z3:r.old=0
 ·rw [if_pos z3]
  (refine U43 ?_;refine keq rfl rfl (r:=true) (cV z3) ?_;refine U7 ?_)
  exact V6
 rw [if_neg z3]
 generalize ruE a.fs b.fs r=e at *
 (refine U43 ?_;refine keq rfl rfl (r:=false) (cS z3) ?_;refine U12 ?_)
 exact V6
theorem eElem (f:Fl) (c:List Ins) (G:List (List Nm)) (cad fad:Option Addr) (ccap fc:Nat) (at_:Int) (hI:InsIn X cad c) (hc:c.length<1152921504606846976) (hG:FssIn X fad G) (hGl:G.length<4611686018427387904) (hrl:∀ r∈G,r.length<4611686018427387904) (hf2:∀ r∈G,∀ u∈r,In2 u.2) (hat : -9223372036854775808≤at_∧at_<9223372036854775808):
  PSpec Tryz.prog X 35 [Fx f,Lx cad c.length ccap,LEnv fad G.length fc at_] (exR (elX f.kind c G at_)):=by
 have hE:=gEval X c cad ccap hI hc fad fc G hG hGl hrl hf2 at_ hat
 refine cF Tryz.func35 rfl V5 rfl (exR_closed _) ?_
 intro C
 cases hev:evX c G at_ with
 | error e =>
  have hne:=evX_err hev
  rw [show elX f.kind c G at_ = .error e by unfold elX;rw [hev]]
  rw [hev] at hE
  (refine U24 ?_;refine kne rfl rfl (r:=true) (cU hne) ?_;refine U11 ?_)
  exact V4
 | ok v =>
 have hv2:In2 v.2:=evX_two (fun x hx=>(hI.small x hx).2.2.2) hf2 hat.2 hev
 rw [hev] at hE
 cases hq:fitB f.kind v.1 v.2 with
 | false =>
  have hFt:=Fits_spec X f.kind v.1 v.2 hv2 false hq
  rw [show elX f.kind c G at_ = .error 3 by unfold elX;rw [hev];exact if_neg (by rw [hq];decide)]
  refine U45 ?_
  exact V4
 | true =>
  have hFt:=Fits_spec X f.kind v.1 v.2 hv2 true hq
  rw [show elX f.kind c G at_ = .ok v by unfold elX;rw [hev];exact if_pos hq]
  refine U46 ?_
  exact V4
theorem sigN_one {rs:List Rl} {i:Nat} {r:Rl} (hr:rs[i]? = some r) (s:Nat):sigN (rs.take (i+1)) s=if Sg.hasB s r.old=true then Sg.withN (sigN (rs.take i) s) r.nw else sigN (rs.take i) s:=by
 unfold sigN
 rw [take_snoc hr,List.foldl_append]
 rfl
theorem eSig' (va vb:Int) (rs:List Rl) (ad:Option Addr) (cap s:Nat) (hp:RulesIn X ad rs) (hl:rs.length<4611686018427387904) (hs:s<4294967296):
  PSpec Tryz.prog X 20 [LPg va vb ad rs.length cap,Ln .u32 (s:Nat)] (Ln .u32 (sigN rs s:Nat)):=by
 refine cF Tryz.func20 rfl V5 rfl rfl ?_
 intro C
 refine U18 ?_
 refine cL (fun m σ=>∃ i:Nat,i≤rs.length∧m=rs.length-i∧σ=⟨[(1,Ln .u32 (s:Nat)),(5,Ln .u32 (sigN (rs.take i) s:Nat)),(9,Lx ad rs.length cap),(10,Ln .i64 (rs.length:Nat)),(11,Ln .i64 (i:Nat))],[],X⟩) rs.length
  ⟨⟨[(1,Ln .u32 (s:Nat)),(5,Ln .u32 (0:Nat)),(9,Lx ad rs.length cap),(10,Ln .i64 (rs.length:Nat)),(11,Ln .i64 (0:Nat))],[],X⟩,Le.of V10 VC V2 V2 V0,0,by omega,by omega,rfl⟩ ?_
 rintro m σ ⟨i,hi,rfl,rfl⟩
 by_cases hlt:i<rs.length
 case neg =>
  have e:i=rs.length:=by omega
  subst e
  rw [dG]
  refine U13 ?_
  exact V6
 obtain ⟨r,hr⟩:=wg hlt
 obtain ⟨blk,off,arr,el,fr,ead,ecap,rfl,hX,hsz,hcs,_,_,_,_⟩:=hp.get hr
 have hio:=wo off i 3
 have hadd:=wi i V3
 have hn:=sigN_one hr s
 have hlt0:=sigN_lt (rs.take i) s
 generalize sigN (rs.take i) s=o at *
 have hst2:∀ q:Nat,sigN (rs.take (i+1)) s=q→(⟨[(1,Ln .u32 (s:Nat)),(5,Ln .u32 (q:Nat)),(9,Lx (some ⟨blk,off,none⟩) rs.length cap),(10,Ln .i64 (rs.length:Nat)),(11,Ln .i64 (i+1:Nat))],[],X⟩:St)=⟨[(1,Ln .u32 (s:Nat)),(5,Ln .u32 (sigN (rs.take (i+1)) s:Nat)),(9,Lx (some ⟨blk,off,none⟩) rs.length cap),(10,Ln .i64 (rs.length:Nat)),(11,Ln .i64 (i+1:Nat))],[],X⟩:=fun q h=>by rw [h]
 have hH:=gHas X s hs r.old
 cases h1:Sg.hasB s r.old with
 | false =>
  rw [h1] at hH hn
  rw [if_neg (by decide)] at hn
  refine U29 ?_
  exact ⟨_,_,by omega,Le.of V10 VC V2 V2 V0,i+1,by omega,O,hst2 _ hn⟩
 | true =>
  rw [h1] at hH hn
  rw [if_pos rfl] at hn
  have hW:=gWith X o V3 r.nw
  generalize Sg.withN o r.nw=q at *
  refine U35 ?_
  exact ⟨_,_,by omega,Le.of V10 VC V2 V2 V0,i+1,by omega,O,hst2 _ hn⟩
theorem efind1 (p:Pt) (vad:Option Addr) (vcap:Nat) (id:Int) {b:Nat} {arr:Array Value} {el:TypeId} {fr:Nat×Nat} (hX:X b=some (.cells arr el fr)) (h0:arr[0]? = some (.int .i64 id)):
  PSpec Tryz.prog X 90 [Px p vad vcap,Vp b] (Lb (p.comp==id)):=by
 refine cF Tryz.func90 rfl V5 rfl rfl ?_
 intro C
 (refine U10 ?_;refine keq rfl rfl rfl ?_;refine U3 ?_)
 exact V6
theorem idxP_spec (ad:Option Addr) (cap:Nat) (ps:List Pt) (hin:PartsC X ad ps) (hbig:ps.length<4611686018427387904) (f:FuncId) (caps:List Value) (p:Pt→Bool)
  (hp:∀ c∈ps,∀ vad vcap,PSpec Tryz.prog X f ([Px c vad vcap]++caps.map fun v=>.sv (.one (.val v))) (Lb (p c))):
  PSpec Tryz.prog X 89 [Lx ad ps.length cap,Lf f caps] (Ln .i64 (findI p ps)):=by
 refine cF Tryz.func89 rfl V5 rfl rfl ?_
 intro C
 refine U12 ?_
 refine cL (fun m σ=>∃ i:Nat,i≤ps.length∧m=ps.length-i∧(∀ (j:Nat) (y:Pt),j<i→ps[j]? = some y→p y=false)∧σ=⟨[(0,Lx ad ps.length cap),(1,Lf f caps),(7,Ln .i64 (ps.length:Nat)),(8,Ln .i64 (i:Nat))],[],X⟩) ps.length
  ⟨_,Le.of V8 VC V2 V2 V2,0,by omega,by omega,fun j y hj=>absurd hj V3,rfl⟩ ?_
 rintro m σ ⟨i,hi,rfl,hpre,rfl⟩
 by_cases hlt:i<ps.length
 ·obtain ⟨c,hc⟩:=wg hlt
  obtain ⟨blk,off,arr,el,fr,vad,vcap,rfl,hX,hsz,hcs,_,_,_,_⟩:=hin.get hc
  have hio:=wo off i 2
  have hP:=hp c (dE hc) vad vcap
  cases hpc:p c with
  | true =>
   rw [hpc] at hP
   rw [findI_some hpre hc hpc]
   (refine U21 ?_;refine K.callF O O O hP dS ?_;refine U8 ?_)
   exact V6
  | false =>
   rw [hpc] at hP
   (refine U21 ?_;refine K.callF O O O hP dS ?_;refine U7 ?_)
   exact ⟨_,_,by omega,Le.of V8 VC V2 V2 V2,i+1,by omega,O,(fun j y hj hy=>by
    by_cases e:j=i
    ·subst e;rw [hc] at hy;cases hy;exact hpc
    ·exact hpre j y V3 hy),rfl⟩
 ·rw [findI_none fun j y hy=>hpre j y V2D hy]
  refine U12 ?_
  exact V6
abbrev SP0:SV:=.agg [.val (.int .i64 0),.val (.slice none 0 0)]
abbrev SPx (p:Pt) (vad:Option Addr) (vcap:Nat):SV:=.agg [.val (.int .i64 p.comp),.val (.slice vad p.val.length vcap)]
theorem efind_no (ad:Option Addr) (cap:Nat) (ps:List Pt) (id:Int) (hin:PartsC X ad ps) (hbig:ps.length<4611686018427387904) (hno:∀ (j:Nat) (y:Pt),ps[j]? = some y→(y.comp==id)=false):
  PSpec Tryz.prog X 47 [Lx ad ps.length cap,Ln .i64 id] (.tup [SP0,Sb false]):=by
 refine cF Tryz.func47 rfl V5 rfl rfl ?_
 intro C
 refine U7 ?_
 refine LWP.le (σ':=⟨[(3,Lp 3),(0,Lx ad ps.length cap),(4,Lp 4)],[(3,some ⟨3,[Value.int .i64 id].map .val,false⟩),(4,some ⟨59,[.val (.int .i64 0),.val (.slice none 0 0)],false⟩)],X⟩) (Le.of V9 VE V2 V2 V0) ?_
 refine LWP.freezePtr V31 V31 V31 fun b arr0 fr0 hn _ h0 => ?_
 have hin':=hin.mono (cJ (o:=.cells arr0 3 fr0) hn)
 have hp:=fun (c:Pt) (_:c∈ps) (vad:Option Addr) (vcap:Nat)=>efind1 _ c vad vcap id (cN X b (.cells arr0 3 fr0)) (at_zero h0)
 have hq:=idxP_spec _ ad cap ps hin' hbig 90 [.pointer (some ⟨b,0,none⟩)] (fun c=>c.comp==id) hp
 rw [findI_none hno] at hq
 (refine U2 ?_;refine K.makeFunc O O dS ?_;refine U7 ?_;refine klt O O O ?_;refine U9 ?_)
 exact V4
theorem efind_yes (ad:Option Addr) (cap:Nat) (ps:List Pt) (id:Int) (hin:PartsC X ad ps) (hbig:ps.length<4611686018427387904) {i:Nat} {x:Pt} (hpre:∀ (j:Nat) (y:Pt),j<i→ps[j]? = some y→(y.comp==id)=false) (hx:ps[i]? = some x) (he:x.comp=id)
  {blk off:Nat} {arr:Array Value} {el:TypeId} {fr:Nat×Nat} {vad:Option Addr} {vcap:Nat} (had:ad=some ⟨blk,off,none⟩) (hX:X blk=some (.cells arr el fr)) (hsz:off+i*2+2≤arr.size) (hcs:((arr.toList.drop (off+i*2)).take 2).map CV.val=[.val (.int .i64 x.comp),.val (.slice vad x.val.length vcap)]):
  PSpec Tryz.prog X 47 [Lx ad ps.length cap,Ln .i64 id] (.tup [SPx x vad vcap,Sb true]):=by
 subst had
 have hi:=(wl hx)
 refine cF Tryz.func47 rfl V5 rfl rfl ?_
 intro C
 refine U7 ?_
 refine LWP.le (σ':=⟨[(3,Lp 3),(0,Lx (some ⟨blk,off,none⟩) ps.length cap),(4,Lp 4)],[(3,some ⟨3,[Value.int .i64 id].map .val,false⟩),(4,some ⟨59,[.val (.int .i64 0),.val (.slice none 0 0)],false⟩)],X⟩) (Le.of V9 VE V2 V2 V0) ?_
 refine LWP.freezePtr V31 V31 V31 fun b arr0 fr0 hn _ h0 => ?_
 have hin':=hin.mono (cJ (o:=.cells arr0 3 fr0) hn)
 have hp:=fun (c:Pt) (_:c∈ps) (vad:Option Addr) (vcap:Nat)=>efind1 _ c vad vcap id (cN X b (.cells arr0 3 fr0)) (at_zero h0)
 have hq:=idxP_spec _ _ cap ps hin' hbig 90 [.pointer (some ⟨b,0,none⟩)] (fun c=>c.comp==id) hp
 rw [findI_some hpre hx (cV he)] at hq
 have hio:=wo off i 2
 have hX':=cJ (o:=.cells arr0 3 fr0) hn _ _ hX
 (refine U2 ?_;refine K.makeFunc O O dS ?_;refine U21 ?_)
 exact V4
end Go.Proofs.YtopiioklkkiedaaGreatDoor
end
section
set_option maxHeartbeats 12800000
set_option maxRecDepth 100000
namespace Go.Proofs.YtopiioklkkiedaaGreatDoor
open Go Go.Lg Go.Lg.Fml Go.Lg.Fld Go.Lg.Arith
set_option maxRecDepth 100000
def evR (e:Int) (L:List Nm):LV:=if e=0 then .tup [.one (.slc 1000001 0 L.length 3),Sn .i64 0] else .tup [Vnil,Sn .i64 e]
def evBx (e:Int) (L:List Nm):List (Nat×Option Box):=if e=0 then [nmsB 1000001 L true] else []
theorem startN_nat {fs:List Fl} (h:layErr fs=0) {i:Nat} (hi:i<fs.length):startN fs (i:Nat)=sumC (fs.take i):=by
 unfold startN
 rw [if_pos ⟨h,by omega,by omega⟩,dH]
variable (X:Nat→Option Obj)
set_option maxHeartbeats 6400000 in
theorem eSplit (a:List Fl) (ns:List Nm) (aad vad:Option Addr) (acap vcap:Nat) (hA:FieldsIn X aad a) (hac:a.length≤acap) (hN:NumsIn X vad ns) (hvc:ns.length≤vcap) (la:a.length≤12) (ln:ns.length<4611686018427387904) (z1:fitErr a ns=0):
  MSpec Tryz.prog X 33 [Lx aad a.length acap,Lx vad ns.length vcap] [] (.sv (.one (.slc 1000001 0 a.length 1))) [(1000001,some ⟨28,(subV vad vcap 0 a).map .val,false⟩)]:=by
 obtain ⟨z5,hns,_⟩:=fit_all z1
 obtain ⟨_,hoka,_⟩:=layErr_facts z5
 refine cG Tryz.func33 rfl V5 rfl rfl V7 rfl rfl ?_
 intro C
 have hmk:slcBuild Tryz.prog 94 a.length=some (List.replicate a.length (.slice none 0 0),1,28):=slcBuild_one V5 V5 V3
 (refine U8 ?_;refine K.makeSlc (m:=a.length) (bytes:=24) O O hmk V5 V3 O O dS ?_;refine U10 ?_)
 refine cL (fun m σ=>∃ i:Nat,i≤a.length∧m=a.length-i∧σ=⟨[(0,Lx aad a.length acap),(1,Lx vad ns.length vcap),(5,.sv (.one (.slc 11 0 a.length 1))),(12,Lx aad a.length acap),(13,Ln .i64 (a.length:Nat)),(14,Ln .i64 (i:Nat))],[(11,some ⟨28,(subV vad vcap 0 (a.take i)++List.replicate (a.length-i) (Value.slice none 0 0)).map .val,false⟩)],X⟩) a.length
  ⟨_,Le.of V11 V13 V2 V2 V0,0,by omega,by omega,rfl⟩ ?_
 rintro m σ ⟨i,hi,rfl,rfl⟩
 by_cases hlt:i<a.length
 case neg =>
  have e:i=a.length:=by omega
  subst e
  rw [dG,Nat.sub_self,show subV vad vcap 0 a++List.replicate 0 (Value.slice none 0 0)=subV vad vcap 0 a from dK _]
  refine U13 ?_
  exact ⟨[(1000001,11)],⟨[_],⟨O,trivial⟩,O⟩,V1,O,O⟩
 obtain ⟨f,hf⟩:=wg hlt
 have hSt:=Start_spec X aad acap a hac (i:Nat) V3 hA V3
 rw [startN_nat z5 hlt] at hSt
 obtain ⟨fb,fo,farr,fel,ffr,rfl,hFX,hFz,hFc,_,_,g2⟩:=hA.cells hf
 have hio:=wo fo i 3
 obtain ⟨hn1,hn8,hnc⟩:=sum_pos hoka hf
 have hst:=sum_take hf
 obtain ⟨u,hu⟩:∃ u,ns[0]? = some u:=wg V3
 obtain ⟨vb,vo,varr,vel,vfr,rfl,_⟩:=hN.rows 0 (nmV u) (by rw [dM,hu];rfl)
 have hadd1:IntKind.i64.wrap (((sumC (a.take i):Nat):Int)+f.count)=((sumC (a.take i)+f.n:Nat):Int):=by rw [cH V3];omega
 have hadd:=wi i V3
 have hil:(subV (some ⟨vb,vo,none⟩) vcap 0 (a.take i)).length=i:=by rw [subV_len,dA];omega
 have hix:0+Int.toNat (i:Int)*1=i:=by rw [dH];omega
 have hroom:i+1≤((subV (some ⟨vb,vo,none⟩) vcap 0 (a.take i)++List.replicate (a.length-i) (Value.slice none 0 0)).map CV.val).length:=by rw [cX,cW,hil,dF];omega
 have hspl:splice ((subV (some ⟨vb,vo,none⟩) vcap 0 (a.take i)++List.replicate (a.length-i) (Value.slice none 0 0)).map CV.val) i [.val (.slice (some ⟨vb,vo+sumC (a.take i)*3,none⟩) f.n (vcap-sumC (a.take i)))]=(subV (some ⟨vb,vo,none⟩) vcap 0 (a.take (i+1))++List.replicate (a.length-(i+1)) (Value.slice none 0 0)).map CV.val:=by
  unfold splice
  rw [show a.length-i=(a.length-(i+1))+1 by omega,List.replicate_succ,take_snoc hf,subV_snoc,Nat.zero_add]
  simp only [dI,dN]
  have hml:((subV (some ⟨vb,vo,none⟩) vcap 0 (a.take i)).map CV.val).length=i:=by rw [cX,hil]
  generalize (subV (some ⟨vb,vo,none⟩) vcap 0 (a.take i)).map CV.val=R at *
  rw [← hml,List.take_left,List.drop_length_add_append]
  simp [subA]
 (refine U34 ?_;refine K.cut2X (sz:=3) O O O cC V3 V3 (.inl V3) hvc O (Nat.add_sub_cancel_left ..) O dS ?_;refine U1 ?_;refine K.store O O O O V5 hroom hspl dS ?_;refine U5 ?_)
 exact ⟨_,_,by omega,Le.of V11 V13 V2 V2 V0,i+1,by omega,O,O⟩
end Go.Proofs.YtopiioklkkiedaaGreatDoor
end
section
set_option maxHeartbeats 12800000
set_option maxRecDepth 100000
namespace Go.Proofs.YtopiioklkkiedaaGreatDoor
open Go Go.Lg Go.Lg.Fml Go.Lg.Fld Go.Lg.Arith
set_option maxRecDepth 100000
variable (X:Nat→Option Obj)
set_option maxHeartbeats 25600000 in
theorem eVal' (a b:Cp) (r:Rl) (ns:List Nm) (aad bad ead vad:Option Addr) (acap bcap ecap vcap:Nat) (hA:FieldsIn X aad a.fs) (hac:a.fs.length≤acap) (hB:FieldsIn X bad b.fs) (hE:CodesIn X ead r.ex) (hN:NumsIn X vad ns) (hvc:ns.length≤vcap) (la:a.fs.length≤12) (lb:b.fs.length≤12) (lr:r.ex.length≤12∧∀ c∈r.ex,c.length≤80) (ln:ns.length<4611686018427387904):
  MSpec Tryz.prog X 12 [Cx a aad acap,Cx b bad bcap,LPg r.nw r.old ead r.ex.length ecap,Lx vad ns.length vcap] [] (evR (valE a.fs b.fs r ns) (valN a.fs b.fs r ns)) (evBx (valE a.fs b.fs r ns) (valN a.fs b.fs r ns)):=by
 have hC:=eCheck X a b r ns aad bad ead vad acap bcap ecap vcap hA hB hE hN V3 V3 (fun c hc=>by have:=lr.2 c hc;omega)
 refine cG Tryz.func12 rfl V5 rfl (by unfold evR evBx;split<;>rfl) (by unfold evBx;split<;>exact V0) rfl rfl ?_
 intro C
 by_cases z:ckV a.fs b.fs r ns=0
 case neg =>
  rw [valE_no z]
  unfold evR evBx
  rw [if_neg z,if_neg z]
  generalize ckV a.fs b.fs r ns=e at *
  (refine U21 ?_;refine kne rfl rfl (r:=true) (cU z) ?_;refine U9 ?_)
  exact V1C
 obtain ⟨z1,z2,z3,z4,z5⟩:=valE_go z
 rw [z] at hC
 rw [z5]
 unfold valN
 have hS:=eSplit X a.fs ns aad vad acap vcap hA hac hN hvc la ln z1
 have hEl:=Elems_spec X bad bcap b.fs hB V3
 have hel:=ruE_len z4 z3
 obtain ⟨z6,hns,_⟩:=fit_all z1
 obtain ⟨_,hoka,_⟩:=layErr_facts z6
 obtain ⟨_,hokb,_⟩:=layErr_facts z2
 have hE96:elemsN b.fs≤96:=by
  unfold elemsN
  rw [if_pos z2,elems_sum]
  have:=sum_le b.fs hokb
  omega
 have hmk:slcBuild Tryz.prog 28 (elemsN b.fs)=some ((List.replicate (elemsN b.fs) [Value.bool false,.int .u64 0,.int .u64 0]).flatten,3,86):=slcBuild_many (z := #[.bool false,.int .u64 0,.int .u64 0]) V5 V5 rfl V3
 (refine U30 ?_;refine bE [(1000001,501)] (.sv (.one (.slc 501 0 a.fs.length 1))) [(501,some ⟨28,(subV vad vcap 0 a.fs).map .val,false⟩)] (hS) O O VC O O O O O V18 dS ?_;refine U3 ?_)
 clear hC hS
 refine LWP.le (σ':=⟨[(11,.sv (.one (.slc 501 0 a.fs.length 1))),(5,Lp 5),(6,Lp 6)],[(501,some ⟨28,(subV vad vcap 0 a.fs).map .val,false⟩),cpB 5 b bad bcap,v3B 27 6 r.nw r.old ead r.ex.length ecap],X⟩) (Le.of V9 V9 V2 V2 V0) ?_
 refine LWP.freeze O O O fun fb0 fc fa0 ff0 hn0 _ hfc _ hsp => ?_
 have hXY:=cJ (o:=.cells fa0 28 ff0) hn0
 have hFs:=fss_block (cN X fb0 (.cells fa0 28 ff0)) hsp ⟨hN.rows.mono hXY,hN.in2⟩ hns
 have hf2:∀ l∈cutN a.fs ns,∀ u∈l,In2 u.2:=fun l hl u hu=>hN.in2 u (cut_mem hl u hu)
 have hrl:∀ l∈cutN a.fs ns,l.length<4611686018427387904:=fun l hl=>by
  obtain ⟨i,hi⟩:=List.mem_iff_getElem?.1 hl
  have hil:=(wl hi)
  rw [cutN_len] at hil
  rw [cut_at (cY hil)] at hi
  cases hi
  rw [dA,dC];omega
 replace hB:=hB.mono hXY
 replace hE:=hE.mono hXY
 replace hEl:=Elems_spec _ bad bcap b.fs hB V3
 have hfl:a.fs.length=(cutN a.fs ns).length:=cutN_len.symm
 have hcl12:(cutN a.fs ns).length≤12:=by rw [cutN_len];exact la
 clear hA hN hsp hn0 hXY
 generalize withBlock X fb0 (.cells fa0 28 ff0)=Y at *
 generalize (some ⟨fb0,0,none⟩:Option Addr)=fad at *
 rw [hfl]
 generalize cutN a.fs ns=G at *
 (refine U4 ?_;refine K.makeSlc0 (m:=elemsN b.fs) (bytes:=24) O O hmk V5 V3 O dS ?_;refine U11 ?_)
 clear hEl hmk
 refine cM (fun m σ=>∃ (i:Nat) (L:List Nm),i≤b.fs.length∧m=b.fs.length-i∧L=(stepsN (b.fs.take i) (r.ex.take i)).map (stepV G)∧seqE (stepE G) (stepsN (b.fs.take i) (r.ex.take i))=0∧σ=⟨[(6,Lp 6),(11,Lx fad G.length fc),(12,.sv (.one (.slc 500 0 L.length 3))),(35,Lx bad b.fs.length bcap),(36,Ln .i64 (b.fs.length:Nat)),(37,Ln .i64 (i:Nat))],[nmsB 500 (L) true,v3B 27 6 r.nw r.old ead r.ex.length ecap],Y⟩) b.fs.length
  (cE (σ':=⟨[(6,Lp 6),(11,Lx fad G.length fc),(12,.sv (.one (.slc 500 0 0 3))),(35,Lx bad b.fs.length bcap),(36,Ln .i64 (b.fs.length:Nat)),(37,Ln .i64 (0:Nat))],[nmsB 500 ([]) true,v3B 27 6 r.nw r.old ead r.ex.length ecap],Y⟩) (Le.ofR [(500,33)] V11 V1 V2 V2 V0 V2 V2) (cD ⟨0,[],by omega,by omega,rfl,rfl,rfl⟩)) ?_
 rintro m σ ⟨i,L,hi,rfl,hL,hpre,rfl⟩
 by_cases hlt:i<b.fs.length
 case neg =>
  have e:i=b.fs.length:=by omega
  subst e
  rw [dG,← hel,dG] at hL hpre
  rw [hpre]
  unfold evR evBx
  rw [if_pos rfl,if_pos rfl,← hL]
  refine U14 ?_
  exact ⟨[(1000001,500)],⟨[_,_],⟨O,O,trivial⟩,O⟩,V1,O,O⟩
 obtain ⟨f,hf⟩:=wg hlt
 obtain ⟨c,hc⟩:∃ c,r.ex[i]? = some c:=wg V3
 obtain ⟨fb,fo,farr,fel,ffr,rfl,hFX,hFz,hFc,_,_,_⟩:=hB.cells hf
 obtain ⟨eb,eo,earr,eel,efr,cad,ccap,rfl,hEX,hec,hI⟩:=hE.get hc
 have hio:=wo fo i 3
 have hio1:=wo eo i 1
 obtain ⟨hn1,hn8,hnc⟩:=sum_pos hokb hf
 have hadd:=wi i V3
 have hc80:=lr.2 c (dE hc)
 have hsl:(stepsN (b.fs.take i) (r.ex.take i)).length≤96:=by
  have h1:=steps_len (b:=b.fs.take i) (ex:=r.ex.take i) (by rw [dA,dA];omega)
  rw [h1,elems_sum]
  have h2:=sum_le (b.fs.take i) (Fld.take_ok hokb i)
  rw [dA] at h2
  omega
 refine U25 ?_
 refine cM (fun m σ=>∃ (k:Nat) (L:List Nm),k≤f.n∧m=f.n-k∧L=(stepsN (b.fs.take i) (r.ex.take i)++fldS f c k).map (stepV G)∧seqE (stepE G) (stepsN (b.fs.take i) (r.ex.take i)++fldS f c k)=0∧σ=⟨[(6,Lp 6),(11,Lx fad G.length fc),(12,.sv (.one (.slc 500 0 L.length 3))),(35,Lx (some ⟨fb,fo,none⟩) b.fs.length bcap),(36,Ln .i64 (b.fs.length:Nat)),(37,Ln .i64 (i:Nat)),(13,Ln .i64 (i:Nat)),(14,Lp 14),(43,Ln .i64 f.count),(44,Ln .i64 (k:Nat))],[nmsB 500 (L) true,v3B 27 6 r.nw r.old (some ⟨eb,eo,none⟩) r.ex.length ecap,flB 14 f],Y⟩) f.n
  (cE (σ':=⟨[(6,Lp 6),(11,Lx fad G.length fc),(12,.sv (.one (.slc 500 0 L.length 3))),(35,Lx (some ⟨fb,fo,none⟩) b.fs.length bcap),(36,Ln .i64 (b.fs.length:Nat)),(37,Ln .i64 (i:Nat)),(13,Ln .i64 (i:Nat)),(14,Lp 14),(43,Ln .i64 f.count),(44,Ln .i64 (0:Nat))],[nmsB 500 (L) true,v3B 27 6 r.nw r.old (some ⟨eb,eo,none⟩) r.ex.length ecap,flB 14 f],Y⟩) (Le.ofR [(500,500)] V24 V1 V2 V2 V0 V2 V2) (cD ⟨0,L,by omega,by omega,by rw [fldS_zero,dK];exact hL,by rw [fldS_zero,dK];exact hpre,rfl⟩)) ?_
 clear hpre hL
 clear L
 rintro m σ ⟨k,L,hk,rfl,hL,hpre,rfl⟩
 have hLl:L.length≤104:=by rw [hL,cX,cW,fldS_len];omega
 by_cases hkl:k<f.n
 case neg =>
  have e:k=f.n:=by omega
  subst e
  refine U11 ?_
  exact cE (σ':=⟨[(6,Lp 6),(11,Lx fad G.length fc),(12,.sv (.one (.slc 500 0 L.length 3))),(35,Lx (some ⟨fb,fo,none⟩) b.fs.length bcap),(36,Ln .i64 (b.fs.length:Nat)),(37,Ln .i64 (i+1:Nat))],[nmsB 500 (L) true,v3B 27 6 r.nw r.old (some ⟨eb,eo,none⟩) r.ex.length ecap],Y⟩) (Le.ofR [(500,500)] V11 V1 V2 V2 V0 V2 V2) (cD ⟨b.fs.length-(i+1),by omega,i+1,L,by omega,rfl,by rw [steps_snoc hf hc];exact hL,by rw [steps_snoc hf hc];exact hpre,rfl⟩)
 obtain ⟨post,hpost⟩:=steps_at hf hc hkl
 have hEm:=eElem Y f c G cad fad ccap fc (k:Nat) hI V3 hFs V3 hrl hf2 V3
 have haddk:=wi k V3
 cases hev:elX f.kind c G (k:Nat) with
 | error e =>
  obtain ⟨hne,hse⟩:=elX_err hev
  rw [seqE_hit hpost hpre (by rw [hse];exact hne),hse]
  unfold evR evBx
  rw [if_neg hne,if_neg hne]
  rw [hev] at hEm
  (refine U15 ?_;refine rgD mixed ?_;refine U22 ?_;refine kne rfl rfl (r:=true) (cU hne) ?_;refine U9 ?_)
  exact V1C
 | ok v =>
 obtain ⟨hse,hsv⟩:=elX_ok hev
 rw [hev] at hEm
 have hcl:=nmsV_len L
 have hnc2:=nmsV_snoc L v
 have hL2:L++[v]=(stepsN (b.fs.take i) (r.ex.take i)++fldS f c (k+1)).map (stepV G):=by
  rw [fldS_succ,← dN,dI,← hL,List.map_cons,List.map_nil,hsv]
 have hpre2:seqE (stepE G) (stepsN (b.fs.take i) (r.ex.take i)++fldS f c (k+1))=0:=by
  rw [fldS_succ,← dN];exact seqE_snoc hpre hse
 have hnl:L.length+1=(L++[v]).length:=by rw [cW];rfl
 (refine U15 ?_;refine rgD mixed ?_;refine U29 ?_;refine aZ (zs:=[.bool false,.int .u64 0,.int .u64 0]) (sz:=3) (e:=86) (cs':=cI v.1 v.2) V5 O O O O O O dS<|bQ (by_:=24) (e2:=86) (l2:=cI v.1 v.2) (nl:=(L++[v]).length) (nc:=(nmsV (L++[v])).map .val) O O hcl O O (dO _) O O V5 V5 V3 V3 O hnl hnc2 dS ?_;refine U6 ?_)
 exact cE (σ':=⟨[(6,Lp 6),(11,Lx fad G.length fc),(12,.sv (.one (.slc 500 0 (L++[v]).length 3))),(35,Lx (some ⟨fb,fo,none⟩) b.fs.length bcap),(36,Ln .i64 (b.fs.length:Nat)),(37,Ln .i64 (i:Nat)),(13,Ln .i64 (i:Nat)),(14,Lp 14),(43,Ln .i64 f.count),(44,Ln .i64 (k+1:Nat))],[nmsB 500 (L++[v]) true,v3B 27 6 r.nw r.old (some ⟨eb,eo,none⟩) r.ex.length ecap,flB 14 f],Y⟩) (Le.ofR [(500,66)] V24 V1 V2 V2 V0 V2 V2) (cD ⟨f.n-(k+1),by omega,k+1,L++[v],by omega,O,hL2,hpre2,O⟩)
end Go.Proofs.YtopiioklkkiedaaGreatDoor
end
section
set_option maxHeartbeats 12800000
set_option maxRecDepth 100000
namespace Go.Proofs.YtopiioklkkiedaaGreatDoor
open Go Go.Lg Go.Lg.Fml Go.Lg.Fld Go.Lg.Arith
set_option maxRecDepth 100000
variable (X:Nat→Option Obj)
theorem eVal_nil' (a b:Cp) (r:Rl) (ns:List Nm) (aad bad ead vad:Option Addr) (acap bcap ecap vcap:Nat) (hA:FieldsIn X aad a.fs) (hac:a.fs.length≤acap) (hB:FieldsIn X bad b.fs) (hE:CodesIn X ead r.ex) (hN:NumsIn X vad ns) (hvc:ns.length≤vcap) (la:a.fs.length≤12) (lb:b.fs.length≤12) (lr:r.ex.length≤12∧∀ c∈r.ex,c.length≤80) (ln:ns.length<4611686018427387904) (h:valE a.fs b.fs r ns≠0):
  MSpec Tryz.prog X 12 [Cx a aad acap,Cx b bad bcap,LPg r.nw r.old ead r.ex.length ecap,Lx vad ns.length vcap] [] (.tup [.one (.val (.slice none 0 0)),Sn .i64 (valE a.fs b.fs r ns)]) []:=by
 have:=eVal' X a b r ns aad bad ead vad acap bcap ecap vcap hA hac hB hE hN hvc la lb lr ln
 unfold evR evBx at this
 rw [if_neg h,if_neg h] at this
 exact this
theorem eVal_box' (a b:Cp) (r:Rl) (ns:List Nm) (aad bad ead vad:Option Addr) (acap bcap ecap vcap:Nat) (hA:FieldsIn X aad a.fs) (hac:a.fs.length≤acap) (hB:FieldsIn X bad b.fs) (hE:CodesIn X ead r.ex) (hN:NumsIn X vad ns) (hvc:ns.length≤vcap) (la:a.fs.length≤12) (lb:b.fs.length≤12) (lr:r.ex.length≤12∧∀ c∈r.ex,c.length≤80) (ln:ns.length<4611686018427387904) (h:valE a.fs b.fs r ns=0):
  MSpec Tryz.prog X 12 [Cx a aad acap,Cx b bad bcap,LPg r.nw r.old ead r.ex.length ecap,Lx vad ns.length vcap] [] (.tup [.one (.slc 1000001 0 (valN a.fs b.fs r ns).length 3),Sn .i64 0]) [nmsB 1000001 (valN a.fs b.fs r ns) true]:=by
 have:=eVal' X a b r ns aad bad ead vad acap bcap ecap vcap hA hac hB hE hN hvc la lb lr ln
 unfold evR evBx at this
 rw [if_pos h,if_pos h] at this
 exact this
set_option maxHeartbeats 6400000 in
theorem eRow' (a b:Cp) (r:Rl) (s:List UInt8) (aad bad ead:Option Addr) (acap bcap ecap:Nat) (hA:FieldsIn X aad a.fs) (hac:a.fs.length≤acap) (hB:FieldsIn X bad b.fs) (hE:CodesIn X ead r.ex) (la:a.fs.length≤12) (lb:b.fs.length≤12) (lr:r.ex.length≤12∧∀ c∈r.ex,c.length≤80):
  PSpec Tryz.prog X 15 [Cx a aad acap,Cx b bad bcap,LPg r.nw r.old ead r.ex.length ecap,Ls s] (.tup [Ss (rowN a.fs b.fs r s),Sn .i64 (rowE a.fs b.fs r s)]):=by
 refine cF Tryz.func15 rfl V5 rfl rfl ?_
 intro C
 by_cases hu:unpErr a.fs s=0
 case neg =>
  have e1:rowE a.fs b.fs r s=unpErr a.fs s:=if_neg hu
  rw [show rowN a.fs b.fs r s=[] from if_neg (by rw [e1];exact hu),e1]
  have hU:=lUnpack_err X aad acap a.fs s hA V3 hu
  generalize unpErr a.fs s=e at *
  (refine U24 ?_;refine kne rfl rfl (r:=true) (cU hu) ?_;refine U9 ?_)
  exact V1E
 have e1:rowE a.fs b.fs r s=valE a.fs b.fs r ((unpZ a.fs s).map qn):=if_pos hu
 have e2:rowN a.fs b.fs r s=if rowE a.fs b.fs r s=0 then packB b.fs (valN a.fs b.fs r ((unpZ a.fs s).map qn)) else []:=rfl
 rw [e1] at e2 ⊢
 have hU:=lUnpack_ok X aad acap a.fs s hA V3 hu
 have hRz:=unp_R hu
 have hl64:=unpZ_len hu
 (refine U13 ?_;refine bE [(1000001,501)] (.tup [.one (.slc 501 0 (unpZ a.fs s).length 3),Sn .i64 0]) [(501,some ⟨86,(nsV (unpZ a.fs s)).map .val,false⟩)] (hU) O O VC O O O O O V18 dS ?_;refine U15 ?_)
 refine LWP.le (σ':=⟨[(10,.sv (.one (.slc 501 0 (unpZ a.fs s).length 3))),(4,Lp 4),(5,Lp 5),(6,Lp 6)],[(501,some ⟨86,(nsV (unpZ a.fs s)).map .val,false⟩),v3B 27 6 r.nw r.old ead r.ex.length ecap,cpB 5 b bad bcap,cpB 4 a aad acap],X⟩) (Le.of V8 V8 V2 V2 V0) ?_
 refine LWP.freeze O O O fun blk zc arr fr hn _ hzc _ hsp => ?_
 have hN:=nums_in (cN X blk (.cells arr 86 fr)) hRz hsp
 have hZ:=cJ (o:=.cells arr 86 fr) hn
 replace hA:=hA.mono hZ
 replace hB:=hB.mono hZ
 replace hE:=hE.mono hZ
 clear hsp hn hZ hU
 generalize withBlock X blk (.cells arr 86 fr)=Z at *
 generalize (some ⟨blk,0,none⟩:Option Addr)=zad at *
 have htwo:∀ u∈(valN a.fs b.fs r ((unpZ a.fs s).map qn)),In2 u.2:=valN_two (fun q hq y hy=>by
  obtain ⟨w,hw⟩:=List.mem_iff_getElem?.1 hq
  obtain ⟨_,_,_,_,_,_,_,_,_,_,hI⟩:=hE.get hw
  exact (hI.small y hy).2.2.2) hN.in2 (fun f hf=>(hB.small f hf).2.2)
 by_cases h0:valE a.fs b.fs r ((unpZ a.fs s).map qn)=0
 case neg =>
  have hV:=eVal_nil' Z a b r ((unpZ a.fs s).map qn) aad bad ead zad acap bcap ecap zc hA hac hB hE hN (by rw [cX];exact hzc) la lb lr V29 h0
  rw [cX] at hV
  rw [if_neg h0] at e2
  rw [e2]
  generalize valE a.fs b.fs r ((unpZ a.fs s).map qn)=e at *
  (refine U5 ?_;refine aU [] [] (hV) O O VC O O O O O V2B dS ?_;refine U10 ?_;refine kne O O (r:=true) (cU h0) ?_;refine U9 ?_)
  exact V1E
 have hV:=eVal_box' Z a b r ((unpZ a.fs s).map qn) aad bad ead zad acap bcap ecap zc hA hac hB hE hN (by rw [cX];exact hzc) la lb lr V29 h0
 have hfit:=valN_fit h0
 obtain ⟨hfl,hfn,_⟩:=fit_all hfit
 have hLn:(valN a.fs b.fs r ((unpZ a.fs s).map qn)).length<4611686018427387904:=by
  have:=sum_le b.fs (layErr_facts hfl).2.1
  omega
 rw [cX] at hV
 rw [if_pos h0] at e2
 rw [e2,h0]
 clear e1 e2
 generalize valN a.fs b.fs r ((unpZ a.fs s).map qn)=L at *
 (refine U5 ?_;refine bE [(1000001,701)] (.tup [.one (.slc 701 0 L.length 3),Sn .i64 0]) [nmsB 701 L true] (hV) O O VC O O O O O V18 dS ?_;refine U15 ?_)
 refine LWP.le (σ':=⟨[(12,.sv (.one (.slc 701 0 L.length 3))),(5,Lp 5)],[nmsB 701 L true,cpB 5 b bad bcap],Z⟩) (Le.of VE VE V2 V2 V0) ?_
 refine LWP.freeze O O O fun b2 c2 arr2 fr2 hn2 _ _ _ hsp2 => ?_
 have hP:=lPack_spec (withBlock Z b2 (.cells arr2 86 fr2)) bad (some ⟨b2,0,none⟩) bcap c2 b.fs L (hB.mono (cJ hn2)) V3 (nms_in (cN _ _ _) htwo hsp2) hLn
 rw [hfit,show packR b.fs L=packB b.fs L from if_pos hfit] at hP
 generalize packB b.fs L=B at *
 refine U11 ?_
 exact V1E
end Go.Proofs.YtopiioklkkiedaaGreatDoor
end
section
set_option maxHeartbeats 12800000
set_option maxRecDepth 100000
namespace Go.Proofs.YtopiioklkkiedaaGreatDoor
open Go Go.Lg Go.Lg.Fml Go.Lg.Fld Go.Lg.Arith
set_option maxRecDepth 100000
theorem part_cases (ps:List Pt) (id:Int):(∃ (i:Nat) (x:Pt),ps[i]? = some x∧x.comp=id∧∀ (j:Nat) (y:Pt),j<i→ps[j]? = some y→(y.comp==id)=false)∨∀ (j:Nat) (y:Pt),ps[j]? = some y→(y.comp==id)=false:=by
 cases hf:ps.findIdx? (fun c=>c.comp==id) with
 | some i =>
  obtain ⟨hi,h1,h2⟩:=List.findIdx?_eq_some_iff_getElem.1 hf
  refine .inl ⟨i,ps[i],cY hi,beq_iff_eq.1 h1,fun j y hj hy => ?_⟩
  obtain ⟨hjl,rfl⟩:=List.getElem?_eq_some_iff.1 hy
  simpa using h2 j hj
 | none =>
  refine .inr fun j y hy => ?_
  simpa using List.findIdx?_eq_none_iff.1 hf y (dE hy)
variable (X:Nat→Option Obj)
set_option maxHeartbeats 25600000 in
theorem eParts' (a b:Sc) (p:Pg) (ps:List Pt) (ad1 ad2 ad pad:Option Addr) (cap1 cap2 cap pcap:Nat) (ha:CompsIn X ad1 a.cs) (hb:CompsIn X ad2 b.cs) (hp:RulesIn X ad p.rs) (hP:PartsC X pad ps) (na:NamesIn a.cs) (nb:NamesIn b.cs) (sa:scOk a.cs) (sb:scOk b.cs) (sp:p.rs.length≤30∧∀ r∈p.rs,r.ex.length≤12∧∀ c∈r.ex,c.length≤80) (sl:ps.length≤12∧∀ x∈ps,x.val.length<4611686018427387904):
  MSpec Tryz.prog X 18 [Sx a.ver ad1 a.cs.length cap1,Sx b.ver ad2 b.cs.length cap2,LPg p.va p.vb ad p.rs.length cap,Lx pad ps.length pcap] [] (pR14 (psE a b p ps) (psV a b p ps)) (pBx14 (psE a b p ps) (psV a b p ps)):=by
 have hC:=cCheck X a b p ad1 ad2 ad cap1 cap2 cap ha hb hp na nb sa sb sp
 obtain ⟨sa1,sa2⟩:=sa
 obtain ⟨sb1,sb2⟩:=sb
 obtain ⟨sl1,sl2⟩:=sl
 have sp1:=sp.1
 have hS:=fun e he=>pPartsBig X a.ver ad1 pad cap1 pcap a.cs ps ha V3 (fun c hc=>by have:=sa2 c hc;omega) hP.parts V3 e he
 refine cG Tryz.func18 rfl V5 rfl (by unfold pR14 pBx14;split<;>rfl) (by unfold pBx14;split<;>exact V0) rfl rfl ?_
 intro C
 refine LWP.ends ?_
 by_cases z1:ckE a b p=0
 case neg =>
  rw [show psE a b p ps=ckE a b p by unfold psE;rw [if_neg z1]]
  unfold pR14 pBx14
  rw [if_neg z1,if_neg z1]
  generalize ckE a b p=e at *
  (refine U20 ?_;refine kne rfl rfl (r:=true) (cU z1) ?_;refine U9 ?_)
  exact cD ⟨[],⟨[_,_],⟨O,O,trivial⟩,O⟩,trivial,O,O⟩
 rw [z1] at hC
 by_cases z2:partsE a.cs ps=0
 case neg =>
  replace hS:=hS _ rfl
  rw [show psE a b p ps=partsE a.cs ps by unfold psE;rw [if_pos z1,if_neg z2]]
  unfold pR14 pBx14
  rw [if_neg z2,if_neg z2]
  generalize partsE a.cs ps=e at *
  (refine U35 ?_;refine kne rfl rfl (r:=true) (cU z2) ?_;refine U9 ?_)
  exact cD ⟨[],⟨[_,_],⟨O,O,trivial⟩,O⟩,trivial,O,O⟩
 replace hS:=hS 0 z2
 obtain ⟨_,_,_,hl,_⟩:=ckE_facts z1
 obtain ⟨hpw,hfacts⟩:=prt_facts z2
 rw [show psE a b p ps=seqE (pqE a) (prS p.rs b.cs ps) by unfold psE;rw [if_pos z1,if_pos z2]]
 unfold psV
 have hsmP:∀ x∈(prS p.rs b.cs ps).map (prV a),smallP x:=fun x hx=>by
  obtain ⟨q,hq,rfl⟩:=List.mem_map.1 hx
  exact (hp.small q.1 (List.of_mem_zip (mem_prS.1 hq).1).1).1
 (refine U41 ?_;refine aZ (zs:=[]) (sz:=2) (e:=59) V5 O O O O O O dS ?_;refine U11 ?_)
 clear hC hS
 refine cM (fun m σ=>∃ (i:Nat) (L:List Pt) (ws:List Value) (H:Nat→Option Obj),i≤p.rs.length∧m=p.rs.length-i∧OwnedM C X H∧PartsH H ws L∧L=(prS (p.rs.take i) (b.cs.take i) ps).map (prV a)∧seqE (pqE a) (prS (p.rs.take i) (b.cs.take i) ps)=0∧σ=⟨[(3,Lx pad ps.length pcap),(4,Lp 4),(5,Lp 5),(12,.sv (.one (.slc 500 0 (L).length 2))),(38,Lx ad p.rs.length cap),(39,Ln .i64 (p.rs.length:Nat)),(40,Ln .i64 (i:Nat))],[(500,some ⟨59,(ptZ (L) (ws)).map .val,(Nat.blt 0 (L).length)⟩),sxB 5 b.ver ad2 b.cs.length cap2,sxB 4 a.ver ad1 a.cs.length cap1],joinM X H⟩) p.rs.length
  (cE (σ':=⟨[(3,Lx pad ps.length pcap),(4,Lp 4),(5,Lp 5),(12,.sv (.one (.slc 500 0 ([]).length 2))),(38,Lx ad p.rs.length cap),(39,Ln .i64 (p.rs.length:Nat)),(40,Ln .i64 (0:Nat))],[(500,some ⟨59,(ptZ ([]) ([])).map .val,false⟩),sxB 5 b.ver ad2 b.cs.length cap2,sxB 4 a.ver ad1 a.cs.length cap1],X⟩) (Le.ofR [(500,36)] V14 V1 V2 V2 V0 V2 V2) (cD ⟨0,[],[],fun _=>none,by omega,by omega,OwnedM.nil C X,PartsH.nil,rfl,rfl,by rw [joinM_nil];rfl⟩)) ?_
 rintro m σ ⟨i,L,ws,H,hi,rfl,hO,G,hL,hpre,rfl⟩
 by_cases hlt:i<p.rs.length
 case neg =>
  have e:i=p.rs.length:=by omega
  subst e
  rw [dG,hl,dG] at hL hpre
  rw [hpre]
  unfold pR14 pBx14
  rw [if_pos rfl,if_pos rfl,← hL]
  rw [← hL] at hsmP
  refine U14 ?_
  refine cE (σ':=⟨[(8,.sv (.one (.slc 500 0 L.length 2))),(9,Ln .i64 0)],[(500,some ⟨59,(ptZ L ws).map .val,Nat.blt 0 L.length⟩)],joinM X H⟩) (Le.ofR [(500,500)] VE V1 V2 V2 V0 V2 V2) ?_
  refine cE Le.loose ?_
  refine Leads.spare fun sp=>prt_shut hO G hsmP (cD ?_)
  exact ⟨[(1000001,500)],⟨[_,_],⟨O,O,trivial⟩,O⟩,V1,O,O⟩
 obtain ⟨r,hr⟩:=wg hlt
 obtain ⟨c,hc⟩:∃ c,b.cs[i]? = some c:=wg V3
 obtain ⟨rb,ro,rarr,rel,rfr,ead,ecap,rfl,hRX,hRz,hRc,_,_,_,hRE⟩:=hp.get hr
 have hior:=wo ro i 3
 have hadd:=wi i V3
 have hRJ:=joinM_has hO hRX
 have hPm:PartsC (joinM X H) pad ps:=hP.mono fun _ _ h=>joinM_has hO h
 have hps:=prS_snoc (ps:=ps) hr hc
 rcases part_cases ps r.old with ⟨j,x,hx,hm,hprx⟩|hno
 case inr =>
  rw [partsOf_none hno,dK] at hps
  have hFi:=efind_no (joinM X H) pad pcap ps r.old hPm V3 hno
  refine U41 ?_
  exact cE (σ':=⟨[(3,Lx pad ps.length pcap),(4,Lp 4),(5,Lp 5),(12,.sv (.one (.slc 500 0 (L).length 2))),(38,Lx (some ⟨rb,ro,none⟩) p.rs.length cap),(39,Ln .i64 (p.rs.length:Nat)),(40,Ln .i64 (i+1:Nat))],[(500,some ⟨59,(ptZ (L) (ws)).map .val,(Nat.blt 0 (L).length)⟩),sxB 5 b.ver ad2 b.cs.length cap2,sxB 4 a.ver ad1 a.cs.length cap1],joinM X H⟩) (Le.ofR [(500,500)] V14 V1 V2 V2 V0 V2 V2) (cD ⟨p.rs.length-(i+1),by omega,i+1,L,ws,H,by omega,rfl,hO,G,by rw [hps];exact hL,by rw [hps];exact hpre,rfl⟩)
 rw [partsOf_one hpw hx hm] at hps
 obtain ⟨post,hpost⟩:∃ post,prS p.rs b.cs ps=prS (p.rs.take i) (b.cs.take i) ps++(r,c,x)::post:=by
  obtain ⟨post,h⟩:=prS_split (ps:=ps) hr hc
  rw [partsOf_one hpw hx hm] at h
  exact ⟨post,h⟩
 have hxm:=dE hx
 obtain ⟨pb,po,parr,pel,pfr,xad,xcap,rfl,hPX,hPz,hPc,_,_,hN,hNc⟩:=hP.get hx
 have hPJ:=joinM_has hO hPX
 have hFi:=efind_yes (joinM X H) _ pcap ps r.old hPm V3 hprx hx hm rfl hPJ hPz hPc
 obtain ⟨d,hd,_⟩:=hfacts x hxm
 have hfo:findC a.cs r.old=some d:=by rw [← hm];exact hd
 obtain ⟨k1,hk1,hid1,hpr1⟩:=findC_at hfo
 obtain ⟨k2,hk2,hid2,hpr2⟩:=findC_at (find_made z1 hr hc)
 obtain ⟨_,_,_,_,_,_,_,_,_,_,_,_,_,_,hdF⟩:=ha.get hk1
 obtain ⟨_,_,_,_,_,_,_,_,_,_,_,_,_,_,hcF⟩:=hb.get hk2
 have hdl:=sa2 d (dE hk1)
 have hcl:=sb2 c (dE hk2)
 refine U38 ?_
 refine LWP.le (σ':=⟨[(14,Lp 14),(15,Lp 15),(3,Lx (some ⟨pb,po,none⟩) ps.length pcap),(4,Lp 4),(5,Lp 5),(12,.sv (.one (.slc 500 0 (L).length 2))),(38,Lx (some ⟨rb,ro,none⟩) p.rs.length cap),(39,Ln .i64 (p.rs.length:Nat)),(40,Ln .i64 (i:Nat))],[v3B 27 14 r.nw r.old ead r.ex.length ecap,(15,some ⟨59,[.val (.int .i64 x.comp),.val (.slice xad x.val.length xcap)],false⟩),(500,some ⟨59,(ptZ (L) (ws)).map .val,(Nat.blt 0 (L).length)⟩),sxB 5 b.ver ad2 b.cs.length cap2,sxB 4 a.ver ad1 a.cs.length cap1],joinM X H⟩) (Le.of V1B V10 V2 V2 V0) ?_
 repeat refine aA ?_
 refine LWP.meetL (fun σ=>∃ (Y:Nat→Option Obj) (w:Cp) (fad:Option Addr) (fcap:Nat),(∀ b o,joinM X H b=some o→Y b=some o)∧w.fs=d.fs∧w.fs.length≤fcap∧FieldsIn Y fad w.fs∧σ=⟨[(17,Lp 17),(14,Lp 14),(15,Lp 15),(3,Lx (some ⟨pb,po,none⟩) ps.length pcap),(4,Lp 4),(5,Lp 5),(12,.sv (.one (.slc 500 0 (L).length 2))),(38,Lx (some ⟨rb,ro,none⟩) p.rs.length cap),(39,Ln .i64 (p.rs.length:Nat)),(40,Ln .i64 (i:Nat))],[cpB 17 w fad fcap,v3B 27 14 r.nw r.old ead r.ex.length ecap,(15,some ⟨59,[.val (.int .i64 x.comp),.val (.slice xad x.val.length xcap)],false⟩),(500,some ⟨59,(ptZ (L) (ws)).map .val,(Nat.blt 0 (L).length)⟩),sxB 5 b.ver ad2 b.cs.length cap2,sxB 4 a.ver ad1 a.cs.length cap1],Y⟩) ?_ ?_
 ·rcases pFind (joinM X H) a.ver ad1 cap1 a.cs r.old (ha.mono fun _ _ h=>joinM_has hO h) V3 (fun c hc=>by have:=sa2 c hc;omega) hpr1 hk1 hid1 with ⟨h0,hf⟩|hf
  ·have hl:d.fs.length=0:=by rw [h0];rfl
   refine U12 ?_
   exact Leads.here (Le.of V24 V11 V2 V2 V0) ⟨joinM X H,d,none,0,fun _ _ h=>h,O,by omega,fields_none h0,O⟩
  ·(refine U4 ?_;refine bE [(1000001,601)] (.tup [SCs d 601,Sb true]) [fdB 601 d.fs] (hf) O O VC O O O O O V18 dS ?_;refine U7 ?_)
   refine cE (σ':=⟨[(17,Lp 17),(14,Lp 14),(15,Lp 15),(3,Lx (some ⟨pb,po,none⟩) ps.length pcap),(4,Lp 4),(5,Lp 5),(12,.sv (.one (.slc 500 0 (L).length 2))),(38,Lx (some ⟨rb,ro,none⟩) p.rs.length cap),(39,Ln .i64 (p.rs.length:Nat)),(40,Ln .i64 (i:Nat))],[(17,some ⟨24,[.val (.int .i64 d.id),.val (.string ⟨d.nm.toArray⟩)] ++ .slc 601 0 d.fs.length 3::[],false⟩),fdB 601 d.fs,v3B 27 14 r.nw r.old ead r.ex.length ecap,(15,some ⟨59,[.val (.int .i64 x.comp),.val (.slice xad x.val.length xcap)],false⟩),(500,some ⟨59,(ptZ (L) (ws)).map .val,(Nat.blt 0 (L).length)⟩),sxB 5 b.ver ad2 b.cs.length cap2,sxB 4 a.ver ad1 a.cs.length cap1],joinM X H⟩) (Le.of V24 V14 V2 V2 V0) ?_
   refine Leads.freezeCell O O O V1F O O fun blk cp arr fr hn _ hcp _ hsp => ?_
   obtain ⟨sp',hsp⟩:=hsp
   exact cE (Le.of V24 V11 V2 V2 V0) (cD ⟨_,d,some ⟨blk,0,none⟩,cp,cJ hn,O,hcp,fields_block (cN _ _ _) hsp hdF.small,O⟩)
 rintro σ ⟨Y,u,wad,wcap,hY,huf,hul,huF,rfl⟩
 repeat refine aA ?_
 refine LWP.meetL (fun σ=>∃ (Z:Nat→Option Obj) (w:Cp) (fad:Option Addr) (fcap:Nat),(∀ b o,Y b=some o→Z b=some o)∧w.fs=c.fs∧w.fs.length≤fcap∧FieldsIn Z fad w.fs∧σ=⟨[(17,Lp 17),(19,Lp 19),(14,Lp 14),(15,Lp 15),(3,Lx (some ⟨pb,po,none⟩) ps.length pcap),(4,Lp 4),(5,Lp 5),(12,.sv (.one (.slc 500 0 (L).length 2))),(38,Lx (some ⟨rb,ro,none⟩) p.rs.length cap),(39,Ln .i64 (p.rs.length:Nat)),(40,Ln .i64 (i:Nat))],[cpB 19 w fad fcap,cpB 17 u wad wcap,v3B 27 14 r.nw r.old ead r.ex.length ecap,(15,some ⟨59,[.val (.int .i64 x.comp),.val (.slice xad x.val.length xcap)],false⟩),(500,some ⟨59,(ptZ (L) (ws)).map .val,(Nat.blt 0 (L).length)⟩),sxB 5 b.ver ad2 b.cs.length cap2,sxB 4 a.ver ad1 a.cs.length cap1],Z⟩) ?_ ?_
 ·rcases pFind (Y) b.ver ad2 cap2 b.cs r.nw (hb.mono fun _ _ h=>hY _ _ (joinM_has hO h)) V3 (fun c hc=>by have:=sb2 c hc;omega) hpr2 hk2 hid2 with ⟨h0,hf⟩|hf
  ·have hl:c.fs.length=0:=by rw [h0];rfl
   refine U12 ?_
   exact Leads.here (Le.of (by exact ⟨O,O,O,O,O,O,O,O,O,O,O,trivial⟩) V14 V2 V2 V0) ⟨Y,c,none,0,fun _ _ h=>h,O,by omega,fields_none h0,O⟩
  ·(refine U4 ?_;refine bE [(1000001,601)] (.tup [SCs c 601,Sb true]) [fdB 601 c.fs] (hf) O O VC O O O O O V18 dS ?_;refine U7 ?_)
   refine cE (σ':=⟨[(17,Lp 17),(19,Lp 19),(14,Lp 14),(15,Lp 15),(3,Lx (some ⟨pb,po,none⟩) ps.length pcap),(4,Lp 4),(5,Lp 5),(12,.sv (.one (.slc 500 0 (L).length 2))),(38,Lx (some ⟨rb,ro,none⟩) p.rs.length cap),(39,Ln .i64 (p.rs.length:Nat)),(40,Ln .i64 (i:Nat))],[(19,some ⟨24,[.val (.int .i64 c.id),.val (.string ⟨c.nm.toArray⟩)] ++ .slc 601 0 c.fs.length 3::[],false⟩),fdB 601 c.fs,cpB 17 u wad wcap,v3B 27 14 r.nw r.old ead r.ex.length ecap,(15,some ⟨59,[.val (.int .i64 x.comp),.val (.slice xad x.val.length xcap)],false⟩),(500,some ⟨59,(ptZ (L) (ws)).map .val,(Nat.blt 0 (L).length)⟩),sxB 5 b.ver ad2 b.cs.length cap2,sxB 4 a.ver ad1 a.cs.length cap1],Y⟩) (Le.of (by exact ⟨O,O,O,O,O,O,O,O,O,O,O,trivial⟩) V15 V2 V2 V0) ?_
   refine Leads.freezeCell O O O V1F O O fun blk cp arr fr hn _ hcp _ hsp => ?_
   obtain ⟨sp',hsp⟩:=hsp
   exact cE (Le.of (by exact ⟨O,O,O,O,O,O,O,O,O,O,O,trivial⟩) V14 V2 V2 V0) (cD ⟨_,c,some ⟨blk,0,none⟩,cp,cJ hn,O,hcp,fields_block (cN _ _ _) hsp hcF.small,O⟩)
 rintro σ ⟨Z,w,fad,fcap,hZ,hwf,hwl,hwF,rfl⟩
 have hXZ:∀ b o,X b=some o→Z b=some o:=fun b o h=>hZ b o (hY b o (joinM_has hO h))
 have hJZ:∀ b o,joinM X H b=some o→Z b=some o:=fun b o h=>hZ b o (hY b o h)
 have hrl:=sp.2 r (dE hr)
 have hUF:FieldsIn Z wad u.fs:=huF.mono hZ
 have hNZ:NumsIn Z xad x.val:=⟨hN.rows.mono hXZ,hN.in2⟩
 have hREZ:=hRE.mono hXZ
 have hfl:flC a x.comp=d.fs:=by unfold flC;rw [show findC a.cs x.comp=some d from hd]
 have hqE:pqE a (r,c,x)=valE u.fs w.fs r x.val:=by show valE (flC a x.comp) c.fs r x.val=_;rw [hfl,huf,hwf]
 have hqV:prV a (r,c,x)=⟨r.nw,valN u.fs w.fs r x.val⟩:=by show (⟨r.nw,valN (flC a x.comp) c.fs r x.val⟩:Pt)=_;rw [hfl,huf,hwf]
 have hv2:∀ y∈valN u.fs w.fs r x.val,In2 y.2:=valN_two (fun q hq y hy=>by
  obtain ⟨g,hg⟩:=List.mem_iff_getElem?.1 hq
  obtain ⟨_,_,_,_,_,_,_,_,_,_,hI⟩:=hREZ.get hg
  exact (hI.small y hy).2.2.2) hNZ.in2 (fun f hf=>(hwF.small f hf).2.2)
 have hu12:u.fs.length≤12:=by rw [huf];exact hdl
 have hw12:w.fs.length≤12:=by rw [hwf];exact hcl
 by_cases he:valE u.fs w.fs r x.val=0
 case neg =>
  have hV:=eVal_nil' Z u w r x.val wad fad ead xad wcap fcap ecap xcap hUF hul hwF hREZ hNZ hNc hu12 hw12 hrl (sl2 x hxm) he
  rw [seqE_hit hpost hpre (by rw [hqE];exact he),hqE]
  unfold pR14 pBx14
  rw [if_neg he,if_neg he]
  generalize valE u.fs w.fs r x.val=e at *
  (refine U7 ?_;refine aU [] [] (hV) O O VC O O O O O V2B dS ?_;refine U10 ?_;refine kne O O (r:=true) (cU he) ?_;refine U9 ?_)
  exact cD ⟨[],⟨[_,_],⟨O,O,trivial⟩,O⟩,trivial,O,O⟩
 have hV:=eVal_box' Z u w r x.val wad fad ead xad wcap fcap ecap xcap hUF hul hwF hREZ hNZ hNc hu12 hw12 hrl (sl2 x hxm) he
 have hpre2:seqE (pqE a) (prS (p.rs.take (i+1)) (b.cs.take (i+1)) ps)=0:=by
  rw [hps];exact seqE_snoc hpre (hqE.trans he)
 have hL2:L++[⟨r.nw,valN u.fs w.fs r x.val⟩]=(prS (p.rs.take (i+1)) (b.cs.take (i+1)) ps).map (prV a):=by
  rw [hps,dI,← hL,List.map_cons,List.map_nil,hqV]
 generalize valN u.fs w.fs r x.val=N at *
 have hlen:=G.len
 have hLl:L.length≤1000:=by
  rw [hL,cX]
  have h2:=(prS_sub (cs:=b.cs.take i) (rs:=p.rs.take i) hpw).length_le
  rw [cX,dA] at h2
  omega
 have hcl2:((ptZ L ws).map CV.val).length=L.length*2:=by rw [cX,ptZ_len hlen]
 have hnl:L.length+1=(L++[(⟨r.nw,N⟩:Pt)]).length:=by rw [cW];rfl
 have hrow:Nat.blt 0 (L++[(⟨r.nw,N⟩:Pt)]).length=true:=by rw [cW];simp
 (refine U7 ?_;refine bE [(1000001,601)] (.tup [.one (.slc 601 0 N.length 3),Sn .i64 0]) [nmsB 601 N true] (hV) O O VC O O O O O V18 dS ?_;refine U20 ?_;refine aZ (zs:=[.int .i64 0,.slice none 0 0]) (sz:=2) (e:=59) (cs':=[.val (.int .i64 r.nw),.slc 601 0 N.length 3]) V5 O O O O O O dS<|bQ (by_:=32) (e2:=59) (l2:=[.val (.int .i64 r.nw),.slc 601 0 N.length 3]) (nl:=(L++[(⟨r.nw,N⟩:Pt)]).length) (nc:=(ptZ L ws++[Value.int .i64 r.nw]).map .val ++ .slc 601 0 N.length 3::([]:List Value).map .val) O O hcl2 O O (dO _) O O V5 V5 V3 V3 O hnl V21 dS ?_;refine U6 ?_)
 refine cE (σ':=⟨[(3,Lx (some ⟨pb,po,none⟩) ps.length pcap),(4,Lp 4),(5,Lp 5),(12,.sv (.one (.slc 500 0 (L++[(⟨r.nw,N⟩:Pt)]).length 2))),(38,Lx (some ⟨rb,ro,none⟩) p.rs.length cap),(39,Ln .i64 (p.rs.length:Nat)),(40,Ln .i64 (i+1:Nat))],[(500,some ⟨59,(ptZ L ws++[Value.int .i64 r.nw]).map .val ++ .slc 601 0 N.length 3::([]:List Value).map .val,true⟩),nmsB 601 N true,sxB 5 b.ver ad2 b.cs.length cap2,sxB 4 a.ver ad1 a.cs.length cap1],Z⟩) (Le.ofR [(500,85),(601,601)] V14 V1 V2 V2 V0 V2 V2) ?_
 refine cE (Le.drop hJZ) ?_
 refine Leads.closeCell hO (by have:=nmsV_len N;rw [cX] at this;exact this) rfl bU rfl V1F rfl rfl fun bk ob v g1 _ hO3 hv=>cD ⟨p.rs.length-(i+1),by omega,i+1,L++[⟨r.nw,N⟩],ws++[v],withBlock H bk ob,by omega,rfl,hO3,(G.mono (cJ g1)).push (nms_leads hv hv2),hL2,hpre2,?_⟩
 rw [ptZ_add hlen,hrow]
 simp
end Go.Proofs.YtopiioklkkiedaaGreatDoor
end
section
set_option maxHeartbeats 12800000
set_option maxRecDepth 100000
namespace Go.Proofs.YtopiioklkkiedaaGreatDoor
open Go Go.Lg Go.Lg.Fml Go.Lg.Fld Go.Lg.Arith
set_option maxRecDepth 100000
variable (X:Nat→Option Obj)
theorem eVal_nil (a b:Cp) (r:Rl) (ns:List Nm) (aad bad ead vad:Option Addr) (acap bcap ecap vcap:Nat) (hA:FieldsIn X aad a.fs) (hac:a.fs.length≤acap) (hB:FieldsIn X bad b.fs) (hE:CodesIn X ead r.ex) (hN:NumsIn X vad ns) (hvc:ns.length≤vcap) (la:a.fs.length≤12) (lb:b.fs.length≤12) (lr:r.ex.length≤12∧∀ c∈r.ex,c.length≤80) (ln:ns.length<4611686018427387904) (h:vShape (valE a.fs b.fs r ns) (valA a.fs b.fs r ns)=false):
  MSpec Tryz.prog X 12 [Cx a aad acap,Cx b bad bcap,LPg r.nw r.old ead r.ex.length ecap,Lx vad ns.length vcap] [] (.tup [.one (.val (.slice none 0 0)),Sn .i64 (valE a.fs b.fs r ns)]) []:=
 eVal_nil' X a b r ns aad bad ead vad acap bcap ecap vcap hA hac hB hE hN hvc la lb lr ln fun e=>by
  unfold vShape at h
  rw [e] at h
  cases h
theorem eVal_box (a b:Cp) (r:Rl) (ns:List Nm) (aad bad ead vad:Option Addr) (acap bcap ecap vcap:Nat) (hA:FieldsIn X aad a.fs) (hac:a.fs.length≤acap) (hB:FieldsIn X bad b.fs) (hE:CodesIn X ead r.ex) (hN:NumsIn X vad ns) (hvc:ns.length≤vcap) (la:a.fs.length≤12) (lb:b.fs.length≤12) (lr:r.ex.length≤12∧∀ c∈r.ex,c.length≤80) (ln:ns.length<4611686018427387904) (h:vShape (valE a.fs b.fs r ns) (valA a.fs b.fs r ns)=true):
  MSpec Tryz.prog X 12 [Cx a aad acap,Cx b bad bcap,LPg r.nw r.old ead r.ex.length ecap,Lx vad ns.length vcap] [] (.tup [.one (.slc 1000001 0 (valA a.fs b.fs r ns).length 3),Sn .i64 (valE a.fs b.fs r ns)]) [nmsB 1000001 (valA a.fs b.fs r ns) (vRow (valA a.fs b.fs r ns))]:=by
 have e:valE a.fs b.fs r ns=0:=by
  unfold vShape at h
  exact beq_iff_eq.1 h
 rw [show valA a.fs b.fs r ns=valN a.fs b.fs r ns from if_pos e,e]
 exact eVal_box' X a b r ns aad bad ead vad acap bcap ecap vcap hA hac hB hE hN hvc la lb lr ln e
theorem eRow (a b:Cp) (r:Rl) (s:List UInt8) (aad bad ead:Option Addr) (acap bcap ecap:Nat) (hA:FieldsIn X aad a.fs) (hac:a.fs.length≤acap) (hB:FieldsIn X bad b.fs) (hE:CodesIn X ead r.ex) (la:a.fs.length≤12) (lb:b.fs.length≤12) (lr:r.ex.length≤12∧∀ c∈r.ex,c.length≤80) (ls:s.length≤1000):
  PSpec Tryz.prog X 15 [Cx a aad acap,Cx b bad bcap,LPg r.nw r.old ead r.ex.length ecap,Ls s] (.tup [Ss (rowN a.fs b.fs r s),Sn .i64 (rowE a.fs b.fs r s)]):=
 eRow' X a b r s aad bad ead acap bcap ecap hA hac hB hE la lb lr
theorem eSig (va vb:Int) (rs:List Rl) (ad:Option Addr) (cap s:Nat) (hp:RulesIn X ad rs) (hl:rs.length<4611686018427387904) (hs:s<4294967296):
  PSpec Tryz.prog X 20 [LPg va vb ad rs.length cap,Ln .u32 (s:Nat)] (Ln .u32 (sigN rs s:Nat)):=
 eSig' X va vb rs ad cap s hp hl hs
theorem eParts_nil (a b:Sc) (p:Pg) (ps:List Pt) (ad1 ad2 ad pad:Option Addr) (cap1 cap2 cap pcap:Nat) (ha:CompsIn X ad1 a.cs) (hb:CompsIn X ad2 b.cs) (hp:RulesIn X ad p.rs) (hP:PartsC X pad ps) (hpc:ps.length≤pcap) (na:NamesIn a.cs) (nb:NamesIn b.cs) (sa:scOk a.cs) (sb:scOk b.cs) (sp:p.rs.length≤30∧∀ r∈p.rs,r.ex.length≤12∧∀ c∈r.ex,c.length≤80) (sl:ps.length≤12∧∀ x∈ps,x.val.length<4611686018427387904) (h:pShape (psE a b p ps) (psA a b p ps)=false):
  MSpec Tryz.prog X 18 [Sx a.ver ad1 a.cs.length cap1,Sx b.ver ad2 b.cs.length cap2,LPg p.va p.vb ad p.rs.length cap,Lx pad ps.length pcap] [] (.tup [.one (.val (.slice none 0 0)),Sn .i64 (psE a b p ps)]) []:=by
 have e:psE a b p ps≠0:=fun e=>by
  unfold pShape at h
  rw [e] at h
  cases h
 have:=eParts' X a b p ps ad1 ad2 ad pad cap1 cap2 cap pcap ha hb hp hP na nb sa sb sp sl
 unfold pR14 pBx14 at this
 rw [if_neg e,if_neg e] at this
 exact this
theorem eParts_box (a b:Sc) (p:Pg) (ps:List Pt) (ad1 ad2 ad pad:Option Addr) (cap1 cap2 cap pcap:Nat) (ha:CompsIn X ad1 a.cs) (hb:CompsIn X ad2 b.cs) (hp:RulesIn X ad p.rs) (hP:PartsC X pad ps) (hpc:ps.length≤pcap) (na:NamesIn a.cs) (nb:NamesIn b.cs) (sa:scOk a.cs) (sb:scOk b.cs) (sp:p.rs.length≤30∧∀ r∈p.rs,r.ex.length≤12∧∀ c∈r.ex,c.length≤80) (sl:ps.length≤12∧∀ x∈ps,x.val.length<4611686018427387904) (h:pShape (psE a b p ps) (psA a b p ps)=true):
  MSpec Tryz.prog X 18 [Sx a.ver ad1 a.cs.length cap1,Sx b.ver ad2 b.cs.length cap2,LPg p.va p.vb ad p.rs.length cap,Lx pad ps.length pcap] [] (.tup [.one (.slc 1000001 0 (psA a b p ps).length 2),Sn .i64 (psE a b p ps)]) [prtB 1000001 (psA a b p ps)]:=by
 have e:psE a b p ps=0:=by
  unfold pShape at h
  exact beq_iff_eq.1 h
 rw [show psA a b p ps=psV a b p ps from if_pos e,e]
 have:=eParts' X a b p ps ad1 ad2 ad pad cap1 cap2 cap pcap ha hb hp hP na nb sa sb sp sl
 unfold pR14 pBx14 at this
 rw [if_pos e,if_pos e] at this
 exact this
end Go.Proofs.YtopiioklkkiedaaGreatDoor
end
