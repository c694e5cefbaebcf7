/- A piece of a proof over this program: contracts of its functions, and a logic to prove them by. -/
import Derived.Test.YtopiioklkkiedaaGreatDoorS2
import Derived.Test.YtopiioklkkiedaaGreatDoorS3
import Derived.Test.YtopiioklkkiedaaGreatDoorS4
import Derived.Test.YtopiioklkkiedaaGreatDoorS5
import Derived.Test.YtopiioklkkiedaaGreatDoorS6
import Derived.Laws.BitsAllLaws
import Derived.Lib.Join
import Derived.Lib.IndexLaws
import Derived.Lib.ItoaLen
section
namespace Go.Proofs.YtopiioklkkiedaaGreatDoor
open Go Go.Lg Go.Lg.Fml Go.Lg.Fld Go.Lg.Arith
theorem cut_flat:∀ {fs:List Fl} {ns:List Nm},ns.length=sumC fs→(cutN fs ns).flatten=ns
 | [],ns,h=>by
  have:ns=[]:=List.length_eq_zero_iff.1 h
  rw [this];rfl
 | f::t,ns,h=>by
  have e:sumC (f::t)=f.n+sumC t:=by simp [sumC]
  rw [e] at h
  show ns.take f.n++(cutN t (ns.drop f.n)).flatten=ns
  rw [cut_flat (by rw [cX];omega),List.take_append_drop]
theorem cutN_len:∀ {fs:List Fl} {ns:List Nm},(cutN fs ns).length=fs.length
 | [],_=>rfl
 | f::t,ns=>by show (cutN t (ns.drop f.n)).length+1=t.length+1;rw [cutN_len]
theorem cut_at:∀ {fs:List Fl} {ns:List Nm} {i:Nat} {f:Fl},fs[i]? = some f→(cutN fs ns)[i]? = some ((ns.drop (sumC (fs.take i))).take f.n)
 | g::t,ns,0,f,h=>by
  simp only [List.getElem?_cons_zero,Option.some.injEq] at h
  subst h
  rfl
 | g::t,ns,i+1,f,h=>by
  simp only [List.getElem?_cons_succ] at h
  have:=cut_at (ns:=ns.drop g.n) h
  show (cutN t (ns.drop g.n))[i]? = _
  rw [this,List.drop_drop]
  have e:sumC ((g::t).take (i+1))=g.n+sumC (t.take i):=by simp [sumC]
  rw [e]
 | [],_,_,_,h=>by simp at h
theorem cut_mem {fs:List Fl} {ns:List Nm} {l:List Nm} (h:l∈cutN fs ns):∀ u∈l,u∈ns:=fun u hu=>by
 obtain ⟨i,hi⟩:=List.mem_iff_getElem?.1 h
 have hl:=(List.getElem?_eq_some_iff.1 hi).1
 rw [cutN_len] at hl
 rw [cut_at (cU hl)] at hi
 cases hi
 exact List.mem_of_mem_drop (List.mem_of_mem_take hu)
theorem sum_take {fs:List Fl} {i:Nat} {f:Fl} (h:fs[i]? = some f):sumC (fs.take i)+f.n≤sumC fs:=by
 have e:sumC fs=sumC (fs.take (i+1))+sumC (fs.drop (i+1)):=by
  unfold sumC
  rw [← List.sum_append_nat,← dE,List.take_append_drop]
 rw [e,take_snoc h,sum_snoc]
 omega
theorem steps_map {g:Sp→Nm}:∀ {gs:List Fl} {ex:List (List Ins)} {L:List (List Nm)},gs.length=ex.length→gs.length=L.length→(∀ (i:Nat) (f:Fl) (c:List Ins) (l:List Nm),gs[i]? = some f→ex[i]? = some c→L[i]? = some l→(fldS f c f.n).map g=l)→(stepsN gs ex).map g=L.flatten
 | [],[],[],_,_,_=>rfl
 | f::gs,c::ex,l::L,h1,h2,h=>by
  simp only [dF] at h1 h2
  have ih:=steps_map (g:=g) (gs:=gs) (ex:=ex) (L:=L) (by omega) (by omega) fun i f c l a b d=>h (i+1) f c l a b d
  simp only [stepsN,dE,List.flatten_cons,ih]
  rw [h 0 f c l rfl rfl rfl]
 | [],_::_,_,h,_,_=>by simp at h
 | _::_,[],_,h,_,_=>by simp at h
 | [],_,_::_,_,h,_=>by simp at h
 | _::_,_,[],_,h,_=>by simp at h
theorem fit_gd {k:Int} {n:Nm} (h:fitB k n.1 n.2=true):gd n=true:=by
 unfold fitB at h
 simp only [Bool.and_eq_true] at h
 exact h.2.1
theorem fit_all {fs:List Fl} {ns:List Nm} (h:fitErr fs ns=0):layErr fs=0∧ns.length=sumC fs∧∀ (j:Nat) (e:Int×Nat) (n:Nm),(elemsAt 0 fs)[j]? = some e→ns[j]? = some n→fitB e.1 n.1 n.2=true:=by
 unfold fitErr at h
 by_cases h1:layErr fs=0
 ·rw [if_pos h1] at h
  by_cases h2:(elemsAt 0 fs).length=ns.length
  ·rw [if_pos h2] at h
   by_cases h3:fitAll (elemsAt 0 fs) ns=true
   ·refine ⟨h1,by rw [← h2,elems_sum],fun j e n he hn => ?_⟩
    unfold fitAll at h3
    exact List.all_eq_true.1 h3 (e,n) (cZ (by rw [List.getElem?_zip_eq_some];exact ⟨he,hn⟩))
   ·rw [if_neg h3] at h;cases h
  ·rw [if_neg h2] at h;cases h
 ·rw [if_neg h1] at h;exact absurd h h1
theorem fit_good {fs:List Fl} {ns:List Nm} (h:fitErr fs ns=0):∀ n∈ns,gd n=true:=fun n hn=>by
 obtain ⟨_,h2,h3⟩:=fit_all h
 obtain ⟨j,hj⟩:=List.mem_iff_getElem?.1 hn
 obtain ⟨e,he⟩:∃ e,(elemsAt 0 fs)[j]? = some e:=⟨_,cU (by rw [elems_sum,← h2];exact (List.getElem?_eq_some_iff.1 hj).1)⟩
 exact fit_gd (h3 j e n he hj)
theorem ev_here {F:List (List Nm)} {i k:Nat} {l:List Nm} {v:Nm} (hi:i≤7) (hl:F[i]? = some l) (hv:l[k]? = some v) (hg:gd v=true):evX [⟨3,i,0,(false,0)⟩] F k = .ok v:=by
 have hc:chkX [⟨3,(i:Int),0,(false,0)⟩]=0:=chkX_one (by
  unfold okI
  simp only [Bool.and_eq_true,decide_eq_true_eq]
  exact ⟨by decide,by decide +kernel,by omega,by omega⟩) (by show takes 3=0;decide)
 unfold evX
 rw [if_pos hc]
 have he:elemX F (i:Int) (k:Int) = .ok v:=by
  unfold elemX
  rw [if_neg (by omega)]
  simp only [dD,hl,hv]
 have hr:run (oneX F (k:Int)) [⟨3,(i:Int),0,(false,0)⟩] [] = .ok [v]:=by
  have h1:oneX F (k:Int) ⟨3,(i:Int),0,(false,0)⟩ [] = .ok v:=by
   unfold oneX
   rw [if_pos (by show takes 3=0;decide)]
   exact he
  simp [run,h1]
 rw [hr]
 show (if gd v=true then (Except.ok v:Except Int Nm) else .error 4) = .ok v
 rw [if_pos hg]
theorem mem_steps:∀ {gs:List Fl} {ex:List (List Ins)} {q:Sp},q∈stepsN gs ex→∃ i:Nat,gs[i]? = some q.1∧ex[i]? = some q.2.1∧q.2.2<q.1.n
 | f::gs,c::ex,q,h=>by
  simp only [stepsN,List.mem_append] at h
  rcases h with h|h
  ·unfold fldS at h
   obtain ⟨k,hk,rfl⟩:=List.mem_map.1 h
   exact ⟨0,O,O,List.mem_range.1 hk⟩
  ·obtain ⟨i,h1,h2,h3⟩:=mem_steps h
   exact ⟨i+1,h1,h2,h3⟩
 | [],_,_,h=>by simp [stepsN] at h
 | _::_,[],_,h=>by simp [stepsN] at h
theorem plain_self {fs:List Fl} (hn:firstE (fldE fs) 0 fs.length=0) {i:Nat} {f:Fl} (hf:fs[i]? = some f):plainF fs f=⟨3,i,0,(false,0)⟩:=by
 obtain ⟨hi,e⟩:=List.getElem?_eq_some_iff.1 hf
 have hx:fs.findIdx? (fun g=>g.nm==f.nm)=some i:=by
  rw [List.findIdx?_eq_some_iff_getElem]
  refine ⟨hi,by rw [e];simp,fun j hj => ?_⟩
  have:=fields_apart hn hj (cU (by omega)) hf
  simpa using this
 unfold plainF
 rw [hx]
 simp only
 rw [hf]
 simp only
 rw [if_pos ⟨Int.le_refl _,trivial⟩]
def keepR (c:Cp):Rl:=⟨c.id,c.id,c.fs.map fun f=>[plainF c.fs f]⟩
section
variable {c:Cp} (hn:firstE (fldE c.fs) 0 c.fs.length=0) {ns:List Nm} (h:fitErr c.fs ns=0)
include hn h
theorem keep_ev {i k:Nat} {f:Fl} (hf:c.fs[i]? = some f) (hk:k<f.n):∃ v,(cutN c.fs ns)[i]? = some ((ns.drop (sumC (c.fs.take i))).take f.n)∧((ns.drop (sumC (c.fs.take i))).take f.n)[k]? = some v∧evX [plainF c.fs f] (cutN c.fs ns) k = .ok v:=by
 obtain ⟨h1,h2,_⟩:=fit_all h
 have h8:=(layErr_facts h1).1
 have hi:=(List.getElem?_eq_some_iff.1 hf).1
 have hs:=sum_take hf
 obtain ⟨v,hv⟩:∃ v,((ns.drop (sumC (c.fs.take i))).take f.n)[k]? = some v:=⟨_,cU (by rw [cW,cX];omega)⟩
 refine ⟨v,cut_at hf,hv,?_⟩
 rw [plain_self hn hf]
 exact ev_here (by omega) (cut_at hf) hv (fit_good h v (List.mem_of_mem_drop (List.mem_of_mem_take (cZ hv))))
theorem keep_val:valN c.fs c.fs (keepR c) ns=ns:=by
 obtain ⟨h1,h2,_⟩:=fit_all h
 unfold valN keepR
 simp only
 rw [steps_map (L:=cutN c.fs ns) (by rw [cT]) cutN_len.symm,cut_flat h2]
 intro i f d l hf hd hl
 rw [dI,hf] at hd
 simp only [Option.map_some,Option.some.injEq] at hd
 subst hd
 rw [cut_at hf] at hl
 simp only [Option.some.injEq] at hl
 subst hl
 have hs:=sum_take hf
 apply List.ext_getElem?
 intro k
 by_cases hk:k<f.n
 ·obtain ⟨v,_,hv,he⟩:=keep_ev hn h hf hk
  rw [hv,dI]
  have:(fldS f [plainF c.fs f] f.n)[k]? = some (f,[plainF c.fs f],k):=by unfold fldS;rw [dI,List.getElem?_range hk];rfl
  rw [this]
  show some (stepV (cutN c.fs ns) (f,[plainF c.fs f],k))=some v
  unfold stepV
  simp only
  rw [he];rfl
 ·rw [List.getElem?_eq_none (by rw [cT,fldS_len];omega),List.getElem?_eq_none (by rw [cW,cX];omega)]
theorem keep_steps:seqE (stepE (cutN c.fs ns)) (stepsN c.fs (keepR c).ex)=0:=by
 refine seqE_none fun q hq => ?_
 obtain ⟨i,h1,h2,h3⟩:=mem_steps hq
 have h2':q.2.1=[plainF c.fs q.1]:=by
  unfold keepR at h2
  simp only at h2
  rw [dI,h1] at h2
  simpa using h2.symm
 obtain ⟨v,_,_,he⟩:=keep_ev hn h h1 h3
 obtain ⟨j,hj⟩:=List.mem_iff_getElem?.1 hq
 have hl:(keepR c).ex.length=c.fs.length:=by unfold keepR;rw [cT]
 have hkk:=congrArg (fun l=>l[j]?) (elems_kinds c.fs (keepR c).ex 0 hl)
 simp only [dI,hj,Option.map_some] at hkk
 have hvv:=congrArg (fun l=>l[j]?) (keep_val hn h)
 unfold valN at hvv
 simp only [dI,hj,Option.map_some] at hvv
 obtain ⟨e,hee⟩:∃ e,(elemsAt 0 c.fs)[j]? = some e:=by
  cases hq2:(elemsAt 0 c.fs)[j]? with
  | none=>rw [hq2] at hkk;cases hkk
  | some e=>exact ⟨e,rfl⟩
 rw [hee] at hkk
 simp only [Option.map_some,Option.some.injEq] at hkk
 have hfit:=(fit_all h).2.2 j e _ hee hvv.symm
 unfold stepE
 rw [h2',he,show erV (Except.ok v:Except Int Nm)=0 from rfl,if_pos rfl,if_pos]
 rw [← hkk];exact hfit
end
theorem keep_rule {a:Sc} (ha:chkE a=0) {c:Cp} (hm:c∈a.cs):plainR a c=keepR c:=by
 have hf:findC a.cs c.id=some c:=find_good (chkE_good ha).2 hm
 unfold plainR
 rw [hf]
 rfl
section
variable {a b:Sc} (hc:b.cs=a.cs) (ha:chkE a=0)
include hc ha
theorem keep_part {ps:List Pt} (hp:partsE a.cs ps=0) {q:Sq} (hq:q∈prS (plainP a b).rs b.cs ps):q.2.1∈a.cs∧q.1=keepR q.2.1∧q.2.2∈ps∧q.2.2.comp=q.2.1.id∧flC a q.2.2.comp=q.2.1.fs∧fitErr q.2.1.fs q.2.2.val=0:=by
 obtain ⟨g1,g2,g3⟩:=mem_prS.1 hq
 obtain ⟨m1,m2⟩:=zip_map_mem g1
 simp only at m1 m2
 rw [hc] at m1
 have hr:=keep_rule ha m1
 rw [hr] at m2
 have hid:q.2.2.comp=q.2.1.id:=by rw [g3,m2];rfl
 obtain ⟨d,hd,hfit⟩:=(prt_facts hp).2 q.2.2 g2
 have he:a.cs.find? (fun c=>c.id==q.2.2.comp)=some q.2.1:=by rw [hid];exact find_good (chkE_good ha).2 m1
 rw [he] at hd
 cases hd
 refine ⟨m1,m2,g2,hid,?_,hfit⟩
 unfold flC findC
 rw [he]
theorem keep_psE (hb:chkE b=0) (hv:a.ver<b.ver) {ps:List Pt} (hp:partsE a.cs ps=0):psE a b (plainP a b) ps=0:=by
 have hk:=plain_ok ha hb hv
 obtain ⟨_,_,_,_,hz⟩:=ckE_facts hk
 unfold psE
 rw [if_pos hk,if_pos hp]
 refine seqE_none fun q hq => ?_
 obtain ⟨m1,m2,m3,m4,m5,m6⟩:=keep_part hc ha hp hq
 obtain ⟨g1,_,_⟩:=mem_prS.1 hq
 have hru:=(hz _ g1).2
 have hgd:=(chkE_good ha).2
 obtain ⟨i,hi⟩:=List.mem_iff_getElem?.1 m1
 obtain ⟨o1,_,_,o4,o5⟩:=hgd.one i _ hi
 have hold:q.1.old=q.2.1.id:=by rw [m2];rfl
 unfold pqE valE
 rw [m5,if_pos m6,if_pos o5,if_neg (by rw [hold];omega)]
 have hru2:ruE q.2.1.fs q.2.1.fs q.1=0:=by
  have:ruC a (q.1,q.2.1)=ruE (flC a q.1.old) q.2.1.fs q.1:=rfl
  rw [this,hold,← m4,m5] at hru
  exact hru
 rw [if_pos hru2,m2]
 exact keep_steps o4 m6
theorem keep_prV {ps:List Pt} (hp:partsE a.cs ps=0) {q:Sq} (hq:q∈prS (plainP a b).rs b.cs ps):prV a q=q.2.2:=by
 obtain ⟨m1,m2,m3,m4,m5,m6⟩:=keep_part hc ha hp hq
 obtain ⟨i,hi⟩:=List.mem_iff_getElem?.1 m1
 obtain ⟨_,_,_,o4,_⟩:=(chkE_good ha).2.one i _ hi
 unfold prV
 rw [m5,m2,keep_val o4 m6]
 obtain ⟨q1,q2,q3⟩:=q
 simp only at m4 ⊢
 show (⟨q2.id,q3.val⟩:Pt)=q3
 rw [← m4]
theorem keep_in {ps:List Pt} (hp:partsE a.cs ps=0) {x:Pt} (hx:x∈ps):x∈psV a b (plainP a b) ps:=by
 obtain ⟨c,hf,_⟩:=(prt_facts hp).2 x hx
 have hm:=List.mem_of_find?_eq_some hf
 have hid:c.id=x.comp:=by simpa using List.find?_some hf
 have hq:(keepR c,c,x)∈prS (plainP a b).rs b.cs ps:=by
  refine mem_prS.2 ⟨?_,hx,hid.symm⟩
  rw [← keep_rule ha hm]
  obtain ⟨i,hi⟩:=List.mem_iff_getElem?.1 hm
  exact cZ (i:=i) (by
   rw [List.getElem?_zip_eq_some]
   refine ⟨?_,by rw [hc];exact hi⟩
   show (b.cs.map (plainR a))[i]? = _
   rw [dI,hc,hi];rfl)
 have:=List.mem_map_of_mem (f:=prV a) hq
 rwa [keep_prV hc ha hp hq] at this
variable (hb:chkE b=0) (hv:a.ver<b.ver)
include hb hv
theorem keep_one {x:Pt} (hp:partsE a.cs [x]=0):(prS (plainP a b).rs b.cs [x]).length=1:=by
 have hin:=keep_in hc ha hp (List.mem_singleton.2 rfl)
 have hpe:=keep_psE hc ha hb hv hp
 have hord:=whole_order hpe
 have hl:(psV a b (plainP a b) [x]).length=(prS (plainP a b).rs b.cs [x]).length:=by unfold psV;rw [cT]
 rw [← hl]
 have hall:∀ y∈psV a b (plainP a b) [x],y.comp=x.comp:=fun y hy=>by
  obtain ⟨q,hq,rfl⟩:=List.mem_map.1 hy
  rw [keep_prV hc ha hp hq]
  rw [List.mem_singleton.1 (mem_prS.1 hq).2.1]
 generalize psV a b (plainP a b) [x]=l at *
 match l,hin,hord,hall with
 | [_],_,_,_=>rfl
 | y::z::t,_,hord,hall =>
  have:=(List.pairwise_cons.1 hord).1 z (List.mem_cons_self ..)
  have e1:=hall y (List.mem_cons_self ..)
  have e2:=hall z (List.mem_cons_of_mem _ (List.mem_cons_self ..))
  omega
theorem keep_len {ps:List Pt} (hp:partsE a.cs ps=0):(psV a b (plainP a b) ps).length=ps.length:=by
 have hone:∀ x∈ps,partsE a.cs [x]=0:=fun x hx=>prt_ok (List.pairwise_singleton _ _) fun y hy=>by rw [List.mem_singleton.1 hy];exact (prt_facts hp).2 x hx
 have key:∀ i,i≤ps.length→(prS (plainP a b).rs b.cs (ps.take i)).length=i:=by
  intro i
  induction i with
  | zero =>
   intro _
   rw [List.take_zero]
   have:∀ (rs:List Rl) (cs:List Cp),prS rs cs []=[]:=by
    intro rs
    induction rs with
    | nil=>intro cs;simp [prS]
    | cons r rs ih=>intro cs;cases cs with
     | nil=>simp [prS]
     | cons c cs=>simp [prS,partsOf,ih]
   rw [this];rfl
  | succ i ih =>
   intro hi
   obtain ⟨x,hx⟩:∃ x,ps[i]? = some x:=⟨_,cU (by omega)⟩
   rw [take_snoc hx,prS_snoc_len,ih (by omega),keep_one hc ha hb hv (hone x (cZ hx))]
 have:=key ps.length (dK _)
 rw [dC] at this
 unfold psV
 rw [cT,this]
end
end Go.Proofs.YtopiioklkkiedaaGreatDoor
end
section
namespace Go.Lg.Sg
open Go Go.Lg Go.Lg.Fld
theorem nz_bit {x:Nat}:x≠0↔∃ j,x.testBit j=true:=by
 constructor
 ·intro h
  by_cases he:∃ j,x.testBit j=true
  ·exact he
  ·refine absurd (Nat.eq_of_testBit_eq fun i => ?_) h
   rw [Nat.zero_testBit]
   cases hb:x.testBit i with
   | false=>rfl
   | true=>exact absurd ⟨i,hb⟩ he
 ·rintro ⟨j,hj⟩ rfl
  rw [Nat.zero_testBit] at hj
  cases hj
theorem ne0_is {x:Nat} {b:Bool} (h:b=true↔∃ j,x.testBit j=true):((((x:Nat):Int) != 0))=b:=by
 rw [Bool.eq_iff_iff,bne_iff_ne,h,← nz_bit]
 omega
theorem andN_32 {a b:Nat} (ha:a<4294967296) (hb:b<4294967296):bits .and .u32 ((a:Nat):Int) ((b:Nat):Int)=((a &&& b:Nat):Int):=u32_and_nat _ _ ha hb
theorem orN_32 {a b:Nat} (ha:a<4294967296) (hb:b<4294967296):bits .or .u32 ((a:Nat):Int) ((b:Nat):Int)=((a ||| b:Nat):Int):=u32_or_nat _ _ ha hb
def bitN (id:Int):Nat:=if okJ id=true then 2^id.toNat else 0
theorem bitN_bit (id:Int) (j:Nat):(bitN id).testBit j=(okJ id&&decide (id.toNat=j)):=by
 unfold bitN
 by_cases h:okJ id=true
 ·rw [if_pos h,h,Nat.testBit_two_pow,Bool.true_and]
 ·rw [if_neg h,show okJ id=false by simpa using h,Nat.zero_testBit,Bool.false_and]
theorem bitN_lt (id:Int):bitN id<4294967296:=lt32_of_bits fun j hj=>by
 rw [bitN_bit]
 by_cases ho:okJ id=true
 ·have:=okI_iff.1 ho
  rw [cK (by omega),Bool.and_false]
 ·rw [show okJ id=false by simpa using ho,Bool.false_and]
theorem shl_bit {id:Int} (h:okJ id=true):IntKind.u32.wrap (1*2^(min id.toNat IntKind.u32.bits))=((bitN id:Nat):Int):=by
 have hi:=okI_iff.1 h
 have hm:min id.toNat IntKind.u32.bits=id.toNat:=by
  show min id.toNat 32=id.toNat
  omega
 have hb:=bitN_lt id
 have he:bitN id=2^id.toNat:=if_pos h
 rw [he] at hb ⊢
 rw [hm,Int.one_mul,show ((2:Int)^id.toNat)=((2^id.toNat:Nat):Int) by rw [Int.natCast_pow];rfl]
 exact wrap_u32 ⟨Int.natCast_nonneg _,by omega⟩
theorem has_bits (a:Nat) (id:Int):((((a &&& bitN id:Nat):Int)) != 0)=hasB a id:=by
 refine ne0_is ?_
 unfold hasB
 constructor
 ·intro h
  rw [Bool.and_eq_true] at h
  exact ⟨id.toNat,by rw [Nat.testBit_and,bitN_bit,h.1,h.2,cL rfl];rfl⟩
 ·rintro ⟨j,hj⟩
  rw [Nat.testBit_and,bitN_bit,Bool.and_eq_true,Bool.and_eq_true] at hj
  obtain ⟨h1,h2,h3⟩:=hj
  rw [h2,of_decide_eq_true h3,h1];rfl
theorem with_bits (a:Nat) (id:Int):a ||| bitN id=withN a id:=by
 unfold bitN withN
 by_cases h:okJ id=true
 ·rw [if_pos h,if_pos h]
 ·rw [if_neg h,if_neg h,Nat.or_zero]
def Unread (s:List UInt8) (ids:List Int) (l:List UInt8):Prop:=(runS ([],-1) s).bind sepS=(runS (ids,-1) l).bind sepS
def cutM (s:List UInt8):Bool:=decide (0≤Lib.indexByte s 43)
end Go.Lg.Sg
end
section
namespace Go.Lg.Sg
open Go Go.Lg Go.Lg.Fld
theorem okI_eq (id:Int):okJ id=(decide (1≤id)&&decide (id≤24)):=rfl
end Go.Lg.Sg
namespace Go.Proofs.YtopiioklkkiedaaGreatDoor
open Go Go.Lg Go.Lg.Fld Go.Lg.Sg
set_option maxRecDepth 100000
variable (X:Nat→Option Obj)
theorem zIsId (id:Int):PSpec Tryz.prog X 96 [Ln .i64 id] (Lb (okJ id)):=by
 refine cC Tryz.func96 rfl (by kernel_rfl) rfl rfl ?_
 intro C
 by_cases h1:1≤id
 ·rw [okI_eq,cL h1,Bool.true_and]
  (refine aA<|rgN<|kas O<|aB<|aA<|rgN<|kmv O<|bD O O (cL h1) dO<|kmv O<|gmv O O O<|K.leq O O (r:=decide (id≤24)) O (dP O O) ?_;refine kpt O O<|kas O<|aB<|aI ?_)
  exact ⟨[_],⟨O,trivial⟩,O⟩
 ·rw [okI_eq,cK h1,Bool.false_and]
  (refine aA<|rgN<|kas O<|aB<|aA<|rgN<|kmv O<|bD O O (cK h1) dO<|kmv O<|aC O O O<|aC O O O<|kpf O O<|kas O<|aB ?_;refine aI ?_)
  exact ⟨[_],⟨O,trivial⟩,O⟩
theorem zBit (id:Int):PSpec Tryz.prog X 63 [Ln .i64 id] (Ln .u32 (bitN id:Nat)):=by
 have hI:=zIsId X id
 refine cC Tryz.func63 rfl (by kernel_rfl) rfl rfl ?_
 intro C
 cases h:okJ id with
 | false =>
  have hz:bitN id=0:=if_neg (by rw [h];decide)
  rw [h] at hI
  rw [hz]
  (refine aA<|rgN<|kas O<|aB<|aA<|aA<|rgN<|kmv O<|kca O O (hI)<|aV O O dO<|aB<|aE O ?_;refine aA<|rgN<|kas O<|aB<|aI ?_)
  exact ⟨[_],⟨O,trivial⟩,O⟩
 | true =>
  have hs:=shl_bit h
  have h0:=(okI_iff.1 h).1
  rw [h] at hI
  generalize bitN id=b at *
  (refine aA<|rgN<|kas O<|aB<|aA<|aA<|rgN<|kmv O<|kca O O (hI)<|aV O O dO<|aB<|aF O ?_;refine aH ?_;refine aA<|rgN<|kmv O<|K.shl O O (by omega) hs dO<|kas O<|aB<|aI ?_)
  exact ⟨[_],⟨O,trivial⟩,O⟩
section
variable (a b:Nat) (ha:a<4294967296) (hb:b<4294967296) (id:Int)
include ha
theorem gHas:PSpec Tryz.prog X 28 [Ln .u32 (a:Nat),Ln .i64 id] (Lb (hasB a id)):=by
 have h1:=andN_32 ha (bitN_lt id)
 have h2:=has_bits a id
 have hB:=zBit X id
 refine cC Tryz.func28 rfl (by kernel_rfl) rfl rfl ?_
 intro C
 generalize a &&& bitN id=c at *
 generalize bitN id=d at *
 (refine aA<|rgN<|kas O<|aB<|aA<|rgN<|kmv O<|kmv O<|kca O O (hB)<|K.bitop (by simp) O O h1 dO<|kne O O h2<|kas O<|aB<|aI ?_)
 exact ⟨[_],⟨O,trivial⟩,O⟩
theorem gWith:PSpec Tryz.prog X 52 [Ln .u32 (a:Nat),Ln .i64 id] (Ln .u32 (withN a id:Nat)):=by
 have h1:=orN_32 ha (bitN_lt id)
 rw [with_bits] at h1
 have hB:=zBit X id
 refine cC Tryz.func52 rfl (by kernel_rfl) rfl rfl ?_
 intro C
 generalize withN a id=c at *
 generalize bitN id=d at *
 (refine aA<|rgN<|kas O<|aB<|aA<|rgN<|kmv O<|kmv O<|kca O O (hB)<|K.bitop (by simp) O O h1 dO<|kas O<|aB<|aI ?_)
 exact ⟨[_],⟨O,trivial⟩,O⟩
end
end Go.Proofs.YtopiioklkkiedaaGreatDoor
end
section
namespace Go.Lg.Col
open Go Go.Lg Go.RowKit
abbrev Ext (X Y:Nat→Option Obj):Prop := ∀ b o,X b=some o→Y b=some o
end Go.Lg.Col
namespace Go.Proofs.YtopiioklkkiedaaGreatDoor
open Go Go.Lg Go.Lg.Col
set_option maxRecDepth 100000
variable (X:Nat→Option Obj)
end Go.Proofs.YtopiioklkkiedaaGreatDoor
end
section
namespace Go.Proofs.YtopiioklkkiedaaGreatDoor
open Go Go.Lg Go.Lg.Fml Go.Lg.Fld Go.Lg.Arith
theorem sigN_lt (rs:List Rl) (s:Nat):sigN rs s<33554432:=by
 refine Nat.lt_pow_two_of_testBit (n:=25) _ fun i hi => ?_
 rw [sigN_bit,List.any_eq_false]
 intro r _ hb
 rw [Bool.and_eq_true,Bool.and_eq_true] at hb
 have:=Sg.okI_iff.1 hb.2.1
 have:=of_decide_eq_true hb.2.2
 omega
end Go.Proofs.YtopiioklkkiedaaGreatDoor
end
section
namespace Go.Proofs.YtopiioklkkiedaaGreatDoor
open Go Go.Lg Go.Lg.Fml Go.Lg.Fld Go.Lg.Arith
set_option maxRecDepth 100000
theorem InsIn.six {X:Nat→Option Obj} {ad:Option Addr} {l:List Ins} (h:InsIn X ad l) {i:Nat} {x:Ins} (hx:l[i]? = some x):
  ∃ (blk off:Nat) (arr:Array Value) (el:TypeId) (fr:Nat×Nat),ad=some ⟨blk,off,none⟩∧X blk=some (.cells arr el fr)∧off+i*6+6≤arr.size∧((arr.toList.drop (off+i*6)).take 6).map CV.val=(insV x).map CV.val∧arr[off+i*6]? = some (.int .i64 x.op) ∧
   arr[off+i*6+1]? = some (.int .i64 x.a)∧arr[off+i*6+2]? = some (.int .i64 x.b)∧((arr.toList.drop (off+i*6+3)).take 3).map CV.val=[.val (.bool x.k.1),.val (.int .u64 (x.k.2/18446744073709551616)),.val (.int .u64 (x.k.2%18446744073709551616))]:=by
 obtain ⟨blk,off,arr,el,fr,h1,h2,h3,h4⟩:=h.rows i (insV x) (by rw [dI,hx];rfl)
 have key:∀ j,j<6→arr[off+i*6+j]? = (insV x)[j]? := fun j hj=>by
  rw [← h4,List.getElem?_take,if_pos hj,List.getElem?_drop,Array.getElem?_toList]
 refine ⟨blk,off,arr,el,fr,h1,h2,h3,by rw [h4],key 0 (by decide),key 1 (by decide),key 2 (by decide),?_⟩
 have:(arr.toList.drop (off+i*6+3)).take 3=(((arr.toList.drop (off+i*6)).take 6).drop 3).take 3:=by
  rw [List.drop_take,List.take_take,List.drop_drop];rfl
 rw [this,h4];rfl
abbrev flB (k:Nat) (f:Fl):Nat×Option Box:=(k,some ⟨83,f.vals.map .val,false⟩)
theorem _root_.Go.Lg.Fld.FieldsIn.cells {X:Nat→Option Obj} {ad:Option Addr} {fs:List Fl} (h:FieldsIn X ad fs) {i:Nat} {f:Fl} (hf:fs[i]? = some f):
  ∃ (blk off:Nat) (arr:Array Value) (el:TypeId) (fr:Nat×Nat),ad=some ⟨blk,off,none⟩∧X blk=some (.cells arr el fr)∧off+i*3+3≤arr.size∧((arr.toList.drop (off+i*3)).take 3).map CV.val=f.vals.map CV.val ∧
   arr[off+i*3]? = some (.string ⟨f.nm.toArray⟩)∧arr[off+i*3+1]? = some (.int .i64 f.kind)∧arr[off+i*3+2]? = some (.int .i64 f.count):=by
 obtain ⟨blk,off,arr,el,fr,h1,h2,h3,h4⟩:=h.rows i f.vals (by rw [dI,hf];rfl)
 obtain ⟨g1,g2,g3⟩:=three_at h4
 exact ⟨blk,off,arr,el,fr,h1,h2,h3,by rw [h4],g1,g2,g3⟩
section
variable {fs:List Fl} {f:Fl} {x:Ins}
theorem findE_skip (h:¬(x.op=2∨x.op=3)):findE fs f x=0:=if_neg h
theorem findE_out (h:x.op=2∨x.op=3) (ha:fs[x.a.toNat]? = none):findE fs f x=3:=by unfold findE;rw [if_pos h,ha]
theorem findE_at (h:x.op=2∨x.op=3) {g:Fl} (ha:fs[x.a.toNat]? = some g):findE fs f x=if (x.op=2∧g.count≤x.b)∨(x.op=3∧g.count<f.count) then 3 else if (g.kind=10)=(f.kind=10) then 0 else 8:=by unfold findE;rw [if_pos h,ha]
end
theorem beq_dec (a b:Int):(a==b)=decide (a=b):=by by_cases h:a=b<;>simp [h]
variable (X:Nat→Option Obj)
theorem ruE_at {fs gs:List Fl} {r:Rl} (h0:r.old≠0) (h:r.ex.length=gs.length):ruE fs gs r=seqE (fun q:Fl×List Ins=>fmE fs q.1 q.2) (gs.zip r.ex):=by unfold ruE;rw [if_neg h0,if_pos h]
theorem zip_two {α β:Type} {l:List α} {m:List β} {i:Nat} {x:α} {y:β} (hx:l[i]? = some x) (hy:m[i]? = some y):(l.zip m)[i]? = some (x,y):=by
 rw [List.getElem?_zip_eq_some];exact ⟨hx,hy⟩
end Go.Proofs.YtopiioklkkiedaaGreatDoor
end
section
namespace Go.Proofs.YtopiioklkkiedaaGreatDoor
open Go Go.Lg Go.Lg.Fml Go.Lg.Fld Go.Lg.Arith
set_option maxRecDepth 100000
def grtF (c:Cp):Bool:=decide (12<c.fs.length)
def grtN (az bz:List Cp) (rs:List Rl):Bool:=decide (30<az.length)||(decide (30<bz.length)||decide (30<rs.length))
def grt13 (az bz:List Cp) (rs:List Rl):Bool:=grtN az bz rs||(az.any grtF||(bz.any grtF||rs.any grtR))
theorem grt13_false {az bz:List Cp} {rs:List Rl} (h:grt13 az bz rs=false):(az.length≤30∧∀ c∈az,c.fs.length≤12)∧(bz.length≤30∧∀ c∈bz,c.fs.length≤12)∧rs.length≤30∧∀ r∈rs,r.ex.length≤12∧∀ c∈r.ex,c.length≤80:=by
 unfold grt13 grtN at h
 simp only [Bool.or_eq_false_iff,decide_eq_false_iff_not] at h
 obtain ⟨⟨h1,h2,h3⟩,h4,h5,h6⟩:=h
 have key:∀ l:List Cp,l.any grtF=false→∀ c∈l,c.fs.length≤12:=fun l hl c hc=>by
  have:=List.any_eq_false.1 hl c hc
  unfold grtF at this
  simpa using this
 have hp:=grtP_false (rs:=rs) (by unfold grtP;rw [Bool.or_eq_false_iff,decide_eq_false_iff_not];exact ⟨h3,h6⟩)
 exact ⟨⟨by omega,key _ h4⟩,⟨by omega,key _ h5⟩,by omega,hp.2⟩
theorem any_yes {α:Type} {p:α→Bool} {l:List α} {x:α} {i:Nat} (hx:l[i]? = some x) (h:p x=true):l.any p=true:=List.any_eq_true.2 ⟨x,cZ hx,h⟩
theorem any_next {α:Type} {p:α→Bool} {l:List α} {x:α} {i:Nat} (hx:l[i]? = some x) (h0:(l.take i).any p=false) (h:p x=false):(l.take (i+1)).any p=false:=by
 rw [take_snoc hx,List.any_append,h0];simp [h]
variable (X:Nat→Option Obj)
end Go.Proofs.YtopiioklkkiedaaGreatDoor
end
section
namespace Go.Proofs.YtopiioklkkiedaaGreatDoor
open Go Go.Lg Go.Lg.Fml Go.Lg.Fld Go.Lg.Arith
set_option maxRecDepth 100000
def rwZ:List Rl→List Value→List Value
 | r::rs,v::vs=>.int .i64 r.nw :: .int .i64 r.old::v::rwZ rs vs
 | _,_=>[]
theorem rwZ_len:∀ {rs:List Rl} {ws:List Value},ws.length=rs.length→(rwZ rs ws).length=rs.length*3
 | [],[],_=>rfl
 | c::cs,v::vs,h=>by
  simp only [rwZ,dF] at h ⊢
  rw [rwZ_len (rs:=cs) (ws:=vs) (by omega)];omega
 | [],_::_,h=>by simp at h
 | _::_,[],h=>by simp at h
theorem rwZ_add:∀ {rs:List Rl} {ws:List Value} {r:Rl} {v:Value},ws.length=rs.length→rwZ (rs++[r]) (ws++[v])=rwZ rs ws++[.int .i64 r.nw,.int .i64 r.old,v]
 | [],[],_,_,_=>rfl
 | c::cs,w::ws,r,v,h=>by
  simp only [dF] at h
  simp only [List.cons_append,rwZ]
  rw [rwZ_add (rs:=cs) (ws:=ws) (by omega)]
 | [],_::_,_,_,h=>by simp at h
 | _::_,[],_,_,h=>by simp at h
theorem rwZ_at:∀ {i:Nat} {rs:List Rl} {ws sp:List Value} {r:Rl} {w:Value},rs[i]? = some r→ws[i]? = some w→((rwZ rs ws++sp).drop (i*3)).take 3=[.int .i64 r.nw,.int .i64 r.old,w]
 | 0,c::cs,v::vs,sp,r,w,h1,h2=>by
  simp only [List.getElem?_cons_zero,Option.some.injEq] at h1 h2
  subst h1 h2
  rfl
 | i+1,c::cs,v::vs,sp,r,w,h1,h2=>by
  simp only [List.getElem?_cons_succ] at h1 h2
  have:=rwZ_at (sp:=sp) h1 h2
  rw [show (i+1)*3=i*3+3 by omega]
  exact this
 | _,[],_,_,_,_,h,_=>by simp at h
 | _,_::_,[],_,_,_,_,h=>by simp at h
theorem snoc_get {α:Type} {l:List α} {a x:α} {i:Nat} (h:(l++[a])[i]? = some x):(i<l.length∧l[i]? = some x)∨(i=l.length∧x=a):=by
 by_cases e:i<l.length
 ·rw [dN e] at h;exact .inl ⟨e,h⟩
 ·have h1:=(List.getElem?_eq_some_iff.1 h).1
  rw [cS] at h1
  simp only [cV] at h1
  have e2:i=l.length:=by omega
  subst e2
  rw [List.getElem?_append_right (dK _),Nat.sub_self] at h
  simp only [List.getElem?_cons_zero,Option.some.injEq] at h
  exact .inr ⟨O,h.symm⟩
structure FormsH (H:Nat→Option Obj) (vs:List Value) (cs:List (List Ins)):Prop where
 len:vs.length=cs.length
 at_:∀ (i:Nat) (v:Value) (c:List Ins),vs[i]? = some v→cs[i]? = some c→∃ (vad:Option Addr) (vcap:Nat),v = .slice vad c.length vcap∧InsIn H vad c
theorem FormsH.nil {H:Nat→Option Obj}:FormsH H [] []:=⟨rfl,fun i v c h=>by simp at h⟩
theorem FormsH.mono {H H':Nat→Option Obj} (hH:∀ b o,H b=some o→H' b=some o) {vs:List Value} {cs:List (List Ins)} (G:FormsH H vs cs):FormsH H' vs cs:=⟨G.len,fun i v c hv hc=>by
 obtain ⟨vad,vcap,h1,h2⟩:=G.at_ i v c hv hc
 exact ⟨vad,vcap,h1,h2.mono hH⟩⟩
theorem FormsH.push {H:Nat→Option Obj} {vs:List Value} {cs:List (List Ins)} (G:FormsH H vs cs) {v:Value} {c:List Ins} (hv:∃ (vad:Option Addr) (vcap:Nat),v = .slice vad c.length vcap∧InsIn H vad c):FormsH H (vs++[v]) (cs++[c]):=⟨by rw [cS,cS,G.len];rfl,fun i w d hw hd=>by
 have hl:=G.len
 rcases snoc_get hw with ⟨h1,h2⟩|⟨h1,rfl⟩
 ·rcases snoc_get hd with ⟨h3,h4⟩|⟨h3,_⟩
  ·exact G.at_ i w d h2 h4
  ·omega
 ·rcases snoc_get hd with ⟨h3,_⟩|⟨_,rfl⟩
  ·omega
  ·exact hv⟩
structure RulesH (H:Nat→Option Obj) (ws:List Value) (rs:List Rl):Prop where
 len:ws.length=rs.length
 at_:∀ (i:Nat) (w:Value) (r:Rl),ws[i]? = some w→rs[i]? = some r→∃ (ead:Option Addr) (ecap:Nat),w = .slice ead r.ex.length ecap∧CodesIn H ead r.ex
theorem RulesH.nil {H:Nat→Option Obj}:RulesH H [] []:=⟨rfl,fun i v c h=>by simp at h⟩
theorem RulesH.mono {H H':Nat→Option Obj} (hH:∀ b o,H b=some o→H' b=some o) {vs:List Value} {cs:List Rl} (G:RulesH H vs cs):RulesH H' vs cs:=⟨G.len,fun i v c hv hc=>by
 obtain ⟨vad,vcap,h1,h2⟩:=G.at_ i v c hv hc
 exact ⟨vad,vcap,h1,h2.mono hH⟩⟩
theorem RulesH.push {H:Nat→Option Obj} {vs:List Value} {cs:List Rl} (G:RulesH H vs cs) {v:Value} {c:Rl} (hv:∃ (vad:Option Addr) (vcap:Nat),v = .slice vad c.ex.length vcap∧CodesIn H vad c.ex):RulesH H (vs++[v]) (cs++[c]):=⟨by rw [cS,cS,G.len];rfl,fun i w d hw hd=>by
 have hl:=G.len
 rcases snoc_get hw with ⟨h1,h2⟩|⟨h1,rfl⟩
 ·rcases snoc_get hd with ⟨h3,h4⟩|⟨h3,_⟩
  ·exact G.at_ i w d h2 h4
  ·omega
 ·rcases snoc_get hd with ⟨h3,_⟩|⟨_,rfl⟩
  ·omega
  ·exact hv⟩
theorem forms_block {Y:Nat→Option Obj} {blk:Nat} {arr:Array Value} {el:TypeId} {fr:Nat×Nat} {vs sp:List Value} {cs:List (List Ins)} (hY:Y blk=some (.cells arr el fr)) (h:arr.toList=vs++sp) (G:FormsH Y vs cs):CodesIn Y (some ⟨blk,0,none⟩) cs:=⟨fun i c hc=>by
 have hi:=(List.getElem?_eq_some_iff.1 hc).1
 have hl:=G.len
 obtain ⟨v,hv⟩:∃ v,vs[i]? = some v:=⟨_,cU (by omega)⟩
 obtain ⟨vad,vcap,h1,h2⟩:=G.at_ i v c hv hc
 have hsz:arr.size=vs.length+sp.length:=by rw [← Array.length_toList,h,cS]
 refine ⟨blk,0,arr,el,fr,vad,vcap,O,hY,by omega,?_,h2⟩
 rw [← Array.getElem?_toList,h,Nat.zero_add,dN (by omega),hv,h1]⟩
theorem rules_block {Y:Nat→Option Obj} {blk:Nat} {arr:Array Value} {el:TypeId} {fr:Nat×Nat} {ws sp:List Value} {rs:List Rl} (hY:Y blk=some (.cells arr el fr)) (h:arr.toList=rwZ rs ws++sp) (G:RulesH Y ws rs) (hs:∀ r∈rs,smallR r):RulesIn Y (some ⟨blk,0,none⟩) rs:=⟨fun i r hr=>by
 have hi:=(List.getElem?_eq_some_iff.1 hr).1
 have hl:=G.len
 obtain ⟨v,hv⟩:∃ v,ws[i]? = some v:=⟨_,cU (by omega)⟩
 obtain ⟨ead,ecap,h1,h2⟩:=G.at_ i v r hv hr
 have hsz:arr.size=rs.length*3+sp.length:=by rw [← Array.length_toList,h,cS,rwZ_len hl]
 refine ⟨blk,0,arr,el,fr,ead,ecap,O,hY,by omega,?_,h2⟩
 rw [h,Nat.zero_add,rwZ_at hr hv,h1],hs⟩
def rlR (t:TypeId) (rs:List Rl):Rsc:=⟨fun ρ H=>(∃ (arr:Array Value) (fr:Nat×Nat),H ρ.1=some (.cells arr t fr)∧arr.size=ρ.2)∧RulesIn H (some ⟨ρ.1,0,none⟩) rs⟩
abbrev rlB (t:TypeId) (k:Nat) (rs:List Rl):Nat×Option Box:=(k,some ⟨0,[],.res (rlR t rs)⟩)
section
variable {n:Nat} {C:Ctx} {X:Nat→Option Obj} {s:List (Nat×LV)} {bx:List (Nat×Option Box)} {k:Nat}
theorem rl_shut {Mid:St→Prop} {t:TypeId} {rs:List Rl} {H:Nat→Option Obj} {ws sp:List Value} (hO:OwnedM C X H) (G:RulesH H ws rs) (hs:∀ r∈rs,smallR r)
  (h:Leads n C Mid ⟨s,rlB t k rs::bx,X⟩):Leads n C Mid ⟨s,(k,some ⟨t,(rwZ rs ws++sp).map .val,false⟩)::bx,joinM X H⟩:=by
 refine Leads.closeRes (vals:=rwZ rs ws++sp) hO (fun ρ fr h1 h2 h3 => ?_) h
 refine ⟨⟨_,fr,cJ _ _ _,by rw [h3];simp⟩,?_⟩
 exact rules_block (cJ _ _ _) (by simp;rfl) (G.mono (cF h1)) hs
end
theorem ins_leads {H:Nat→Option Obj} {b:Nat} {v:Value} {el:TypeId} {c:List Ins} (h:LeadsTo H b v el 6 (inssV c)) (hs:∀ x∈c,smallI x):∃ (vad:Option Addr) (vcap:Nat),v = .slice vad c.length vcap∧InsIn H vad c:=by
 obtain ⟨len,cap,arr,fr,h1,h2,_,_,h5,h6⟩:=h
 have hl:=inssV_len c
 rw [cT] at hl
 have e:len=c.length:=by omega
 subst e
 exact ⟨_,cap,h1,ins_in h5 hs h6⟩
theorem CodesIn.nilIn {H:Nat→Option Obj}:∃ (ead:Option Addr) (ecap:Nat),Value.slice none 0 0 = .slice ead ([]:List (List Ins)).length ecap∧CodesIn H ead []:=⟨none,0,rfl,CodesIn.nil⟩
variable (X:Nat→Option Obj)
end Go.Proofs.YtopiioklkkiedaaGreatDoor
end
section
namespace Go.Proofs.YtopiioklkkiedaaGreatDoor
open Go Go.Lg Go.Lg.Fml Go.Lg.Fld Go.Lg.Arith
set_option maxRecDepth 100000
variable (X:Nat→Option Obj)
theorem kIsVersion (n:Int):PSpec Tryz.prog X 61 [Ln .i64 n] (Lb (verOk n)):=by
 refine cC Tryz.func61 rfl (by kernel_rfl) rfl rfl ?_
 intro C
 by_cases h1:1≤n
 ·by_cases h2:n≤1073741824
  ·rw [show verOk n=true by unfold verOk;simp;omega]
   (refine aA<|rgN<|kas O<|aB<|aA<|rgN<|kmv O<|bD O O (cL (by omega)) dO<|kmv O<|gmv O O O<|K.leq O O (cL (by omega)) (dP O O) ?_;refine kpt O O<|kas O<|aB<|aI ?_)
   exact ⟨[_],⟨O,trivial⟩,O⟩
  ·rw [show verOk n=false by unfold verOk;simp;omega]
   (refine aA<|rgN<|kas O<|aB<|aA<|rgN<|kmv O<|bD O O (cL (by omega)) dO<|kmv O<|gmv O O O<|K.leq O O (cK (by omega)) (dP O O) ?_;refine kpt O O<|kas O<|aB<|aI ?_)
   exact ⟨[_],⟨O,trivial⟩,O⟩
 ·rw [show verOk n=false by unfold verOk;simp;omega]
  (refine aA<|rgN<|kas O<|aB<|aA<|rgN<|kmv O<|bD O O (cK (by omega)) dO<|kmv O<|aC O O O<|aC O O O<|kpf O O<|kas O<|aB ?_;refine aI ?_)
  exact ⟨[_],⟨O,trivial⟩,O⟩
set_option maxHeartbeats 3200000 in
theorem kCheckRule (r:Rl) (ead:Option Addr) (ecap:Nat) (hE:CodesIn X ead r.ex) (h1:r.ex.length<4611686018427387904) (h2:∀ c∈r.ex,c.length<1152921504606846976) (last:Int) (h0:0≤last):
  PSpec Tryz.prog X 62 [LPg r.nw r.old ead r.ex.length ecap,Ln .i64 last] (Ln .i64 (chkR r last)):=by
 refine cC Tryz.func62 rfl (by kernel_rfl) rfl rfl ?_
 intro C
 obtain ⟨nw,old,ex⟩:=r
 simp only at hE h1 h2 ⊢
 by_cases c1:nw≤last
 ·rw [show chkR ⟨nw,old,ex⟩ last=1 from if_pos (by simp only;omega)]
  (refine aA<|rgN<|aL O O O dO<|kas O<|aB<|aA<|aG<|aA<|rgN<|kfa O O ?_;refine kl1 O O O<|kmv O<|K.leq O O (cL (by omega)) dO<|kmv O<|aC O O O<|aC O O O<|aC O O O<|kpt O O<|kmv O<|aC O O O<|aC O O O<|aC O O O<|kpt O O<|kmv O ?_;refine aC O O O<|aC O O O<|aC O O O<|kpt O O<|kas O<|aB<|aE O ?_;refine aA<|rgN<|kas O<|aB<|aI ?_)
  exact ⟨[_],⟨O,trivial⟩,O⟩
 by_cases c2:24<nw
 ·rw [show chkR ⟨nw,old,ex⟩ last=1 from if_pos (by simp only;omega)]
  (refine aA<|rgN<|aL O O O dO<|kas O<|aB<|aA<|aG<|aA<|rgN<|kfa O O ?_;refine kl1 O O O<|kmv O<|K.leq O O (cK (by omega)) dO<|kmv O<|aN O O (dP O O) ?_;refine aO O O O (dP O O) ?_;refine aS O O (cL (by omega)) (dP O O) ?_;refine kpf O O<|kmv O<|aC O O O<|aC O O O<|aC O O O<|kpt O O<|kmv O<|aC O O O<|aC O O O<|aC O O O<|kpt O O<|kas O<|aB<|aE O ?_;refine aA<|rgN<|kas O<|aB<|aI ?_)
  exact ⟨[_],⟨O,trivial⟩,O⟩
 by_cases c3:old<0
 ·rw [show chkR ⟨nw,old,ex⟩ last=1 from if_pos (by simp only;omega)]
  (refine aA<|rgN<|aL O O O dO<|kas O<|aB<|aA<|aG<|aA<|rgN<|kfa O O ?_;refine kl1 O O O<|kmv O<|K.leq O O (cK (by omega)) dO<|kmv O<|aN O O (dP O O) ?_;refine aO O O O (dP O O) ?_;refine aS O O (cK (by omega)) (dP O O) ?_;refine kpf O O<|kmv O<|aN O O (dP O O) ?_;refine aO O O O (dP O O) ?_;refine bK O O (cL (by omega)) (dP O O) ?_;refine kpf O O<|kmv O<|aC O O O<|aC O O O<|aC O O O<|kpt O O<|kas O<|aB<|aE O ?_;refine aA<|rgN<|kas O<|aB<|aI ?_)
  exact ⟨[_],⟨O,trivial⟩,O⟩
 by_cases c4:24<old
 ·rw [show chkR ⟨nw,old,ex⟩ last=1 from if_pos (by simp only;omega)]
  (refine aA<|rgN<|aL O O O dO<|kas O<|aB<|aA<|aG<|aA<|rgN<|kfa O O ?_;refine kl1 O O O<|kmv O<|K.leq O O (cK (by omega)) dO<|kmv O<|aN O O (dP O O) ?_;refine aO O O O (dP O O) ?_;refine aS O O (cK (by omega)) (dP O O) ?_;refine kpf O O<|kmv O<|aN O O (dP O O) ?_;refine aO O O O (dP O O) ?_;refine bK O O (cK (by omega)) (dP O O) ?_;refine kpf O O<|kmv O<|aN O O (dP O O) ?_;refine aO O O O (dP O O) ?_;refine aS O O (cL (by omega)) (dP O O) ?_;refine kpf O O<|kas O<|aB<|aE O ?_;refine aA<|rgN<|kas O<|aB<|aI ?_)
  exact ⟨[_],⟨O,trivial⟩,O⟩
 have e1:chkR ⟨nw,old,ex⟩ last=if old=0∧ex≠[] then 4 else if 8<ex.length then 5 else firstX ex:=if_neg (by simp only;omega)
 rw [e1]
 have hl:ex≠[]↔0<ex.length:=by rw [List.length_pos_iff]
 by_cases c5:old=0
 ·by_cases c6:0<ex.length
  ·rw [if_pos ⟨c5,hl.2 c6⟩]
   (refine aA<|rgN<|aL O O O dO<|kas O<|aB<|aA<|aG<|aA<|rgN<|kfa O O ?_;refine kl1 O O O<|kmv O<|K.leq O O (cK (by omega)) dO<|kmv O<|aN O O (dP O O) ?_;refine aO O O O (dP O O) ?_;refine aS O O (cK (by omega)) (dP O O) ?_;refine kpf O O<|kmv O<|aN O O (dP O O) ?_;refine aO O O O (dP O O) ?_;refine bK O O (cK (by omega)) (dP O O) ?_;refine kpf O O<|kmv O<|aN O O (dP O O) ?_;refine aO O O O (dP O O) ?_;refine aS O O (cK (by omega)) (dP O O) ?_;refine kpf O O<|kas O<|aB<|aF O ?_;refine aA<|rgN<|kfa O O ?_;refine kl1 O O O<|keq O O (cR c5)<|kmv O<|aN O O (dP O O) ?_;refine aO O O O (dP O O) ?_;refine aQ O bZ O (dP O O) ?_;refine aS O O (cL (by omega)) (dP O O) ?_;refine kpt O O<|kas O<|aB<|aE O ?_;refine aA<|rgN<|kas O<|aB<|aI ?_)
   exact ⟨[_],⟨O,trivial⟩,O⟩
  ·have e0:ex=[]:=by
    by_cases h:ex=[]
    ·exact h
    ·exact absurd (hl.1 h) c6
   subst e0
   rw [if_neg (fun h=>h.2 rfl),if_neg (by decide)]
   ((refine aA<|rgN<|aL O O O dO<|kas O<|aB<|aA<|aG<|aA<|rgN<|kfa O O ?_;refine kl1 O O O<|kmv O<|K.leq O O (cK (by omega)) dO<|kmv O<|aN O O (dP O O) ?_;refine aO O O O (dP O O) ?_;refine aS O O (cK (by omega)) (dP O O) ?_;refine kpf O O<|kmv O<|aN O O (dP O O) ?_;refine aO O O O (dP O O) ?_;refine bK O O (cK (by omega)) (dP O O) ?_;refine kpf O O<|kmv O<|aN O O (dP O O) ?_;refine aO O O O (dP O O) ?_;refine aS O O (cK (by omega)) (dP O O) ?_;refine kpf O O<|kas O<|aB<|aF O ?_;refine aA<|rgN<|kfa O O ?_);(refine kl1 O O O<|keq O O (cR c5)<|kmv O<|aN O O (dP O O) ?_;refine aO O O O (dP O O) ?_;refine aQ O bZ O (dP O O) ?_;refine aS O O (cK (by decide)) (dP O O) ?_;refine kpt O O<|kas O<|aB<|aF O ?_;refine aA<|rgN<|kfa O O ?_;refine kl1 O O O<|aQ O bZ O dO ?_;refine aS O O (cK (by decide)) dO<|kas O<|aB<|aF O ?_;refine aH ?_;refine aA<|aA<|rgN<|kfa O O ?_;refine kl1 O O O<|aQ O bZ O dO ?_;refine kmv O<|aB<|aG ?_))
   refine cG (fun m σ=>m=0∧σ=⟨[(46,Ln .i64 0),(47,Ln .i64 0)],[],X⟩) 0 ⟨⟨[(46,Ln .i64 0),(47,Ln .i64 0)],[],X⟩,Le.of (by exact ⟨O,O,trivial⟩) (by exact trivial) (by exact O) (by exact O) (by repeat' (first|refine bS ?_ ?_|rfl|exact bU|exact bT|exact bV O)),O,O⟩ ?_
   rintro m σ ⟨rfl,rfl⟩
   (refine aA<|rgN<|klt O O (r:=false) O<|aB<|aA<|aF O ?_;refine aJ<|aA<|rgN<|kas O<|aB<|aI ?_)
   exact ⟨[_],⟨O,trivial⟩,O⟩
 rw [if_neg (fun h=>c5 h.1)]
 by_cases c7:8<ex.length
 ·rw [if_pos c7]
  (refine aA<|rgN<|aL O O O dO<|kas O<|aB<|aA<|aG<|aA<|rgN<|kfa O O ?_;refine kl1 O O O<|kmv O<|K.leq O O (cK (by omega)) dO<|kmv O<|aN O O (dP O O) ?_;refine aO O O O (dP O O) ?_;refine aS O O (cK (by omega)) (dP O O) ?_;refine kpf O O<|kmv O<|aN O O (dP O O) ?_;refine aO O O O (dP O O) ?_;refine bK O O (cK (by omega)) (dP O O) ?_;refine kpf O O<|kmv O<|aN O O (dP O O) ?_;refine aO O O O (dP O O) ?_;refine aS O O (cK (by omega)) (dP O O) ?_;refine kpf O O<|kas O<|aB<|aF O ?_;refine aA<|rgN<|kfa O O ?_;refine kl1 O O O<|keq O O (cN c5)<|kmv O<|aC O O O<|aC O O O<|aC O O O<|aC O O O<|kpf O O<|kas O<|aB<|aF O ?_;refine aA<|rgN<|kfa O O ?_;refine kl1 O O O<|aQ O bZ O dO ?_;refine aS O O (cL (by omega)) dO<|kas O<|aB<|aE O ?_;refine aA<|rgN<|kas O<|aB<|aI ?_)
  exact ⟨[_],⟨O,trivial⟩,O⟩
 rw [if_neg c7]
 (refine aA<|rgN<|aL O O O dO<|kas O<|aB<|aA<|aG<|aA<|rgN<|kfa O O ?_;refine kl1 O O O<|kmv O<|K.leq O O (cK (by omega)) dO<|kmv O<|aN O O (dP O O) ?_;refine aO O O O (dP O O) ?_;refine aS O O (cK (by omega)) (dP O O) ?_;refine kpf O O<|kmv O<|aN O O (dP O O) ?_;refine aO O O O (dP O O) ?_;refine bK O O (cK (by omega)) (dP O O) ?_;refine kpf O O<|kmv O<|aN O O (dP O O) ?_;refine aO O O O (dP O O) ?_;refine aS O O (cK (by omega)) (dP O O) ?_;refine kpf O O<|kas O<|aB<|aF O ?_;refine aA<|rgN<|kfa O O ?_;refine kl1 O O O<|keq O O (cN c5)<|kmv O<|aC O O O<|aC O O O<|aC O O O<|aC O O O<|kpf O O<|kas O<|aB<|aF O ?_;refine aA<|rgN<|kfa O O ?_;refine kl1 O O O<|aQ O bZ O dO ?_;refine aS O O (cK (by omega)) dO<|kas O<|aB<|aF O ?_;refine aH ?_;refine aA<|aA<|rgN<|kfa O O ?_;refine kl1 O O O<|aQ O bZ O dO ?_;refine kmv O<|aB<|aG ?_)
 refine cG (fun m σ=>∃ i:Nat,i≤ex.length∧m=ex.length-i∧firstX ex=firstX (ex.drop i)∧σ=⟨[(45,Lx ead ex.length ecap),(46,Ln .i64 (ex.length:Nat)),(47,Ln .i64 (i:Nat))],[],X⟩) ex.length
  ⟨⟨[(45,Lx ead ex.length ecap),(46,Ln .i64 (ex.length:Nat)),(47,Ln .i64 (0:Nat))],[],X⟩,Le.of (by exact ⟨rfl,rfl,rfl,trivial⟩) (by exact trivial) (by exact rfl) (by exact rfl) (by repeat' (first|refine bS ?_ ?_|rfl|exact bU|exact bT|exact bV rfl)),0,by omega,by omega,rfl,rfl⟩ ?_
 rintro m σ ⟨i,hi,rfl,hpre,rfl⟩
 by_cases hlt:i<ex.length
 case neg =>
  rw [hpre,List.drop_eq_nil_of_le (by omega)]
  (refine aA<|rgN<|klt O O (cK (by omega))<|aB<|aA<|aF O ?_;refine aJ<|aA<|rgN<|kas O<|aB<|aI ?_)
  exact ⟨[_],⟨O,trivial⟩,O⟩
 obtain ⟨c,hc⟩:∃ c,ex[i]? = some c:=⟨_,cU hlt⟩
 obtain ⟨eb,eo,earr,eel,efr,vad,vcap,rfl,hEX,hec,hI⟩:=hE.get hc
 have hio:eo+Int.toNat (i:Int)*1=eo+i*1:=by simp
 have hG:=gEncode' X c vad vcap hI (h2 c (cZ hc))
 rw [drop_at hc,firstX_cons] at hpre
 by_cases he:encErr c=0
 ·rw [if_pos he] at hpre
  rw [he] at hG
  have hadd:IntKind.i64.wrap (((i:Nat):Int)+1)=((i+1:Nat):Int):=by rw [cE (by omega)];omega
  (refine aA<|rgN<|klt O O (cL (by omega))<|aB<|aA<|aE O ?_;refine aH ?_;refine aA<|aG<|aA<|rgN<|aR O O bZ (by omega) hio dO<|aW O hEX O hec dO<|kas O<|aB<|aA<|rgN<|kmv O<|kca O O hG<|kmv O<|kex O O ?_;refine kex O O<|kas O<|kas O<|aB<|aA<|rgN<|kmv O<|kne O O (r:=false) O<|aB<|aF O ?_;refine aH ?_;refine rgN<|kad O O hadd<|kmv O<|aB ?_)
  exact ⟨_,⟨[(45,Lx (some ⟨eb,eo,none⟩) ex.length ecap),(46,Ln .i64 (ex.length:Nat)),(47,Ln .i64 (i+1:Nat))],[],X⟩,by omega,Le.of (by exact ⟨O,O,O,trivial⟩) (by exact trivial) (by exact O) (by exact O) (by repeat' (first|refine bS ?_ ?_|rfl|exact bU|exact bT|exact bV O)),i+1,by omega,O,hpre,O⟩
 ·rw [if_neg he] at hpre
  rw [hpre]
  have hne:(encErr c != 0)=true:=by rw [bne_iff_ne];exact he
  generalize encErr c=ce at *
  (refine aA<|rgN<|klt O O (cL (by omega))<|aB<|aA<|aE O ?_;refine aH ?_;refine aA<|aG<|aA<|rgN<|aR O O bZ (by omega) hio dO<|aW O hEX O hec dO<|kas O<|aB<|aA<|rgN<|kmv O<|kca O O hG<|kmv O<|kex O O ?_;refine kex O O<|kas O<|kas O<|aB<|aA<|rgN<|kmv O<|kne O O hne<|aB<|aE O ?_;refine aA<|rgN<|kmv O<|kas O<|aB<|aI ?_)
  exact ⟨[_],⟨O,trivial⟩,O⟩
set_option maxHeartbeats 3200000 in
theorem kCheck (p:Pg) (ad:Option Addr) (cap:Nat) (hin:RulesIn X ad p.rs) (hbig:p.rs.length<4611686018427387904) (hsz:sizeR p.rs):PSpec Tryz.prog X 27 [LPg p.va p.vb ad p.rs.length cap] (Ln .i64 (chkP p)):=by
 obtain ⟨va,vb,rs⟩:=p
 simp only at hin hbig hsz ⊢
 have v1:=kIsVersion X va
 have v2:=kIsVersion X vb
 refine cC Tryz.func27 rfl (by kernel_rfl) rfl rfl ?_
 intro C
 cases q1:verOk va with
 | false =>
  rw [q1] at v1
  rw [chkP_bad (by simp only;rw [q1,Bool.false_and];decide)]
  (refine aA<|rgN<|aL O O O dO<|kas O<|aB<|aA<|aA<|rgN<|kfa O O ?_;refine kl1 O O O<|kca O O v1<|aV O O dO<|kmv O<|aC O O O<|aC O O O<|aC O O O<|aC O O O<|kpt O O<|aB<|aE O ?_;refine aA<|rgN<|kas O<|aB<|aI ?_)
  exact ⟨[_],⟨O,trivial⟩,O⟩
 | true =>
 rw [q1] at v1
 cases q2:verOk vb with
 | false =>
  rw [q2] at v2
  rw [chkP_bad (by simp only;rw [q2,Bool.and_false];decide)]
  (refine aA<|rgN<|aL O O O dO<|kas O<|aB<|aA<|aA<|rgN<|kfa O O ?_;refine kl1 O O O<|kca O O v1<|aV O O dO<|kmv O<|aN O O (dP O O) ?_;refine aO O O O (dP O O) ?_;refine gca O O v2 O O<|aV O O (dP O O) ?_;refine kpf O O<|aB<|aE O ?_;refine aA<|rgN<|kas O<|aB<|aI ?_)
  exact ⟨[_],⟨O,trivial⟩,O⟩
 | true =>
 rw [q2] at v2
 rw [chkP_good (by simp only;rw [q1,q2];rfl)]
 (refine aA<|rgN<|aL O O O dO<|kas O<|aB<|aA<|aA<|rgN<|kfa O O ?_;refine kl1 O O O<|kca O O v1<|aV O O dO<|kmv O<|aN O O (dP O O) ?_;refine aO O O O (dP O O) ?_;refine gca O O v2 O O<|aV O O (dP O O) ?_;refine kpf O O<|aB<|aF O ?_;refine aH ?_;refine aA<|rgN<|kas O<|aB<|aA<|aA<|rgN<|kfa O O ?_;refine kl1 O O O<|aQ O bZ O dO ?_;refine kmv O<|aB<|aG ?_)
 simp only
 refine cG (fun m σ=>∃ i:Nat,i≤rs.length∧m=rs.length-i∧chkRs 0 rs=chkRs (lastR rs i) (rs.drop i)∧0≤lastR rs i∧σ=⟨[(3,Ln .i64 (lastR rs i)),(18,Lx ad rs.length cap),(19,Ln .i64 (rs.length:Nat)),(20,Ln .i64 (i:Nat))],[],X⟩) rs.length
  ⟨⟨[(3,Ln .i64 (lastR rs 0)),(18,Lx ad rs.length cap),(19,Ln .i64 (rs.length:Nat)),(20,Ln .i64 (0:Nat))],[],X⟩,Le.of (by exact ⟨rfl,rfl,rfl,rfl,trivial⟩) (by exact trivial) (by exact rfl) (by exact rfl) (by repeat' (first|refine bS ?_ ?_|rfl|exact bU|exact bT|exact bV rfl)),0,by omega,by omega,rfl,Int.le_refl 0,rfl⟩ ?_
 rintro m σ ⟨i,hi,rfl,hpre,hlast,rfl⟩
 by_cases hlt:i<rs.length
 case neg =>
  rw [hpre,List.drop_eq_nil_of_le (by omega)]
  (refine aA<|rgN<|klt O O (cK (by omega))<|aB<|aA<|aF O ?_;refine aJ<|aA<|rgN<|kas O<|aB<|aI ?_)
  exact ⟨[_],⟨O,trivial⟩,O⟩
 obtain ⟨r,hr⟩:∃ r,rs[i]? = some r:=⟨_,cU hlt⟩
 obtain ⟨blk,off,arr,el,fr,ead,ecap,rfl,hX,hsiz,hcs,g1,g2,g3,hE⟩:=hin.get hr
 have hio:off+Int.toNat (i:Int)*3=off+i*3:=by simp
 obtain ⟨hz1,hz2⟩:=hsz r (cZ hr)
 have hR:=kCheckRule X r ead ecap hE (by omega) hz2 (lastR rs i) hlast
 rw [drop_at hr,chkRs_cons] at hpre
 by_cases he:chkR r (lastR rs i)=0
 ·rw [if_pos he] at hpre
  have hgt:=(chkR_zero he).2.2.1
  rw [he] at hR
  have hnl:=lastR_at hr
  have hadd:IntKind.i64.wrap (((i:Nat):Int)+1)=((i+1:Nat):Int):=by rw [cE (by omega)];omega
  (refine aA<|rgN<|klt O O (cL (by omega))<|aB<|aA<|aE O ?_;refine aH ?_;refine aA<|aG<|aA<|rgN<|aR O O bZ (by omega) hio dO<|aY O hX (by kernel_rfl) hsiz hcs dO<|aP O dO ?_;refine aM O O O O O O dO ?_;refine aB<|aA<|aA<|rgN<|aK O O O dO ?_;refine kmv O<|kca O O hR<|kas O<|aB<|aA<|rgN<|kmv O<|kne O O (r:=false) O<|aB<|aF O ?_;refine aH ?_;refine rgN<|kfa O O ?_;refine kl1 O O O<|kas O<|aB<|rgN<|kad O O hadd<|kmv O<|aB ?_)
  rw [← hnl] at hpre hgt ⊢
  exact ⟨_,⟨[(3,Ln .i64 (lastR rs (i+1))),(18,Lx (some ⟨blk,off,none⟩) rs.length cap),(19,Ln .i64 (rs.length:Nat)),(20,Ln .i64 (i+1:Nat))],[],X⟩,by omega,Le.of (by exact ⟨O,O,O,O,trivial⟩) (by exact trivial) (by exact O) (by exact O) (by repeat' (first|refine bS ?_ ?_|rfl|exact bU|exact bT|exact bV O)),i+1,by omega,O,hpre,by omega,O⟩
 ·rw [if_neg he] at hpre
  rw [hpre]
  have hne:(chkR r (lastR rs i) != 0)=true:=by rw [bne_iff_ne];exact he
  generalize chkR r (lastR rs i)=ce at *
  (refine aA<|rgN<|klt O O (cL (by omega))<|aB<|aA<|aE O ?_;refine aH ?_;refine aA<|aG<|aA<|rgN<|aR O O bZ (by omega) hio dO<|aY O hX (by kernel_rfl) hsiz hcs dO<|aP O dO ?_;refine aM O O O O O O dO ?_;refine aB<|aA<|aA<|rgN<|aK O O O dO ?_;refine kmv O<|kca O O hR<|kas O<|aB<|aA<|rgN<|kmv O<|kne O O hne<|aB<|aE O ?_;refine aA<|rgN<|kmv O<|kas O<|aB<|aI ?_)
  exact ⟨[_],⟨O,trivial⟩,O⟩
end Go.Proofs.YtopiioklkkiedaaGreatDoor
end
section
namespace Go.Proofs.YtopiioklkkiedaaGreatDoor
open Go Go.Lg Go.Lg.Fld
set_option maxRecDepth 100000
abbrev Ext (X Y:Nat→Option Obj):Prop := ∀ b o,X b=some o→Y b=some o
variable (X:Nat→Option Obj)
end Go.Proofs.YtopiioklkkiedaaGreatDoor
end
section
namespace Go.Proofs.YtopiioklkkiedaaGreatDoor
open Go Go.Lg Go.Lg.Fld
set_option maxRecDepth 100000
theorem unpErr_facts {fs:List Fl} {s:List UInt8} (h:unpErr fs s=0):layErr fs=0∧s.length=rowSize fs∧readOk (elemsAt 0 fs) s=true∧packB fs ((unpZ fs s).map qn)=s:=by
 unfold unpErr at h
 split at h
 ·rename_i h0
  split at h
  ·rename_i h1
   unfold unpOk at h1
   simp only [Bool.and_eq_true,decide_eq_true_eq,beq_iff_eq] at h1
   exact ⟨h0,h1.1,h1.2.1,h1.2.2⟩
  ·cases h
 ·contradiction
theorem unp_R {fs:List Fl} {s:List UInt8} (h:unpErr fs s=0):∀ z∈unpZ fs s,R127 z:=by
 obtain ⟨hl,hn,_,_⟩:=unpErr_facts h
 obtain ⟨_,hall,_⟩:=layErr_facts hl
 intro z hz
 obtain ⟨e,he,rfl⟩:=List.mem_map.1 hz
 exact (read_R (within_row hall) hn he).2
theorem unpZ_len {fs:List Fl} {s:List UInt8} (h:unpErr fs s=0):(unpZ fs s).length≤64:=by
 obtain ⟨hl,_,_,_⟩:=unpErr_facts h
 obtain ⟨h8,hall,_⟩:=layErr_facts hl
 have:=elems_len fs 0 hall
 simp only [unpZ,cT];omega
variable (X:Nat→Option Obj)
end Go.Proofs.YtopiioklkkiedaaGreatDoor
end
section
namespace Go.Proofs.YtopiioklkkiedaaGreatDoor
open Go Go.Lg Go.Lg.Fml Go.Lg.Fld Go.Lg.Arith
set_option maxRecDepth 100000
def RowV (Y:Nat→Option Obj) (vs:List Value) (fs:List (List Nm)):Prop:=vs.length=fs.length∧∀ (i:Nat) (r:List Nm),fs[i]? = some r→∃ (ad:Option Addr) (cap:Nat),vs[i]? = some (.slice ad r.length cap)∧NumsIn Y ad r
variable (X:Nat→Option Obj)
end Go.Proofs.YtopiioklkkiedaaGreatDoor
end
section
namespace Go.Proofs.YtopiioklkkiedaaGreatDoor
open Go Go.Lg Go.Lg.Fml Go.Lg.Fld Go.Lg.Arith
set_option maxRecDepth 100000
abbrev SPg (va vb:Int) (ad:Option Addr) (n cap:Nat):SV:=.agg [.val (.int .i64 va),.val (.int .i64 vb),.val (.slice ad n cap)]
def int1 (l:List Int):List Value:=l.map fun n=>.int .i64 n
def cdR (t:TypeId) (cs:List (List Ins)):Rsc:=⟨fun ρ H=>(∃ (arr:Array Value) (fr:Nat×Nat),H ρ.1=some (.cells arr t fr)∧arr.size=ρ.2)∧CodesIn H (some ⟨ρ.1,0,none⟩) cs⟩
abbrev cdB (k:Nat) (cs:List (List Ins)):Nat×Option Box:=(k,some ⟨0,[],.res (cdR 90 cs)⟩)
section
variable {n:Nat} {C:Ctx} {X:Nat→Option Obj} {s:List (Nat×LV)} {bx:List (Nat×Option Box)} {k:Nat}
theorem cd_shut {Mid:St→Prop} {t:TypeId} {cs:List (List Ins)} {H:Nat→Option Obj} {vs:List Value} (hO:OwnedM C X H) (G:FormsH H vs cs)
  (h:Leads n C Mid ⟨s,(k,some ⟨0,[],.res (cdR t cs)⟩)::bx,X⟩):Leads n C Mid ⟨s,(k,some ⟨t,vs.map .val,false⟩)::bx,joinM X H⟩:=by
 refine Leads.closeRes (vals:=vs) hO (fun ρ fr h1 h2 h3 => ?_) h
 refine ⟨⟨_,fr,cJ _ _ _,by rw [h3];simp⟩,?_⟩
 exact forms_block (sp:=[]) (cJ _ _ _) (by simp) (G.mono (cF h1))
end
def nilV (k:Nat):List Value:=List.replicate k (.slice none 0 0)
theorem nilV_succ (k:Nat):nilV (k+1) = .slice none 0 0::nilV k:=List.replicate_succ
theorem nilV_len (k:Nat):(nilV k).length=k:=dA
theorem nilV_splice {vs:List Value} {k i:Nat} {c:CV} (hi:vs.length=i):splice ((vs++nilV (k+1)).map CV.val) i [c]=vs.map CV.val++c::(nilV k).map CV.val:=by
 unfold splice
 rw [nilV_succ]
 simp only [dE,dJ]
 have hml:(vs.map CV.val).length=i:=by rw [cT,hi]
 generalize vs.map CV.val=R at *
 rw [← hml,List.take_left,List.drop_length_add_append]
 simp
variable (X:Nat→Option Obj)
abbrev Vp' (b:Nat):LV:=.sv (.one (.val (.pointer (some ⟨b,0,none⟩))))
theorem kIndex (ad:Option Addr) (cap:Nat) (rs:List Rl) (hin:RulesIn X ad rs) (hbig:rs.length<4611686018427387904) (f:FuncId) (caps:List Value) (p:Rl→Bool)
  (hp:∀ r∈rs,∀ ead ecap,PSpec Tryz.prog X f ([LPg r.nw r.old ead r.ex.length ecap]++caps.map fun v=>.sv (.one (.val v))) (Lb (p r))):
  PSpec Tryz.prog X 171 [Lx ad rs.length cap,Lf f caps] (Ln .i64 (findI p rs)):=by
 refine cC Tryz.func171 rfl (by kernel_rfl) rfl rfl ?_
 intro C
 (refine aA<|rgN<|kas O<|aB<|aA<|aA<|rgN<|kmv O<|aQ O bZ O dO ?_;refine kmv O<|aB<|aG ?_)
 refine cG (fun m σ=>∃ i:Nat,i≤rs.length∧m=rs.length-i∧(∀ (j:Nat) (y:Rl),j<i→rs[j]? = some y→p y=false)∧σ=⟨[(0,Lx ad rs.length cap),(1,Lf f caps),(7,Ln .i64 (rs.length:Nat)),(8,Ln .i64 (i:Nat))],[],X⟩) rs.length
  ⟨_,Le.of (by exact ⟨rfl,rfl,rfl,rfl,trivial⟩) (by exact trivial) (by exact rfl) (by exact rfl) (by exact rfl),0,by omega,by omega,fun j y hj=>absurd hj (by omega),rfl⟩ ?_
 rintro m σ ⟨i,hi,rfl,hpre,rfl⟩
 by_cases hlt:i<rs.length
 ·obtain ⟨c,hc⟩:∃ c,rs[i]? = some c:=⟨_,cU hlt⟩
  obtain ⟨blk,off,arr,el,fr,fad,fcap,rfl,hX,hsz,hcs,_,_,_,hF⟩:=hin.get hc
  have hio:off+Int.toNat (i:Int)*3=off+i*3:=by simp
  have hP:=hp c (cZ hc) fad fcap
  cases hpc:p c with
  | true =>
   rw [hpc] at hP
   rw [findI_some hpre hc hpc]
   (refine aA<|rgN<|klt O O (cL (by omega))<|aB<|aA<|aE O ?_;refine aH ?_;refine aA<|aG<|aA<|rgN<|kmv O<|kas O<|aB<|aA<|rgN<|kmv O<|kmv O<|kmv O<|aR O O bZ (by omega) hio dO<|aY O hX (by kernel_rfl) hsz hcs dO ?_;refine K.callF O O O hP dO ?_;refine aB<|aE O ?_;refine aA<|rgN<|kmv O<|kas O<|aB<|aI ?_)
   exact ⟨[_],⟨O,trivial⟩,O⟩
  | false =>
   rw [hpc] at hP
   (refine aA<|rgN<|klt O O (cL (by omega))<|aB<|aA<|aE O ?_;refine aH ?_;refine aA<|aG<|aA<|rgN<|kmv O<|kas O<|aB<|aA<|rgN<|kmv O<|kmv O<|kmv O<|aR O O bZ (by omega) hio dO<|aY O hX (by kernel_rfl) hsz hcs dO ?_;refine K.callF O O O hP dO ?_;refine aB<|aF O ?_;refine aH ?_;refine rgN<|kad O O (cE (by omega))<|kmv O<|aB ?_)
   exact ⟨_,_,by omega,Le.of (by exact ⟨O,O,O,O,trivial⟩) (by exact trivial) (by exact O) (by exact O) (by exact O),i+1,by omega,O,(fun j y hj hy=>by
    by_cases e:j=i
    ·subst e;rw [hc] at hy;cases hy;exact hpc
    ·exact hpre j y (by omega) hy),rfl⟩
 ·rw [findI_none fun j y hy=>hpre j y (by have:=(List.getElem?_eq_some_iff.1 hy).1;omega) hy]
  (refine aA<|rgN<|klt O O (cK (by omega))<|aB<|aA<|aF O ?_;refine aJ<|aA<|rgN<|kas O<|aB<|aI ?_)
  exact ⟨[_],⟨O,trivial⟩,O⟩
end Go.Proofs.YtopiioklkkiedaaGreatDoor
end
section
namespace Go.Proofs.YtopiioklkkiedaaGreatDoor
open Go Go.Lg Go.Lg.Fml Go.Lg.Fld Go.Lg.Arith
set_option maxRecDepth 100000
theorem firstE_shift {f:Nat→Int}:∀ n i,firstE f (i+1) n=firstE (fun j=>f (j+1)) i n
 | 0,_=>rfl
 | n+1,i=>by
  show (if f (i+1)=0 then firstE f (i+1+1) n else f (i+1))=(if f (i+1)=0 then firstE (fun j=>f (j+1)) (i+1) n else f (i+1))
  rw [firstE_shift n (i+1)]
theorem seqE_cons {α:Type} {g:α→Int} {x:α} {t:List α}:seqE g (x::t)=if g x=0 then seqE g t else g x:=by
 show (if atE g (x::t) 0=0 then firstE (atE g (x::t)) (0+1) t.length else atE g (x::t) 0)=_
 rw [firstE_shift]
 rfl
theorem seqE_uses {fs:List Fl} {f:Fl}:∀ l:List Ins,seqE (findE fs f) (usesX l)=seqE (findE fs f) l
 | []=>rfl
 | x::t=>by
  have ih:=seqE_uses (fs:=fs) (f:=f) t
  have h1:usesX (x::t)=if (x.op==2||x.op==3)=true then x::usesX t else usesX t:=List.filter_cons
  rw [h1,seqE_cons]
  by_cases h:x.op=2∨x.op=3
  ·rw [if_pos (by simpa using h),seqE_cons,ih]
  ·rw [if_neg (by simpa using h),findE_skip h,if_pos rfl,ih]
theorem uses_mem {l:List Ins} {x:Ins} (h:x∈usesX l):x∈l∧(x.op=2∨x.op=3):=by
 unfold usesX at h
 rw [List.mem_filter] at h
 exact ⟨h.1,by simpa using h.2⟩
def hdB:List Ins→Bool
 | [x]=>x.op==2||x.op==3||(x.op==1&&decide (x.k=(false,0)))
 | _=>false
theorem refE_hd {f:Fl} {l:List Ins} (h:chkX l=0):refE f l=if f.kind=10∧hdB l=false then 8 else 0:=by
 match l,h with
 | [],h=>exact absurd rfl (chkX_ne h)
 | [x],h =>
  have hd:=(chkX_zero h).2
  have ho:=(okI_facts (chkX_ok h x (List.mem_singleton.2 rfl))).1
  have ht:takes x.op=0:=by
   by_cases e:takes x.op=0
   ·exact e
   ·exfalso
    unfold dep at hd
    rw [if_neg (by omega)] at hd
    cases hd
  have h4:x.op≤4:=by
   unfold takes at ht
   by_cases e:x.op≤4
   ·exact e
   ·exfalso
    by_cases a1:x.op=16
    ·rw [if_pos a1] at ht;cases ht
    ·rw [if_neg a1] at ht
     by_cases a2:x.op=10∨x.op=15
     ·rw [if_pos a2] at ht;cases ht
     ·rw [if_neg a2,if_pos (by omega)] at ht;cases ht
  show (if f.kind=10∧(x.op=4∨(x.op=1∧x.k≠(false,0))) then (8:Int) else 0)=if f.kind=10∧(x.op==2||x.op==3||(x.op==1&&decide (x.k=(false,0))))=false then 8 else 0
  have hi:(x.op=4∨(x.op=1∧x.k≠(false,0)))↔(x.op==2||x.op==3||(x.op==1&&decide (x.k=(false,0))))=false:=by
   by_cases hk:x.k=(false,0)
   ·simp [hk];omega
   ·simp [hk];omega
  by_cases hf:f.kind=10
  ·by_cases hb:x.op=4∨(x.op=1∧x.k≠(false,0))
   ·rw [if_pos ⟨hf,hb⟩,if_pos ⟨hf,hi.1 hb⟩]
   ·rw [if_neg (fun h=>hb h.2),if_neg (fun h=>hb (hi.2 h.2))]
  ·rw [if_neg (fun h=>hf h.1),if_neg (fun h=>hf h.1)]
 | x::y::t,h =>
  show (if f.kind=10 then (8:Int) else 0)=if f.kind=10∧hdB (x::y::t)=false then 8 else 0
  by_cases hf:f.kind=10
  ·rw [if_pos hf,if_pos ⟨hf,rfl⟩]
  ·rw [if_neg hf,if_neg (fun h=>hf h.1)]
abbrev Ax (x:Ins):LV:=.sv (.agg ((insV x).map CV.val))
def heB (g f:Fl) (x:Ins):Bool:=if x.op=2 then decide (x.b<g.count) else decide (f.count≤g.count)
variable (X:Nat→Option Obj)
theorem yIsRef (f:Fl):PSpec Tryz.prog X 141 [Fx f] (Lb (decide (f.kind=10))):=by
 refine cC Tryz.func141 rfl (by kernel_rfl) rfl rfl ?_
 intro C
 (refine aA<|rgN<|aL O O O dO<|kas O<|aB<|aA<|rgN<|kfa O O ?_;refine kl1 O O O<|keq O O (r:=decide (f.kind=10)) (beq_dec f.kind 10)<|kas O<|aB<|aI ?_)
 exact ⟨[_],⟨O,trivial⟩,O⟩
theorem yHas (g f:Fl) (x:Ins):PSpec Tryz.prog X 176 [Fx g,Fx f,Ax x] (Lb (heB g f x)):=by
 refine cC Tryz.func176 rfl (by kernel_rfl) rfl rfl ?_
 intro C
 unfold heB
 by_cases c2:x.op=2
 ·rw [if_pos c2]
  (refine aA<|rgN<|aL O O O dO<|aL O O O dO<|aL O O O dO<|kas O<|aB<|aA<|aA<|rgN<|kfa O O ?_;refine kl1 O O O<|keq O O (r:=true) (cR c2)<|aB<|aE O ?_;refine aA<|rgN<|kfa O O ?_;refine kl1 O O O<|kfa O O ?_;refine kl1 O O O<|klt O O O<|kas O<|aB<|aI ?_)
  exact ⟨[_],⟨O,trivial⟩,O⟩
 ·rw [if_neg c2]
  (refine aA<|rgN<|aL O O O dO<|aL O O O dO<|aL O O O dO<|kas O<|aB<|aA<|aA<|rgN<|kfa O O ?_;refine kl1 O O O<|keq O O (r:=false) (cN c2)<|aB<|aF O ?_;refine aH ?_;refine aA<|rgN<|kfa O O ?_;refine kl1 O O O<|kfa O O ?_;refine kl1 O O O<|bD O O O dO<|kas O<|aB<|aI ?_)
  exact ⟨[_],⟨O,trivial⟩,O⟩
theorem yUse (c:Cp) (f:Fl) (x:Ins) (cad:Option Addr) (ccap:Nat) (hF:FieldsIn X cad c.fs) (hfl:c.fs.length<4611686018427387904) (h23:x.op=2∨x.op=3) (ha0:0≤x.a):
  PSpec Tryz.prog X 135 [Cx c cad ccap,Fx f,Ax x] (Ln .i64 (findE c.fs f x)):=by
 refine cC Tryz.func135 rfl (by kernel_rfl) rfl rfl ?_
 intro C
 cases hg:c.fs[x.a.toNat]? with
 | none =>
  have hge:=List.getElem?_eq_none_iff.1 hg
  rw [findE_out h23 hg]
  (refine aA<|rgN<|aL O O O dO<|aL O O O dO<|aL O O O dO<|kas O<|aB<|aA<|aA<|rgN<|kfa O O ?_;refine kl1 O O O<|kfa O O ?_;refine kl1 O O O<|aQ O bZ O dO ?_;refine bD O O (cL (by omega)) dO<|aB<|aE O ?_;refine aA<|rgN<|kas O<|aB<|aI ?_)
  exact ⟨[_],⟨O,trivial⟩,O⟩
 | some g =>
 have hlg:=(List.getElem?_eq_some_iff.1 hg).1
 have hE:=findE_at (f:=f) h23 hg
 obtain ⟨fb,fo,farr,fel,ffr,rfl,hFX,hFz,hFc,_⟩:=hF.cells hg
 have hio3:fo+Int.toNat x.a*3=fo+x.a.toNat*3:=rfl
 have hH:=yHas X g f x
 cases hb:heB g f x with
 | false =>
  rw [hb] at hH
  have h3:(x.op=2∧g.count≤x.b)∨(x.op=3∧g.count<f.count):=by
   unfold heB at hb
   by_cases c2:x.op=2
   ·rw [if_pos c2] at hb
    have:=of_decide_eq_false hb
    exact .inl ⟨c2,by omega⟩
   ·rw [if_neg c2] at hb
    have:=of_decide_eq_false hb
    exact .inr ⟨by omega,by omega⟩
  rw [if_pos h3] at hE
  rw [hE]
  (refine aA<|rgN<|aL O O O dO<|aL O O O dO<|aL O O O dO<|kas O<|aB<|aA<|aA<|rgN<|kfa O O ?_;refine kl1 O O O<|kfa O O ?_;refine kl1 O O O<|aQ O bZ O dO ?_;refine bD O O (cK (by omega)) dO<|aB<|aF O ?_;refine aH ?_;refine aA<|rgN<|kfa O O ?_;refine kl1 O O O<|kfa O O ?_;refine kl1 O O O<|aR O O bZ (by omega) hio3 dO<|aY O hFX (by kernel_rfl) hFz hFc dO<|aP O dO ?_;refine aM O O O O O O dO ?_;refine aB<|aA<|aG<|aA<|rgN<|aK O O O dO ?_;refine aK O O O dO ?_;refine aK O O O dO ?_;refine kca O O hH<|aV O O dO<|kas O<|aB<|aE O ?_;refine aA<|rgN<|kas O<|aB<|aI ?_)
  exact ⟨[_],⟨O,trivial⟩,O⟩
 | true =>
 rw [hb] at hH
 have h3:¬((x.op=2∧g.count≤x.b)∨(x.op=3∧g.count<f.count)):=by
  unfold heB at hb
  by_cases c2:x.op=2
  ·rw [if_pos c2] at hb
   have:=of_decide_eq_true hb
   omega
  ·rw [if_neg c2] at hb
   have:=of_decide_eq_true hb
   omega
 rw [if_neg h3] at hE
 have hg1:=yIsRef X g
 have hg2:=yIsRef X f
 by_cases hk:(g.kind=10)=(f.kind=10)
 ·rw [if_pos hk] at hE
  rw [hE]
  have hn:(decide (g.kind=10) != decide (f.kind=10))=false:=by simp [hk]
  (refine aA<|rgN<|aL O O O dO<|aL O O O dO<|aL O O O dO<|kas O<|aB<|aA<|aA<|rgN<|kfa O O ?_;refine kl1 O O O<|kfa O O ?_;refine kl1 O O O<|aQ O bZ O dO ?_;refine bD O O (cK (by omega)) dO<|aB<|aF O ?_;refine aH ?_;refine aA<|rgN<|kfa O O ?_;refine kl1 O O O<|kfa O O ?_;refine kl1 O O O<|aR O O bZ (by omega) hio3 dO<|aY O hFX (by kernel_rfl) hFz hFc dO<|aP O dO ?_;refine aM O O O O O O dO ?_;refine aB<|aA<|aG<|aA<|rgN<|aK O O O dO ?_;refine aK O O O dO ?_;refine aK O O O dO ?_;refine kca O O hH<|aV O O dO<|kas O<|aB<|aF O ?_;refine aA<|rgD mixed<|aK O O O dO ?_;refine kca O O hg1<|aK O O O dO ?_;refine kca O O hg2<|K.neqB O O hn dO<|kas O<|aB<|rgA ?_;refine aF O ?_;refine aH ?_;refine aA<|rgN<|kas O<|aB<|aI ?_)
  exact ⟨[_],⟨O,trivial⟩,O⟩
 ·rw [if_neg hk] at hE
  rw [hE]
  have hn:(decide (g.kind=10) != decide (f.kind=10))=true:=by
   rw [bne_iff_ne]
   intro h
   exact hk (by simpa using h)
  (refine aA<|rgN<|aL O O O dO<|aL O O O dO<|aL O O O dO<|kas O<|aB<|aA<|aA<|rgN<|kfa O O ?_;refine kl1 O O O<|kfa O O ?_;refine kl1 O O O<|aQ O bZ O dO ?_;refine bD O O (cK (by omega)) dO<|aB<|aF O ?_;refine aH ?_;refine aA<|rgN<|kfa O O ?_;refine kl1 O O O<|kfa O O ?_;refine kl1 O O O<|aR O O bZ (by omega) hio3 dO<|aY O hFX (by kernel_rfl) hFz hFc dO<|aP O dO ?_;refine aM O O O O O O dO ?_;refine aB<|aA<|aG<|aA<|rgN<|aK O O O dO ?_;refine aK O O O dO ?_;refine aK O O O dO ?_;refine kca O O hH<|aV O O dO<|kas O<|aB<|aF O ?_;refine aA<|rgD mixed<|aK O O O dO ?_;refine kca O O hg1<|aK O O O dO ?_;refine kca O O hg2<|K.neqB O O hn dO<|kas O<|aB<|rgA ?_;refine aE O ?_;refine aA<|rgN<|kas O<|aB<|aI ?_)
  exact ⟨[_],⟨O,trivial⟩,O⟩
theorem yIsHandle (l:List Ins) (ad:Option Addr) (cap:Nat) (hin:InsIn X ad l) (hl:l.length<4611686018427387904):
  PSpec Tryz.prog X 142 [Lx ad l.length cap] (Lb (hdB l)):=by
 refine cC Tryz.func142 rfl (by kernel_rfl) rfl rfl ?_
 intro C
 by_cases h1:l.length=1
 case neg =>
  have hr:hdB l=false:=by
   unfold hdB
   split
   ·exact absurd rfl h1
   ·rfl
  rw [hr]
  (refine aA<|rgN<|kas O<|aB<|aA<|aA<|rgN<|kmv O<|aQ O bZ O dO ?_;refine kne O O (r:=true) (cP (by omega))<|aB<|aE O ?_;refine aA<|rgN<|kas O<|aB<|aI ?_)
  exact ⟨[_],⟨O,trivial⟩,O⟩
 obtain ⟨x,hx⟩:∃ x,l[0]? = some x:=⟨_,cU (by omega)⟩
 have hl1:l=[x]:=by
  match l,h1,hx with
  | [y],_,hx=>simp only [List.getElem?_cons_zero,Option.some.injEq] at hx;rw [hx]
 obtain ⟨blk,off,arr,el,fr,rfl,hX,hsz,hcs,g0,g1,g2,g3⟩:=hin.six hx
 obtain ⟨_,_,_,hk2⟩:=hin.small x (cZ hx)
 have h00:off+Int.toNat 0*6=off+0*6:=by simp
 have hr:hdB l=(x.op==2||x.op==3||(x.op==1&&decide (x.k=(false,0)))):=by rw [hl1];rfl
 rw [hr]
 clear hr hl1
 by_cases c2:x.op=2
 ·have e:(x.op==2||x.op==3||(x.op==1&&decide (x.k=(false,0))))=true:=by rw [c2];rfl
  rw [e]
  (refine aA<|rgN<|kas O<|aB<|aA<|aA<|rgN<|kmv O<|aQ O bZ O dO ?_;refine kne O O (r:=false) (cO (by omega))<|aB<|aF O ?_;refine aH ?_;refine aA<|aA<|rgN<|kmv O<|aR O O bZ (by omega) h00 dO<|aY O hX (by kernel_rfl) hsz hcs dO<|aP O dO ?_;refine aM O O O O O O dO ?_;refine aB<|aA<|rgN<|kfa O O ?_;refine kl1 O O O<|aB<|aG<|aA<|aA<|rgN<|keq O O (r:=true) (cR c2)<|kas O<|aB<|aE O ?_;refine aH ?_;refine aE O ?_;refine aA<|rgN<|kas O<|aB<|aI ?_)
  exact ⟨[_],⟨O,trivial⟩,O⟩
 by_cases c3:x.op=3
 ·have e:(x.op==2||x.op==3||(x.op==1&&decide (x.k=(false,0))))=true:=by rw [c3];rfl
  rw [e]
  (refine aA<|rgN<|kas O<|aB<|aA<|aA<|rgN<|kmv O<|aQ O bZ O dO ?_;refine kne O O (r:=false) (cO (by omega))<|aB<|aF O ?_;refine aH ?_;refine aA<|aA<|rgN<|kmv O<|aR O O bZ (by omega) h00 dO<|aY O hX (by kernel_rfl) hsz hcs dO<|aP O dO ?_;refine aM O O O O O O dO ?_;refine aB<|aA<|rgN<|kfa O O ?_;refine kl1 O O O<|aB<|aG<|aA<|aA<|rgN<|keq O O (r:=false) (cN c2)<|kas O<|aB<|aF O ?_;refine rgN<|keq O O (r:=true) (cR c3)<|kas O<|aB<|aE O ?_;refine aA<|rgN<|kas O<|aB<|aI ?_)
  exact ⟨[_],⟨O,trivial⟩,O⟩
 have e:(x.op==2||x.op==3||(x.op==1&&decide (x.k=(false,0))))=(x.op==1&&decide (x.k=(false,0))):=by
  rw [cN c2,cN c3];rfl
 rw [e]
 by_cases c1:x.op=1
 ·rw [cR c1,Bool.true_and]
  obtain ⟨op,a,b,kb,kN⟩:=x
  simp only at hk2 g0 g1 g2 g3 hcs c2 c3 c1 ⊢
  have q:=eqI (b:=kb) (b':=false) (h:=kN/18446744073709551616) (h':=0) (l:=kN%18446744073709551616) (l':=0) _ (eqZ hk2)
  (refine aA<|rgN<|kas O<|aB<|aA<|aA<|rgN<|kmv O<|aQ O bZ O dO ?_;refine kne O O (r:=false) (cO (by omega))<|aB<|aF O ?_;refine aH ?_;refine aA<|aA<|rgN<|kmv O<|aR O O bZ (by omega) h00 dO<|aY O hX (by kernel_rfl) hsz hcs dO<|aP O dO ?_;refine aM O O O O O O dO ?_;refine aB<|aA<|rgN<|kfa O O ?_;refine kl1 O O O<|aB<|aG<|aA<|aA<|rgN<|keq O O (r:=false) (cN c2)<|kas O<|aB<|aF O ?_;refine rgN<|keq O O (r:=false) (cN c3)<|kas O<|aB<|aF O ?_;refine aA<|rgN<|keq O O (r:=true) (cR c1)<|kas O<|aB<|aE O ?_;refine aA<|rgN<|kfa O O ?_;refine bJ O O O (by exact nl3 O O O O) dO ?_;refine aT O O (by exact O) (by exact nl3 O O O O) dO ?_;refine bQ O O O O (by kernel_rfl) q (.inl ⟨O,O⟩) dO<|kas O<|aB<|aI ?_)
  exact ⟨[_],⟨O,trivial⟩,O⟩
 ·rw [cN c1,Bool.false_and]
  (refine aA<|rgN<|kas O<|aB<|aA<|aA<|rgN<|kmv O<|aQ O bZ O dO ?_;refine kne O O (r:=false) (cO (by omega))<|aB<|aF O ?_;refine aH ?_;refine aA<|aA<|rgN<|kmv O<|aR O O bZ (by omega) h00 dO<|aY O hX (by kernel_rfl) hsz hcs dO<|aP O dO ?_;refine aM O O O O O O dO ?_;refine aB<|aA<|rgN<|kfa O O ?_;refine kl1 O O O<|aB<|aG<|aA<|aA<|rgN<|keq O O (r:=false) (cN c2)<|kas O<|aB<|aF O ?_;refine rgN<|keq O O (r:=false) (cN c3)<|kas O<|aB<|aF O ?_;refine aA<|rgN<|keq O O (r:=false) (cN c1)<|kas O<|aB<|aF O ?_;refine aH ?_;refine aA<|rgN<|kas O<|aB<|aI ?_)
  exact ⟨[_],⟨O,trivial⟩,O⟩
set_option maxHeartbeats 6400000 in
theorem yFormula (c:Cp) (f:Fl) (l:List Ins) (cad ad:Option Addr) (ccap cap:Nat) (hF:FieldsIn X cad c.fs) (hin:InsIn X ad l) (hbig:l.length<1152921504606846976) (hfl:c.fs.length<4611686018427387904):
  PSpec Tryz.prog X 102 [Cx c cad ccap,Fx f,Lx ad l.length cap] (Ln .i64 (fmE c.fs f l)):=by
 have hC:=gCheck X l ad cap hin hbig
 refine cC Tryz.func102 rfl (by kernel_rfl) rfl rfl ?_
 intro C
 unfold fmE
 by_cases h0:chkX l=0
 case neg =>
  rw [if_neg h0]
  generalize chkX l=e at *
  (refine aA<|rgN<|aL O O O dO<|aL O O O dO<|kas O<|aB<|aA<|aA<|rgN<|kmv O<|kca O O hC<|kas O<|aB<|aA ?_;refine rgN<|kmv O<|kne O O (cP h0)<|aB<|aE O ?_;refine aA<|rgN<|kmv O<|kas O<|aB<|aI ?_)
  exact ⟨[_],⟨O,trivial⟩,O⟩
 rw [h0] at hC
 have hchk:=chkX_ok h0
 have h64:=(chkX_zero h0).1
 have hU:=gUses' X l ad cap hin (by omega)
 have hul:=uses_le l
 rw [if_pos h0,refE_hd h0,← seqE_uses (fs:=c.fs) (f:=f) l]
 (refine aA<|rgN<|aL O O O dO<|aL O O O dO<|kas O<|aB<|aA<|aA<|rgN<|kmv O<|kca O O hC<|kas O<|aB<|aA ?_;refine rgN<|kmv O<|kne O O (r:=false) O<|aB<|aF O ?_;refine aH ?_;refine aA<|aA<|rgN<|kmv O<|bE [(1000001,601)] (.sv (.one (.slc 601 0 (usesX l).length 6))) [(601,some ⟨88,(inssV (usesX l)).map .val,true⟩)] (hU) O O (by exact trivial) O O O O O (by exact (.box O (bX _ _ _ _) .nil)) dO<|K.lenSlc O bZ O dO ?_;refine kmv O<|aB<|aG ?_)
 refine LWP.le (σ':=⟨[(17,.sv (.one (.slc 601 0 (usesX l).length 6))),(2,Lx ad l.length cap),(3,Lp 3),(4,Lp 4),(18,Ln .i64 ((usesX l).length:Nat)),(19,Ln .i64 0)],[(601,some ⟨88,(inssV (usesX l)).map .val,true⟩),flB 4 f,cpB 3 c cad ccap],X⟩) (Le.of (by exact ⟨O,O,O,O,O,O,trivial⟩) (by exact ⟨O,O,O,trivial⟩) (by exact O) (by exact O) (by repeat' (first|refine bS ?_ ?_|rfl|exact bU|exact bT|exact bV O))) ?_
 refine LWP.freeze O O O fun ub uc ua uf hn _ _ _ hsp => ?_
 have hum:∀ x∈usesX l,smallI x:=fun x hx=>hin.small x (uses_mem hx).1
 have hUI:=ins_in (cJ X ub (.cells ua 88 uf)) hum hsp
 have hXY:=cF (o:=.cells ua 88 uf) hn
 replace hF:=hF.mono hXY
 have hH:=yIsHandle _ l ad cap (hin.mono hXY) (by omega)
 have huse:∀ x∈usesX l,(x.op=2∨x.op=3)∧0≤x.a:=fun x hx=>⟨(uses_mem hx).2,(okI_facts (hchk x (uses_mem hx).1)).2.2.1.1⟩
 clear hin hC hU hsp hn hchk hum
 generalize withBlock X ub (.cells ua 88 uf)=Y at *
 generalize (some ⟨ub,0,none⟩:Option Addr)=uad at *
 generalize usesX l=u at *
 have hR:=yIsRef Y f
 refine cG (fun m σ=>∃ i:Nat,i≤u.length∧m=u.length-i∧(∀ j,0≤j→j<i→atE (findE c.fs f) u j=0)∧σ=⟨[(2,Lx ad l.length cap),(3,Lp 3),(4,Lp 4),(17,Lx uad u.length uc),(18,Ln .i64 (u.length:Nat)),(19,Ln .i64 (i:Nat))],[flB 4 f,cpB 3 c cad ccap],Y⟩) u.length
  ⟨_,Le.of (by exact ⟨rfl,rfl,rfl,rfl,rfl,rfl,trivial⟩) (by exact ⟨rfl,rfl,trivial⟩) (by exact rfl) (by exact rfl) (by repeat' (first|refine bS ?_ ?_|rfl|exact bU|exact bT|exact bV rfl)),0,by omega,by omega,fun j _ hj=>absurd hj (by omega),rfl⟩ ?_
 rintro m σ ⟨i,hi,rfl,hpre,rfl⟩
 by_cases hlt:i<u.length
 case neg =>
  have e:i=u.length:=by omega
  subst e
  have hs:seqE (findE c.fs f) u=0:=firstE_none fun j h1 h2=>hpre j h1 (by omega)
  rw [if_pos hs]
  by_cases hk:f.kind=10
  ·rw [cL hk] at hR
   cases hd:hdB l with
   | true =>
    rw [hd] at hH
    rw [if_neg (fun h=>by cases h.2)]
    (refine aA<|rgN<|klt O O (cK (by omega))<|aB<|aA<|aF O ?_;refine aJ<|aA<|aA<|rgN<|aK O O O dO ?_;refine kca O O hR<|kmv O<|gmv O O O<|gca O O hH O O<|aV O O (dP O O) ?_;refine kpt O O<|aB<|aF O ?_;refine aH ?_;refine aA<|rgN<|kas O<|aB<|aI ?_)
    exact ⟨[_],⟨O,trivial⟩,O⟩
   | false =>
    rw [hd] at hH
    rw [if_pos ⟨hk,rfl⟩]
    (refine aA<|rgN<|klt O O (cK (by omega))<|aB<|aA<|aF O ?_;refine aJ<|aA<|aA<|rgN<|aK O O O dO ?_;refine kca O O hR<|kmv O<|gmv O O O<|gca O O hH O O<|aV O O (dP O O) ?_;refine kpt O O<|aB<|aE O ?_;refine aA<|rgN<|kas O<|aB<|aI ?_)
    exact ⟨[_],⟨O,trivial⟩,O⟩
  ·rw [cK hk] at hR
   rw [if_neg (fun h=>hk h.1)]
   (refine aA<|rgN<|klt O O (cK (by omega))<|aB<|aA<|aF O ?_;refine aJ<|aA<|aA<|rgN<|aK O O O dO ?_;refine kca O O hR<|kmv O<|aC O O O<|aC O O O<|aC O O O<|kpf O O<|aB<|aF O ?_;refine aH ?_;refine aA<|rgN<|kas O<|aB<|aI ?_)
   exact ⟨[_],⟨O,trivial⟩,O⟩
 obtain ⟨x,hx⟩:∃ x,u[i]? = some x:=⟨_,cU hlt⟩
 obtain ⟨blk,off,arr,el,fr,rfl,hX,hsz,hcs,_⟩:=hUI.at hx
 have hio:off+Int.toNat (i:Int)*6=off+i*6:=by simp
 obtain ⟨h23,ha0⟩:=huse x (cZ hx)
 have hadd:IntKind.i64.wrap ((i:Int)+1)=((i+1:Nat):Int):=by rw [cE (by omega)];omega
 have hq:=yUse Y c f x cad ccap hF hfl h23 ha0
 by_cases he:findE c.fs f x=0
 ·rw [he] at hq
  have next:∀ j,0≤j→j<i+1→atE (findE c.fs f) u j=0:=fun j h0 hj=>by
   by_cases e:j=i
   ·rw [e,atE_at hx];exact he
   ·exact hpre j h0 (by omega)
  (refine aA<|rgN<|klt O O (cL (by omega))<|aB<|aA<|aE O ?_;refine aH ?_;refine aA<|aG<|aA<|rgN<|aR O O bZ (by omega) hio dO<|aY O hX (by kernel_rfl) hsz hcs dO<|aP O dO ?_;refine aM O O O O O O dO ?_;refine aB<|aA<|rgN<|aK O O O dO ?_;refine aK O O O dO ?_;refine aK O O O dO ?_;refine kca O O hq<|kas O<|aB<|aA<|rgN<|kmv O<|kne O O (r:=false) O<|aB<|aF O ?_;refine aH ?_;refine rgN<|kad O O hadd<|kmv O<|aB ?_)
  exact ⟨_,_,by omega,Le.of (by exact ⟨O,O,O,O,O,O,trivial⟩) (by exact ⟨O,O,trivial⟩) (by exact O) (by exact O) (by repeat' (first|refine bS ?_ ?_|rfl|exact bU|exact bT|exact bV O)),i+1,by omega,O,next,O⟩
 ·have hs:seqE (findE c.fs f) u=findE c.fs f x:=firstE_some hpre (Nat.zero_le _) (by omega) (by rw [atE_at hx]) he
  rw [hs,if_neg he]
  generalize findE c.fs f x=e at *
  (refine aA<|rgN<|klt O O (cL (by omega))<|aB<|aA<|aE O ?_;refine aH ?_;refine aA<|aG<|aA<|rgN<|aR O O bZ (by omega) hio dO<|aY O hX (by kernel_rfl) hsz hcs dO<|aP O dO ?_;refine aM O O O O O O dO ?_;refine aB<|aA<|rgN<|aK O O O dO ?_;refine aK O O O dO ?_;refine aK O O O dO ?_;refine kca O O hq<|kas O<|aB<|aA<|rgN<|kmv O<|kne O O (cP he)<|aB<|aE O ?_;refine aA<|rgN<|kmv O<|kas O<|aB<|aI ?_)
  exact ⟨[_],⟨O,trivial⟩,O⟩
end Go.Proofs.YtopiioklkkiedaaGreatDoor
end
section
namespace Go.Proofs.YtopiioklkkiedaaGreatDoor
open Go Go.Lg Go.Lg.Fml Go.Lg.Fld Go.Lg.Arith
set_option maxRecDepth 100000
variable (X:Nat→Option Obj)
set_option maxHeartbeats 6400000 in
theorem yRule (a b:Cp) (r:Rl) (aad bad ead:Option Addr) (acap bcap ecap:Nat) (hA:FieldsIn X aad a.fs) (hB:FieldsIn X bad b.fs) (hE:CodesIn X ead r.ex) (hal:a.fs.length<4611686018427387904) (hbl:b.fs.length<4611686018427387904) (hcl:∀ c∈r.ex,c.length<1152921504606846976):
  PSpec Tryz.prog X 67 [Cx a aad acap,Cx b bad bcap,.sv (.agg [.val (.int .i64 r.nw),.val (.int .i64 r.old),.val (.slice ead r.ex.length ecap)])] (Ln .i64 (ruE a.fs b.fs r)):=by
 refine cC Tryz.func67 rfl (by kernel_rfl) rfl rfl ?_
 intro C
 by_cases h0:r.old=0
 ·rw [show ruE a.fs b.fs r=0 from if_pos h0]
  (refine aA<|rgN<|aL O O O dO<|aL O O O dO<|aL O O O dO<|kas O<|aB<|aA<|aG<|aA<|rgN<|kfa O O ?_;refine kl1 O O O<|keq O O (r:=true) (cR h0)<|kas O<|aB<|aE O ?_;refine aA<|rgN<|kas O<|aB<|aI ?_)
  exact ⟨[_],⟨O,trivial⟩,O⟩
 by_cases hl:r.ex.length=b.fs.length
 case neg =>
  rw [show ruE a.fs b.fs r=4 by unfold ruE;rw [if_neg h0,if_neg hl]]
  (refine aA<|rgN<|aL O O O dO<|aL O O O dO<|aL O O O dO<|kas O<|aB<|aA<|aG<|aA<|rgN<|kfa O O ?_;refine kl1 O O O<|keq O O (r:=false) (cN h0)<|kas O<|aB<|aF O ?_;refine aA<|rgN<|kfa O O ?_;refine kl1 O O O<|aQ O bZ O dO ?_;refine kfa O O ?_;refine kl1 O O O<|aQ O bZ O dO ?_;refine kne O O (r:=true) (cP (by omega))<|kas O<|aB<|aE O ?_;refine aA<|rgN<|kas O<|aB<|aI ?_)
  exact ⟨[_],⟨O,trivial⟩,O⟩
 rw [ruE_at h0 hl]
 have hzl:(b.fs.zip r.ex).length=b.fs.length:=by rw [List.length_zip];omega
 (refine aA<|rgN<|aL O O O dO<|aL O O O dO<|aL O O O dO<|kas O<|aB<|aA<|aG<|aA<|rgN<|kfa O O ?_;refine kl1 O O O<|keq O O (r:=false) (cN h0)<|kas O<|aB<|aF O ?_;refine aA<|rgN<|kfa O O ?_;refine kl1 O O O<|aQ O bZ O dO ?_;refine kfa O O ?_;refine kl1 O O O<|aQ O bZ O dO ?_;refine kne O O (r:=false) (cO (by omega))<|kas O<|aB<|aF O ?_;refine aH ?_;refine aA<|aA<|rgN<|kfa O O ?_;refine kl1 O O O<|aQ O bZ O dO ?_;refine kmv O<|aB<|aG ?_)
 refine cG (fun m σ=>∃ i:Nat,i≤r.ex.length∧m=r.ex.length-i∧(∀ j,0≤j→j<i→atE (fun q:Fl×List Ins=>fmE a.fs q.1 q.2) (b.fs.zip r.ex) j=0)∧σ=⟨[(3,Lp 3),(4,Lp 4),(23,Lx ead r.ex.length ecap),(24,Ln .i64 (r.ex.length:Nat)),(25,Ln .i64 (i:Nat))],[cpB 4 b bad bcap,cpB 3 a aad acap],X⟩) r.ex.length
  ⟨_,Le.of (by exact ⟨rfl,rfl,rfl,rfl,rfl,trivial⟩) (by exact ⟨rfl,rfl,trivial⟩) (by exact rfl) (by exact rfl) (by repeat' (first|refine bS ?_ ?_|rfl|exact bU|exact bT|exact bV rfl)),0,by omega,by omega,fun j _ hj=>absurd hj (by omega),rfl⟩ ?_
 rintro m σ ⟨i,hi,rfl,hpre,rfl⟩
 by_cases hlt:i<r.ex.length
 case neg =>
  rw [show seqE (fun q:Fl×List Ins=>fmE a.fs q.1 q.2) (b.fs.zip r.ex)=0 from firstE_none fun j h1 h2=>hpre j h1 (by omega)]
  (refine aA<|rgN<|klt O O (cK (by omega))<|aB<|aA<|aF O ?_;refine aJ<|aA<|rgN<|kas O<|aB<|aI ?_)
  exact ⟨[_],⟨O,trivial⟩,O⟩
 obtain ⟨f,hf⟩:∃ f,b.fs[i]? = some f:=⟨_,cU (by omega)⟩
 obtain ⟨c,hc⟩:∃ c,r.ex[i]? = some c:=⟨_,cU hlt⟩
 obtain ⟨fb,fo,farr,fel,ffr,rfl,hFX,hFz,hFc,_⟩:=hB.cells hf
 obtain ⟨eb,eo,earr,eel,efr,vad,vcap,rfl,hEX,hec,hI⟩:=hE.get hc
 have hio3:fo+Int.toNat (i:Int)*3=fo+i*3:=by simp
 have hio1:eo+Int.toNat (i:Int)*1=eo+i*1:=by simp
 have hadd:IntKind.i64.wrap ((i:Int)+1)=((i+1:Nat):Int):=by rw [cE (by omega)];omega
 have hq:=yFormula X a f c aad vad acap vcap hA hI (hcl c (cZ hc)) hal
 have hat:atE (fun q:Fl×List Ins=>fmE a.fs q.1 q.2) (b.fs.zip r.ex) i=fmE a.fs f c:=atE_at (zip_two hf hc)
 by_cases he:fmE a.fs f c=0
 ·rw [he] at hq
  (refine aA<|rgN<|klt O O (cL (by omega))<|aB<|aA<|aE O ?_;refine aH ?_;refine aA<|aG<|aA<|rgN<|kmv O<|aR O O bZ (by omega) hio1 dO<|aW O hEX O hec dO<|kas O<|kas O<|aB<|aA<|rgD mixed<|aK O O O dO ?_;refine kfa O O ?_;refine kl1 O O O<|kmv O<|aR O O bZ (by omega) hio3 dO<|aY O hFX (by kernel_rfl) hFz hFc dO<|kmv O<|kca O O hq<|kas O<|aB<|rgA ?_;refine aA<|rgN<|kmv O<|kne O O (r:=false) O<|aB<|aF O ?_;refine aH ?_;refine rgN<|kad O O hadd<|kmv O<|aB ?_)
  exact ⟨_,_,by omega,Le.of (by exact ⟨O,O,O,O,O,trivial⟩) (by exact ⟨O,O,trivial⟩) (by exact O) (by exact O) (by repeat' (first|refine bS ?_ ?_|rfl|exact bU|exact bT|exact bV O)),i+1,by omega,O,(fun j h0 hj=>by
   by_cases e:j=i
   ·rw [e,hat];exact he
   ·exact hpre j h0 (by omega)),rfl⟩
 ·rw [show seqE (fun q:Fl×List Ins=>fmE a.fs q.1 q.2) (b.fs.zip r.ex)=fmE a.fs f c from firstE_some hpre (Nat.zero_le _) (by omega) hat he]
  generalize fmE a.fs f c=e at *
  (refine aA<|rgN<|klt O O (cL (by omega))<|aB<|aA<|aE O ?_;refine aH ?_;refine aA<|aG<|aA<|rgN<|kmv O<|aR O O bZ (by omega) hio1 dO<|aW O hEX O hec dO<|kas O<|kas O<|aB<|aA<|rgD mixed<|aK O O O dO ?_;refine kfa O O ?_;refine kl1 O O O<|kmv O<|aR O O bZ (by omega) hio3 dO<|aY O hFX (by kernel_rfl) hFz hFc dO<|kmv O<|kca O O hq<|kas O<|aB<|rgA ?_;refine aA<|rgN<|kmv O<|kne O O (r:=true) (cP he)<|aB<|aE O ?_;refine aA<|rgN<|kmv O<|kas O<|aB<|aI ?_)
  exact ⟨[_],⟨O,trivial⟩,O⟩
end Go.Proofs.YtopiioklkkiedaaGreatDoor
end
section
namespace Go.Proofs.YtopiioklkkiedaaGreatDoor
open Go Go.Lg Go.Lg.Fml Go.Lg.Fld Go.Lg.Arith
set_option maxRecDepth 100000
theorem plainF_no {fs:List Fl} {f:Fl} (h:fs.findIdx? (fun g=>g.nm==f.nm)=none):plainF fs f=num0:=by unfold plainF;rw [h]
theorem plainF_at {fs:List Fl} {f g:Fl} {i:Nat} (h:fs.findIdx? (fun g=>g.nm==f.nm)=some i) (hg:fs[i]? = some g):plainF fs f=if f.count≤g.count∧((g.kind=10)=(f.kind=10)) then ⟨3,i,0,(false,0)⟩ else num0:=by
 unfold plainF;rw [h];simp only;rw [hg]
def zrl (k:Nat):List Value:=(List.replicate k [Value.int .i64 0,Value.int .i64 0,Value.slice none 0 0]).flatten
theorem zrl_succ (k:Nat):zrl (k+1)=[Value.int .i64 0,Value.int .i64 0,Value.slice none 0 0]++zrl k:=by unfold zrl;rw [List.replicate_succ,List.flatten_cons]
theorem zrl_len (k:Nat):(zrl k).length=k*3:=by
 induction k with
 | zero=>rfl
 | succ k ih=>rw [zrl_succ,cS,ih];simp;omega
theorem nilV_flat (k:Nat):(List.replicate k [Value.slice none 0 0]).flatten=nilV k:=by
 induction k with
 | zero=>rfl
 | succ k ih=>rw [List.replicate_succ,List.flatten_cons,ih,nilV_succ];rfl
variable (X:Nat→Option Obj)
theorem yPlainIns (o:Cp) (f:Fl) (oad:Option Addr) (ocap:Nat) (hF:FieldsIn X oad o.fs) (hfl:o.fs.length<4611686018427387904):
  PSpec Tryz.prog X 100 [Cx o oad ocap,Fx f] (Ax (plainF o.fs f)):=by
 refine cC Tryz.func100 rfl (by kernel_rfl) rfl rfl ?_
 intro C
 cases hq:o.fs.findIdx? (fun g=>g.nm==f.nm) with
 | none =>
  rw [plainF_no hq]
  have hN:=pField_no X o oad ocap f.nm hF hfl (fun j y hy=>List.findIdx?_eq_none_iff.1 hq y (cZ hy))
  (refine aA<|rgN<|aL O O O dO<|aL O O O dO<|aP O dO ?_;refine aB<|aA<|rgN<|aK O O O dO ?_;refine kfa O O ?_;refine kl1 O O O<|kca O O hN<|kmv O<|kex O O<|kex O O<|kas O<|kas O<|aB<|aA<|rgN<|kmv O<|aT O O (by exact O) (by exact nl6 O O O O O O O) dO ?_;refine aP O dO ?_;refine aM O O O O O O dO ?_;refine aB<|aA<|aA<|rgN<|kmv O<|aV O O dO<|kmv O<|aC O O O<|aC O O O<|aC O O O<|aC O O O<|aC O O O<|kpt O O<|aB ?_;refine aE O ?_;refine aA<|rgN<|aT O O (by exact O) (by exact nl6 O O O O O O O) dO ?_;refine aM O O O O O O dO ?_;refine aB<|aI ?_)
  exact ⟨[_],⟨⟨_,_,O,O,O,.inl ⟨AggT.h,O⟩⟩,trivial⟩,O⟩
 | some i =>
 obtain ⟨hi,h1,h2⟩:=List.findIdx?_eq_some_iff_getElem.1 hq
 have hg:=cU hi
 generalize o.fs[i]=g at *
 have hN:=pField X o oad ocap f.nm hF hfl (fun j y hj hy=>by
  have:=h2 j hj
  rw [(List.getElem?_eq_some_iff.1 hy).2] at this
  simpa using this) hg (by simpa using h1)
 have hU:=yUse X o f ⟨3,i,0,(false,0)⟩ oad ocap hF hfl (.inr rfl) (by show (0:Int)≤(i:Int);omega)
 have hE:=findE_at (fs:=o.fs) (f:=f) (x:=⟨3,i,0,(false,0)⟩) (.inr rfl) (g:=g) (by simpa using hg)
 rw [plainF_at hq hg]
 by_cases hc:f.count≤g.count∧((g.kind=10)=(f.kind=10))
 ·rw [if_pos hc]
  rw [if_neg (by rintro (⟨h,_⟩|⟨_,h⟩);exact absurd (show (3:Int)=2 from h) (by decide);exact absurd h (by omega)),if_pos hc.2] at hE
  rw [hE] at hU
  (refine aA<|rgN<|aL O O O dO<|aL O O O dO<|aP O dO ?_;refine aB<|aA<|rgN<|aK O O O dO ?_;refine kfa O O ?_;refine kl1 O O O<|kca O O hN<|kmv O<|kex O O<|kex O O<|kas O<|kas O<|aB<|aA<|rgN<|kmv O<|aT O O (by exact O) (by exact nl6 O O O O O O O) dO ?_;refine aP O dO ?_;refine aM O O O O O O dO ?_;refine aB<|aA<|aA<|rgN<|kmv O<|aV O O dO<|kmv O<|aK O O O (dP O O) ?_;refine aK O O O (dP O O) ?_;refine aK O O O (dP O O) ?_;refine gca O O hU O O<|aX O O (r:=false) O (dP O O) ?_;refine kpf O O<|aB<|aF O ?_;refine aH ?_;refine aA<|rgN<|aK O O O dO ?_;refine aM O O O O O O dO ?_;refine aB<|aI ?_)
  exact ⟨[_],⟨⟨_,_,O,O,O,.inl ⟨AggT.h,O⟩⟩,trivial⟩,O⟩
 ·rw [if_neg hc]
  have he:findE o.fs f ⟨3,i,0,(false,0)⟩≠0:=by
   rw [hE]
   by_cases hb:f.count≤g.count
   ·rw [if_neg (by rintro (⟨h,_⟩|⟨_,h⟩);exact absurd (show (3:Int)=2 from h) (by decide);exact absurd h (by omega)),if_neg (fun h=>hc ⟨hb,h⟩)]
    decide
   ·rw [if_pos (.inr ⟨rfl,by omega⟩)]
    decide
  generalize findE o.fs f ⟨3,i,0,(false,0)⟩=e at *
  (refine aA<|rgN<|aL O O O dO<|aL O O O dO<|aP O dO ?_;refine aB<|aA<|rgN<|aK O O O dO ?_;refine kfa O O ?_;refine kl1 O O O<|kca O O hN<|kmv O<|kex O O<|kex O O<|kas O<|kas O<|aB<|aA<|rgN<|kmv O<|aT O O (by exact O) (by exact nl6 O O O O O O O) dO ?_;refine aP O dO ?_;refine aM O O O O O O dO ?_;refine aB<|aA<|aA<|rgN<|kmv O<|aV O O dO<|kmv O<|aK O O O (dP O O) ?_;refine aK O O O (dP O O) ?_;refine aK O O O (dP O O) ?_;refine gca O O hU O O<|aX O O (r:=true) (cP he) (dP O O) ?_;refine kpf O O<|aB<|aE O ?_;refine aA<|rgN<|aT O O (by exact O) (by exact nl6 O O O O O O O) dO ?_;refine aM O O O O O O dO ?_;refine aB<|aI ?_)
  exact ⟨[_],⟨⟨_,_,O,O,O,.inl ⟨AggT.h,O⟩⟩,trivial⟩,O⟩
theorem plainF_small {fs:List Fl} {f:Fl} (hl:fs.length<4611686018427387904):smallI (plainF fs f):=by
 rcases plainF_cases fs f with h|⟨i,g,hi,_,_,h⟩
 ·rw [h];exact ⟨by decide,by decide,by decide,by show 0≤(0:Int)∧_;decide⟩
 ·rw [h]
  have:=(List.getElem?_eq_some_iff.1 hi).1
  refine ⟨(by decide : -9223372036854775808≤(3:Int)∧(3:Int)<9223372036854775808),?_,(by decide : -9223372036854775808≤(0:Int)∧(0:Int)<9223372036854775808),(by decide:(0:Int)≤0∧(0:Int)<340282366920938463463374607431768211456)⟩
  show -9223372036854775808≤(i:Int)∧(i:Int)<9223372036854775808
  omega
theorem yPlainRule_no (a:Sc) (c:Cp) (ad cad:Option Addr) (cap ccap:Nat) (ha:CompsIn X ad a.cs) (hal:a.cs.length<4611686018427387904) (hno:findC a.cs c.id=none):
  PSpec Tryz.prog X 60 [Sx a.ver ad a.cs.length cap,Cx c cad ccap] (.sv (SPg c.id 0 none 0 0)):=by
 have hN:=pFind_no X a.ver ad cap a.cs c.id ha hal (findC_no hno)
 refine cC Tryz.func60 rfl (by kernel_rfl) rfl rfl ?_
 intro C
 (refine aA<|rgN<|aL O O O dO<|aL O O O dO<|aP O dO ?_;refine aB<|aA<|rgN<|aK O O O dO ?_;refine kfa O O ?_;refine kl1 O O O<|kca O O hN<|kmv O<|kex O O<|kex O O<|aP O dO ?_;refine aM O O O O O O dO ?_;refine kas O<|aB<|aA<|aA<|rgN<|kmv O<|aV O O dO<|aB<|aE O ?_;refine aA<|rgN<|kfa O O ?_;refine kl1 O O O<|aT O O (by exact O) (by exact nl3 O O O O) dO ?_;refine aM O O O O O O dO ?_;refine aB<|aI ?_)
 exact ⟨[_],⟨⟨_,_,O,O,O,.inl ⟨AggT.h,O⟩⟩,trivial⟩,O⟩
abbrev pkSt (o c:Cp) (fad cad:Option Addr) (fcap ccap i:Nat) (vs:List Value) (Y:Nat→Option Obj):St:=
 ⟨[(3,Lp 3),(4,Lp 4),(5,Lp 5),(7,.sv (.one (.slc 25 0 c.fs.length 1))),(27,Lx cad c.fs.length ccap),(28,Ln .i64 (c.fs.length:Nat)),(29,Ln .i64 (i:Nat))],[(25,some ⟨90,(vs++nilV (c.fs.length-i)).map .val,false⟩),cpB 5 o fad fcap,cpB 3 c cad ccap,v3B 27 4 0 0 none 0 0],Y⟩
set_option maxHeartbeats 12800000 in
theorem yPlainRule (a:Sc) (c o:Cp) (ad cad:Option Addr) (cap ccap:Nat) (ha:CompsIn X ad a.cs) (hal:a.cs.length<4611686018427387904) (haf:∀ c∈a.cs,c.fs.length≤4398046511104) (hC:FieldsIn X cad c.fs) (hcl:c.fs.length≤4398046511104) (ho:findC a.cs c.id=some o):
  MSpec Tryz.prog X 60 [Sx a.ver ad a.cs.length cap,Cx c cad ccap] [] (.sv (.agg [.val (.int .i64 c.id),.val (.int .i64 c.id),.slc 1000001 0 c.fs.length 1])) [cdB 1000001 (c.fs.map fun f=>[plainF o.fs f])]:=by
 obtain ⟨k,hk,hid,hpre⟩:=findC_at ho
 have hol:=haf o (cZ hk)
 have hfind:=pFind X a.ver ad cap a.cs c.id ha hal haf hpre hk hid
 obtain ⟨_,_,_,_,_,_,_,_,_,_,_,_,_,_,hoF⟩:=ha.get hk
 have hos:=hoF.small
 have hmk:MadeOf Tryz.prog 25 90 1 24 [Value.slice none 0 0]:=⟨by kernel_rfl,by kernel_rfl,rfl⟩
 refine cD Tryz.func60 rfl (by kernel_rfl) rfl rfl rfl rfl rfl ?_
 intro C
 refine LWP.ends ?_
 (refine aA<|rgN<|aL O O O dO<|aL O O O dO<|aP O dO ?_;refine aB<|aA ?_)
 repeat refine aA ?_
 refine LWP.meetL (fun σ=>∃ (Y:Nat→Option Obj) (fad:Option Addr) (fcap:Nat),(∀ b x,X b=some x→Y b=some x)∧FieldsIn Y fad o.fs∧σ=⟨[(3,Lp 3),(4,Lp 4),(5,Lp 5),(6,Lb true)],[cpB 5 o fad fcap,cpB 3 c cad ccap,v3B 27 4 0 0 none 0 0],Y⟩) ?_ ?_
 ·rcases hfind with ⟨h0,hf⟩|hf
  ·have hl:o.fs.length=0:=by rw [h0];rfl
   (refine rgN<|aK O O O dO ?_;refine kfa O O ?_;refine kl1 O O O<|kca O O hf<|kmv O<|kex O O<|kex O O<|aP O dO ?_;refine aM O O O O O O dO ?_;refine kas O<|aB ?_)
   exact Leads.here (σ':=⟨[(3,Lp 3),(4,Lp 4),(5,Lp 5),(6,Lb true)],[cpB 5 o none 0,cpB 3 c cad ccap,v3B 27 4 0 0 none 0 0],X⟩) (Le.of (by exact ⟨O,O,O,O,trivial⟩) (by exact ⟨O,O,O,trivial⟩) (by exact O) (by exact O) (by repeat' (first|refine bS ?_ ?_|rfl|exact bU|exact bT|exact bV O))) ⟨X,none,0,fun _ _ h=>h,fields_none h0,O⟩
  ·(refine rgN<|aK O O O dO ?_;refine kfa O O ?_;refine kl1 O O O<|bE [(1000001,601)] (.tup [SCs o 601,Sb true]) [fdB 601 o.fs] (hf) O O (by exact trivial) O O O O O (by exact (.box O (bX _ _ _ _) .nil)) dO<|kmv O<|kex O O<|kex O O<|aP O dO ?_;refine aM O O O O O O dO ?_;refine kas O<|aB ?_)
   refine cB (σ':=⟨[(3,Lp 3),(4,Lp 4),(5,Lp 5),(6,Lb true)],[(5,some ⟨24,[.val (.int .i64 o.id),.val (.string ⟨o.nm.toArray⟩)] ++ .slc 601 0 o.fs.length 3::[],false⟩),fdB 601 o.fs,cpB 3 c cad ccap,v3B 27 4 0 0 none 0 0],X⟩) (Le.of (by exact ⟨O,O,O,O,trivial⟩) (by exact ⟨O,O,O,O,trivial⟩) (by exact O) (by exact O) (by repeat' (first|refine bS ?_ ?_|rfl|exact bU|exact bT|exact bV O))) ?_
   refine Leads.freezeCell O O O O O O fun blk cp arr fr hn _ _ _ hsp => ?_
   obtain ⟨sp,hsp⟩:=hsp
   exact cB (Le.of (by exact ⟨O,O,O,O,trivial⟩) (by exact ⟨O,O,O,trivial⟩) (by exact O) (by exact O) (by repeat' (first|refine bS ?_ ?_|rfl|exact bU|exact bT|exact bV O))) (cA ⟨_,some ⟨blk,0,none⟩,cp,cF hn,fields_block (cJ _ _ _) hsp hos,O⟩)
 rintro σ ⟨Y,fad,fcap,hXY,hO,rfl⟩
 clear hfind hoF hos
 replace hC:=hC.mono hXY
 clear ha hXY
 (refine aA<|aA<|rgN<|kmv O<|aV O O dO<|aB<|aF O ?_;refine aH ?_;refine aA<|rgN<|kfa O O ?_;refine kl1 O O O<|aQ O bZ O dO ?_;refine K.makeBig (m:=c.fs.length) (bytes:=24) O O hmk (by omega) O O dO ?_;refine kas O<|aB<|aA<|aA<|rgN<|kfa O O ?_;refine kl1 O O O<|aQ O bZ O dO ?_;refine kmv O<|aB<|aG ?_)
 refine cH (fun m σ=>∃ (i:Nat) (vs:List Value) (H:Nat→Option Obj),i≤c.fs.length∧m=c.fs.length-i∧OwnedM C Y H∧FormsH H vs ((c.fs.take i).map fun f=>[plainF o.fs f])∧σ=pkSt o c fad cad fcap ccap i vs (joinM Y H)) c.fs.length
  (cB (σ':=pkSt o c fad cad fcap ccap 0 [] Y) (by unfold pkSt;rw [nilV_flat];exact Le.of (by exact ⟨rfl,rfl,rfl,rfl,rfl,rfl,rfl,trivial⟩) (by exact ⟨rfl,rfl,rfl,rfl,trivial⟩) (by exact rfl) (by exact rfl) (by repeat' (first|refine bS ?_ ?_|rfl|exact bU|exact bT|exact bV rfl))) (cA ⟨0,[],fun _=>none,by omega,by omega,OwnedM.nil _ _,FormsH.nil,by rw [joinM_nil]⟩)) ?_
 rintro m σ ⟨i,vs,H,hi,rfl,hOw,GF,rfl⟩
 have hvl:vs.length=i:=by rw [GF.len,cT,cW];omega
 by_cases hlt:i<c.fs.length
 case neg =>
  have e:i=c.fs.length:=by omega
  subst e
  rw [dC] at GF
  unfold pkSt
  rw [Nat.sub_self,show nilV 0=[] from rfl,dG]
  (refine aA<|rgN<|klt O O (cK (by omega))<|aB<|aA<|aF O ?_;refine aJ<|aA<|rgN<|kfa O O ?_;refine kl1 O O O<|kfa O O ?_;refine kl1 O O O<|kmv O<|aT O O (by exact O) (by exact nl3 O O O O) dO ?_;refine aM O O O O O O dO ?_;refine aB<|aI ?_)
  refine cB (σ':=⟨[(4,Lp 4)],[(25,some ⟨90,vs.map .val,false⟩),(4,some ⟨27,[.val (.int .i64 c.id),.val (.int .i64 o.id),.slc 25 0 c.fs.length 1],false⟩)],joinM Y H⟩) (Le.of (by exact ⟨O,trivial⟩) (by exact ⟨O,O,trivial⟩) (by exact O) (by exact O) (by repeat' (first|refine bS ?_ ?_|rfl|exact bU|exact bT|exact bV O))) ?_
  rw [hid]
  refine cd_shut hOw GF (cA ?_)
  exact ⟨[(1000001,25)],⟨[_],⟨⟨_,_,rfl,rfl,rfl,.inl ⟨AggT.h,rfl⟩⟩,trivial⟩,rfl⟩,(by repeat' (first|exact trivial|refine cM ⟨_,rfl,?_⟩ ?_|refine cM ⟨_,rfl⟩ ?_|rfl|exact bW _ _ _ _|exact bX _ _ _ _|exact bY rfl)),rfl,rfl⟩
 obtain ⟨f,hf⟩:∃ f,c.fs[i]? = some f:=⟨_,cU hlt⟩
 obtain ⟨fb,fo,farr,fel,ffr,rfl,hFX,hFz,hFc,_⟩:=hC.cells hf
 have hFJ:=joinM_has hOw hFX
 have hq:=yPlainIns (joinM Y H) o f fad fcap (hO.mono fun b x h=>joinM_has hOw h) (by omega)
 have hsmall:=plainF_small (fs:=o.fs) (f:=f) (by omega)
 have hts:(c.fs.take (i+1)).map (fun f=>[plainF o.fs f])=(c.fs.take i).map (fun f=>[plainF o.fs f])++[[plainF o.fs f]]:=by rw [take_snoc hf,dE];rfl
 generalize plainF o.fs f=x at hq hsmall hts
 have hio:fo+Int.toNat (i:Int)*3=fo+i*3:=by simp
 have hix:0+Int.toNat (i:Int)*1=i:=by rw [dD];omega
 have hadd:IntKind.i64.wrap (((i:Nat):Int)+1)=((i+1:Nat):Int):=by rw [cE (by omega)];omega
 have hroom:i+1≤((vs++nilV (c.fs.length-i)).map CV.val).length:=by rw [cT,cS,hvl,nilV_len];omega
 have hk2:c.fs.length-i=(c.fs.length-(i+1))+1:=by omega
 have hspl:splice ((vs++nilV (c.fs.length-i)).map CV.val) i [.slc 39 0 1 6]=vs.map CV.val ++ .slc 39 0 1 6::(nilV (c.fs.length-(i+1))).map CV.val:=by
  rw [hk2,nilV_splice hvl]
 (refine aA<|rgN<|klt O O (cL (by omega))<|aB<|aA<|aE O ?_;refine aH ?_;refine aA<|aG<|aA<|rgN<|kmv O<|aR O O bZ (by omega) hio dO<|aY O hFJ (by kernel_rfl) hFz hFc dO<|aP O dO ?_;refine kas O<|aM O O O O O O dO ?_;refine aB<|rgN<|kmv O<|kmv O<|aK O O O dO ?_;refine aK O O O dO ?_;refine kca O O hq<|aZ (zs:=[Value.int .i64 0,.int .i64 0,.int .i64 0,.bool false,.int .u64 0,.int .u64 0]) (sz:=6) (e:=88) (cs':=(insV x).map .val) (by kernel_rfl) O O O O O O dO<|K.indexSlc O O (by omega) hix dO ?_;refine K.store O O O O (by kernel_rfl) hroom hspl dO<|aB<|rgN<|kad O O hadd<|kmv O<|aB ?_)
 refine cB (σ':=⟨[(3,Lp 3),(4,Lp 4),(5,Lp 5),(7,.sv (.one (.slc 25 0 c.fs.length 1))),(27,Lx (some ⟨fb,fo,none⟩) c.fs.length ccap),(28,Ln .i64 (c.fs.length:Nat)),(29,Ln .i64 (i+1:Nat))],[(25,some ⟨90,vs.map CV.val ++ .slc 39 0 1 6::(nilV (c.fs.length-(i+1))).map CV.val,false⟩),(39,some ⟨88,(inssV [x]).map .val,false⟩),cpB 5 o fad fcap,cpB 3 c (some ⟨fb,fo,none⟩) ccap,v3B 27 4 0 0 none 0 0],joinM Y H⟩) (Le.of (by exact ⟨O,O,O,O,O,O,O,trivial⟩) (by exact ⟨O,O,O,O,O,trivial⟩) (by exact O) (by exact O) (by repeat' (first|refine bS ?_ ?_|rfl|exact bU|exact bT|exact bV O))) ?_
 refine Leads.closeCell hOw O O bT bT O O O fun b ob v q1 _ hO3 hv=>cA ⟨c.fs.length-(i+1),by omega,i+1,vs++[v],withBlock H b ob,by omega,O,hO3,?_,?_⟩
 ·rw [hts]
  exact (GF.mono (cF q1)).push (ins_leads hv (fun y hy=>by rw [List.mem_singleton.1 hy];exact hsmall))
 ·unfold pkSt
  simp
end Go.Proofs.YtopiioklkkiedaaGreatDoor
end
section
namespace Go.Proofs.YtopiioklkkiedaaGreatDoor
open Go Go.Lg Go.Lg.Fml Go.Lg.Fld Go.Lg.Arith
set_option maxRecDepth 100000
variable (X:Nat→Option Obj)
abbrev pqSt (a b:Sc) (ad1 ad2:Option Addr) (cap1 cap2 i:Nat) (cells:List Value) (Y:Nat→Option Obj):St:=
 ⟨[(2,Lp 2),(3,Lp 3),(4,Lp 4),(5,.sv (.one (.slc 11 0 b.cs.length 3))),(13,Lx ad2 b.cs.length cap2),(14,Ln .i64 (b.cs.length:Nat)),(15,Ln .i64 (i:Nat))],[(11,some ⟨27,cells.map .val,false⟩),sxB 3 b.ver ad2 b.cs.length cap2,sxB 2 a.ver ad1 a.cs.length cap1,v3B 36 4 0 0 none 0 0],Y⟩
set_option maxHeartbeats 12800000 in
theorem yPlain (a b:Sc) (ad1 ad2:Option Addr) (cap1 cap2:Nat) (ha:CompsIn X ad1 a.cs) (hb:CompsIn X ad2 b.cs) (sa:a.cs.length≤4398046511104∧∀ c∈a.cs,c.fs.length≤4398046511104) (sb:b.cs.length≤4398046511104∧∀ c∈b.cs,c.fs.length≤4398046511104):
  MSpec Tryz.prog X 26 [Sx a.ver ad1 a.cs.length cap1,Sx b.ver ad2 b.cs.length cap2] [] (.sv (.agg [.val (.int .i64 a.ver),.val (.int .i64 b.ver),.slc 1000001 0 b.cs.length 3])) [rlB 27 1000001 (plainP a b).rs]:=by
 obtain ⟨sa1,sa2⟩:=sa
 obtain ⟨sb1,sb2⟩:=sb
 have hmk:MadeOf Tryz.prog 34 27 3 40 [Value.int .i64 0,Value.int .i64 0,Value.slice none 0 0]:=⟨by kernel_rfl,by kernel_rfl,rfl⟩
 have hsm:∀ r∈(plainP a b).rs,smallR r:=fun r hr=>by
  obtain ⟨c,hc,rfl⟩:=List.mem_map.1 hr
  have h:=hb.small c hc
  unfold plainR
  split
  ·exact ⟨h,by show -9223372036854775808≤(0:Int)∧(0:Int)<_;decide⟩
  ·exact ⟨h,h⟩
 refine cD Tryz.func26 rfl (by kernel_rfl) rfl rfl rfl rfl rfl ?_
 intro C
 refine LWP.ends ?_
 (refine aA<|rgN<|aL O O O dO<|aL O O O dO<|aP O dO ?_;refine aB<|aA<|rgN<|kfa O O ?_;refine kl1 O O O<|aQ O bZ O dO ?_;refine K.makeBig (m:=b.cs.length) (bytes:=40) O O hmk (by omega) O O dO ?_;refine kas O<|aB<|aA<|aA<|rgN<|kfa O O ?_;refine kl1 O O O<|aQ O bZ O dO ?_;refine kmv O<|aB<|aG ?_)
 refine cH (fun m σ=>∃ (i:Nat) (ws:List Value) (H:Nat→Option Obj),i≤b.cs.length∧m=b.cs.length-i∧OwnedM C X H∧RulesH H ws ((b.cs.take i).map (plainR a))∧σ=pqSt a b ad1 ad2 cap1 cap2 i (rwZ ((b.cs.take i).map (plainR a)) ws++zrl (b.cs.length-i)) (joinM X H)) b.cs.length
  (cB (σ':=pqSt a b ad1 ad2 cap1 cap2 0 (zrl b.cs.length) X) (by unfold pqSt zrl;exact Le.of (by exact ⟨rfl,rfl,rfl,rfl,rfl,rfl,rfl,trivial⟩) (by exact ⟨rfl,rfl,rfl,rfl,trivial⟩) (by exact rfl) (by exact rfl) (by repeat' (first|refine bS ?_ ?_|rfl|exact bU|exact bT|exact bV rfl))) (cA ⟨0,[],fun _=>none,by omega,by omega,OwnedM.nil _ _,RulesH.nil,by rw [joinM_nil];rfl⟩)) ?_
 rintro m σ ⟨i,ws,H,hi,rfl,hO,GR,rfl⟩
 have hwl:ws.length=i:=by rw [GR.len,cT,cW];omega
 have hwl2:ws.length=((b.cs.take i).map (plainR a)).length:=GR.len
 by_cases hlt:i<b.cs.length
 case neg =>
  have e:i=b.cs.length:=by omega
  subst e
  rw [dC] at *
  unfold pqSt
  rw [Nat.sub_self,show zrl 0=[] from rfl]
  (refine aA<|rgN<|klt O O (cK (by omega))<|aB<|aA<|aF O ?_;refine aJ<|aA<|rgN<|kfa O O ?_;refine kl1 O O O<|kfa O O ?_;refine kl1 O O O<|kmv O<|aT O O (by exact O) (by exact nl3 O O O O) dO ?_;refine aM O O O O O O dO ?_;refine aB<|aI ?_)
  refine cB (σ':=⟨[(4,Lp 4)],[(11,some ⟨27,(rwZ (b.cs.map (plainR a)) ws++[]).map .val,false⟩),(4,some ⟨36,[.val (.int .i64 a.ver),.val (.int .i64 b.ver),.slc 11 0 b.cs.length 3],false⟩)],joinM X H⟩) (Le.of (by exact ⟨O,trivial⟩) (by exact ⟨O,O,trivial⟩) (by exact O) (by exact O) (by repeat' (first|refine bS ?_ ?_|rfl|exact bU|exact bT|exact bV O))) ?_
  refine rl_shut hO GR hsm (cA ?_)
  exact ⟨[(1000001,11)],⟨[_],⟨⟨_,_,rfl,rfl,rfl,.inl ⟨AggT.h,rfl⟩⟩,trivial⟩,rfl⟩,(by repeat' (first|exact trivial|refine cM ⟨_,rfl,?_⟩ ?_|refine cM ⟨_,rfl⟩ ?_|rfl|exact bW _ _ _ _|exact bX _ _ _ _|exact bY rfl)),rfl,rfl⟩
 obtain ⟨c,hc⟩:∃ c,b.cs[i]? = some c:=⟨_,cU hlt⟩
 have hcm:=cZ hc
 obtain ⟨blk,off,arr,el,fr,cad,ccap,rfl,hX,hsz,hcs,_,_,_,hF⟩:=hb.get hc
 have hXJ:=joinM_has hO hX
 have haJ:=ha.mono fun b x h=>joinM_has hO h
 have hFJ:=hF.mono (Y:=joinM X H) fun b x h=>joinM_has hO h
 have hio:off+Int.toNat (i:Int)*3=off+i*3:=by simp
 have hix:0+Int.toNat (i:Int)*3=i*3:=by rw [dD];omega
 have hadd:IntKind.i64.wrap (((i:Nat):Int)+1)=((i+1:Nat):Int):=by rw [cE (by omega)];omega
 have hpl:(rwZ ((b.cs.take i).map (plainR a)) ws).length=i*3:=by rw [rwZ_len hwl2,← hwl2,hwl]
 have hroom:i*3+3≤((rwZ ((b.cs.take i).map (plainR a)) ws++zrl (b.cs.length-i)).map CV.val).length:=by rw [cT,cS,hpl,zrl_len];omega
 have hts:(b.cs.take (i+1)).map (plainR a)=(b.cs.take i).map (plainR a)++[plainR a c]:=by rw [take_snoc hc,dE];rfl
 have hadd3:∀ v,rwZ ((b.cs.take (i+1)).map (plainR a)) (ws++[v])=rwZ ((b.cs.take i).map (plainR a)) ws++[.int .i64 (plainR a c).nw,.int .i64 (plainR a c).old,v]:=fun v=>by rw [hts,rwZ_add hwl2]
 have hspl:∀ (x y:Int) (cv:CV),splice ((rwZ ((b.cs.take i).map (plainR a)) ws++zrl (b.cs.length-i)).map CV.val) (i*3) [.val (.int .i64 x),.val (.int .i64 y),cv]=(rwZ ((b.cs.take i).map (plainR a)) ws++[Value.int .i64 x,Value.int .i64 y]).map CV.val++cv::(zrl (b.cs.length-(i+1))).map .val:=fun x y cv=>by
  unfold splice
  rw [show b.cs.length-i=(b.cs.length-(i+1))+1 by omega,zrl_succ]
  simp only [dE,dJ]
  have hml:((rwZ ((b.cs.take i).map (plainR a)) ws).map CV.val).length=i*3:=by rw [cT,hpl]
  generalize (rwZ ((b.cs.take i).map (plainR a)) ws).map CV.val=R at *
  rw [← hml,List.take_left,List.drop_length_add_append]
  simp
 cases ho:findC a.cs c.id with
 | none =>
  have hq:=yPlainRule_no (joinM X H) a c ad1 cad cap1 ccap haJ (by omega) ho
  have hr:plainR a c=⟨c.id,0,[]⟩:=by unfold plainR;rw [ho]
  have hcell:(rwZ ((b.cs.take i).map (plainR a)) ws++[Value.int .i64 c.id,Value.int .i64 0]).map CV.val ++ .val (.slice none 0 0)::(zrl (b.cs.length-(i+1))).map .val=(rwZ ((b.cs.take (i+1)).map (plainR a)) (ws++[.slice none 0 0])++zrl (b.cs.length-(i+1))).map .val:=by rw [hadd3,hr];simp
  (refine aA<|rgN<|klt O O (cL (by omega))<|aB<|aA<|aE O ?_;refine aH ?_;refine aA<|aG<|aA<|rgN<|kmv O<|aR O O bZ (by omega) hio dO<|aY O hXJ (by kernel_rfl) hsz hcs dO<|aP O dO ?_;refine kas O<|aM O O O O O O dO ?_;refine aB<|rgN<|kmv O<|kmv O<|aK O O O dO ?_;refine aK O O O dO ?_;refine kca O O hq<|K.indexSlc O O (by omega) hix dO ?_;refine K.store O O O O (by kernel_rfl) hroom (hspl _ _ _) dO<|aB<|rgN<|kad O O hadd<|kmv O<|aB ?_)
  refine cB (σ':=pqSt a b ad1 (some ⟨blk,off,none⟩) cap1 cap2 (i+1) (rwZ ((b.cs.take (i+1)).map (plainR a)) (ws++[.slice none 0 0])++zrl (b.cs.length-(i+1))) (joinM X H)) ?_ (cA ⟨b.cs.length-(i+1),by omega,i+1,ws++[.slice none 0 0],H,by omega,O,hO,?_,O⟩)
  ·rw [hcell]
   exact Le.of (by exact ⟨O,O,O,O,O,O,O,trivial⟩) (by exact ⟨O,O,O,O,trivial⟩) (by exact O) (by exact O) (by repeat' (first|refine bS ?_ ?_|rfl|exact bU|exact bT|exact bV O))
  ·rw [hts,hr]
   exact GR.push ⟨none,0,O,CodesIn.nil⟩
 | some o =>
  have hq:=yPlainRule (joinM X H) a c o ad1 cad cap1 ccap haJ (by omega) sa2 hFJ (sb2 c hcm) ho
  have hr:plainR a c=⟨c.id,c.id,c.fs.map fun f=>[plainF o.fs f]⟩:=by unfold plainR;rw [ho]
  (refine aA<|rgN<|klt O O (cL (by omega))<|aB<|aA<|aE O ?_;refine aH ?_;refine aA<|aG<|aA<|rgN<|kmv O<|aR O O bZ (by omega) hio dO<|aY O hXJ (by kernel_rfl) hsz hcs dO<|aP O dO ?_;refine kas O<|aM O O O O O O dO ?_;refine aB<|rgN<|kmv O<|kmv O<|aK O O O dO ?_;refine aK O O O dO ?_;refine bE [(1000001,601)] (.sv (.agg [.val (.int .i64 c.id),.val (.int .i64 c.id),.slc 601 0 c.fs.length 1])) [cdB 601 (c.fs.map fun f=>[plainF o.fs f])] (hq) O O (by exact trivial) O O O O O (by exact (.box O O .nil)) dO<|K.indexSlc O O (by omega) hix dO ?_;refine K.store O O O O (by kernel_rfl) hroom (hspl _ _ _) dO<|aB<|rgN<|kad O O hadd<|kmv O<|aB ?_)
  refine cB (σ':=⟨[(2,Lp 2),(3,Lp 3),(4,Lp 4),(5,.sv (.one (.slc 11 0 b.cs.length 3))),(13,Lx (some ⟨blk,off,none⟩) b.cs.length cap2),(14,Ln .i64 (b.cs.length:Nat)),(15,Ln .i64 (i+1:Nat))],[(11,some ⟨27,(rwZ ((b.cs.take i).map (plainR a)) ws++[Value.int .i64 c.id,Value.int .i64 c.id]).map CV.val ++ .slc 601 0 c.fs.length 1::(zrl (b.cs.length-(i+1))).map .val,false⟩),cdB 601 (c.fs.map fun f=>[plainF o.fs f]),sxB 3 b.ver (some ⟨blk,off,none⟩) b.cs.length cap2,sxB 2 a.ver ad1 a.cs.length cap1,v3B 36 4 0 0 none 0 0],joinM X H⟩) (Le.of (by exact ⟨O,O,O,O,O,O,O,trivial⟩) (by exact ⟨O,O,O,O,O,trivial⟩) (by exact O) (by exact O) (by repeat' (first|refine bS ?_ ?_|rfl|exact bU|exact bT|exact bV O))) ?_
  refine Leads.fixCell O bT bT O O O fun ρ H2 pc hR hO2 _ _ => ?_
  rw [joinM_join]
  refine cB (σ':=pqSt a b ad1 (some ⟨blk,off,none⟩) cap1 cap2 (i+1) (rwZ ((b.cs.take (i+1)).map (plainR a)) (ws++[.slice (some ⟨ρ.1,0,none⟩) c.fs.length pc])++zrl (b.cs.length-(i+1))) (joinM X (joinM H H2))) ?_ (cA ⟨b.cs.length-(i+1),by omega,i+1,ws++[.slice (some ⟨ρ.1,0,none⟩) c.fs.length pc],joinM H H2,by omega,O,hO.join hO2,?_,O⟩)
  ·have hcell:(rwZ ((b.cs.take i).map (plainR a)) ws++[Value.int .i64 c.id,Value.int .i64 c.id]).map CV.val ++ .val (.slice (some ⟨ρ.1,0,none⟩) c.fs.length pc)::(zrl (b.cs.length-(i+1))).map .val=(rwZ ((b.cs.take (i+1)).map (plainR a)) (ws++[.slice (some ⟨ρ.1,0,none⟩) c.fs.length pc])++zrl (b.cs.length-(i+1))).map .val:=by rw [hadd3,hr];simp
   rw [hcell]
   exact Le.of (by exact ⟨O,O,O,O,O,O,O,trivial⟩) (by exact ⟨O,O,O,O,trivial⟩) (by exact O) (by exact O) (by repeat' (first|refine bS ?_ ?_|rfl|exact bU|exact bT|exact bV O))
  ·rw [hts,hr]
   exact (GR.mono (joinM_keeps hO2)).push ⟨_,pc,by rw [cT],hR.2.mono fun b x h=>joinM_in h⟩
end Go.Proofs.YtopiioklkkiedaaGreatDoor
end
section
namespace Go.Proofs.YtopiioklkkiedaaGreatDoor
open Go Go.Lg Go.Lg.Fml Go.Lg.Fld Go.Lg.Arith
set_option maxRecDepth 100000
structure NmsIn (X:Nat→Option Obj) (ad:Option Addr) (l:List Int):Prop where
 at_:∀ (i:Nat) (v:Int),l[i]? = some v→∃ (blk off:Nat) (arr:Array Value) (el:TypeId) (fr:Nat×Nat),ad=some ⟨blk,off,none⟩∧X blk=some (.cells arr el fr)∧arr[off+i*1]? = some (.int .i64 v)
theorem NmsIn.mono {X Y:Nat→Option Obj} (hXY:∀ b o,X b=some o→Y b=some o) {ad:Option Addr} {l:List Int} (h:NmsIn X ad l):NmsIn Y ad l:=⟨fun i v hv=>by
 obtain ⟨blk,off,arr,el,fr,h1,h2,h3⟩:=h.at_ i v hv
 exact ⟨blk,off,arr,el,fr,h1,hXY _ _ h2,h3⟩⟩
theorem nms_block {Y:Nat→Option Obj} {blk:Nat} {arr:Array Value} {el:TypeId} {fr:Nat×Nat} {l:List Int} (hY:Y blk=some (.cells arr el fr)) (h:∃ sp,arr.toList=int1 l++sp):NmsIn Y (some ⟨blk,0,none⟩) l:=⟨fun i v hv=>by
 obtain ⟨sp,h⟩:=h
 have hi:=(List.getElem?_eq_some_iff.1 hv).1
 refine ⟨blk,0,arr,el,fr,O,hY,?_⟩
 rw [← Array.getElem?_toList,h,Nat.zero_add,Nat.mul_one,dN (by unfold int1;rw [cT];exact hi)]
 unfold int1
 rw [dI,hv];rfl⟩
theorem idsV_int1 (cs:List Cp):idsV cs=int1 (cs.map Cp.id):=by unfold idsV int1;rw [List.map_map];rfl
theorem findI_any {α:Type} (p:α→Bool) (l:List α):decide (0≤findI p l)=l.any p:=by
 unfold findI
 cases hq:l.findIdx? p with
 | none =>
  simp only
  have:=List.findIdx?_eq_none_iff.1 hq
  rw [List.any_eq_false.2 (fun x hx=>by simpa using this x hx)]
  rfl
 | some i =>
  obtain ⟨hi,h1,_⟩:=List.findIdx?_eq_some_iff_getElem.1 hq
  rw [List.any_eq_true.2 ⟨l[i],List.getElem_mem hi,h1⟩]
  simp
variable (X:Nat→Option Obj)
theorem yIndex (l:List Int) (ad:Option Addr) (cap:Nat) (v:Int) (hin:NmsIn X ad l) (hbig:l.length<4611686018427387904):
  PSpec Tryz.prog X 172 [Lx ad l.length cap,Ln .i64 v] (Ln .i64 (findI (fun x=>v==x) l)):=by
 refine cC Tryz.func172 rfl (by kernel_rfl) rfl rfl ?_
 intro C
 (refine aA<|rgN<|kas O<|aB<|aA<|aA<|rgN<|kmv O<|aQ O bZ O dO ?_;refine kmv O<|aB<|aG ?_)
 refine cG (fun m σ=>∃ i:Nat,i≤l.length∧m=l.length-i∧(∀ (j:Nat) (y:Int),j<i→l[j]? = some y→(v==y)=false)∧σ=⟨[(0,Lx ad l.length cap),(1,Ln .i64 v),(7,Ln .i64 (l.length:Nat)),(8,Ln .i64 (i:Nat))],[],X⟩) l.length
  ⟨_,Le.of (by exact ⟨rfl,rfl,rfl,rfl,trivial⟩) (by exact trivial) (by exact rfl) (by exact rfl) (by exact rfl),0,by omega,by omega,fun j y hj=>absurd hj (by omega),rfl⟩ ?_
 rintro m σ ⟨i,hi,rfl,hpre,rfl⟩
 by_cases hlt:i<l.length
 ·obtain ⟨c,hc⟩:∃ c,l[i]? = some c:=⟨_,cU hlt⟩
  obtain ⟨blk,off,arr,el,fr,rfl,hX,hcs⟩:=hin.at_ i c hc
  have hio:off+Int.toNat (i:Int)*1=off+i*1:=by simp
  have hadd:IntKind.i64.wrap (((i:Nat):Int)+1)=((i+1:Nat):Int):=by rw [cE (by omega)];omega
  cases hpc:(v==c) with
  | true =>
   rw [findI_some hpre hc hpc]
   (refine aA<|rgN<|klt O O (cL (by omega))<|aB<|aA<|aE O ?_;refine aH ?_;refine aA<|aG<|aA<|rgN<|kmv O<|kas O<|aB<|aA<|rgN<|kmv O<|kmv O<|kmv O<|aR O O bZ (by omega) hio dO<|aW O hX O hcs dO ?_;refine keq O O hpc<|aB<|aE O ?_;refine aA<|rgN<|kmv O<|kas O<|aB<|aI ?_)
   exact ⟨[_],⟨O,trivial⟩,O⟩
  | false =>
   (refine aA<|rgN<|klt O O (cL (by omega))<|aB<|aA<|aE O ?_;refine aH ?_;refine aA<|aG<|aA<|rgN<|kmv O<|kas O<|aB<|aA<|rgN<|kmv O<|kmv O<|kmv O<|aR O O bZ (by omega) hio dO<|aW O hX O hcs dO ?_;refine keq O O hpc<|aB<|aF O ?_;refine aH ?_;refine rgN<|kad O O hadd<|kmv O<|aB ?_)
   exact ⟨_,_,by omega,Le.of (by exact ⟨O,O,O,O,trivial⟩) (by exact trivial) (by exact O) (by exact O) (by exact O),i+1,by omega,O,(fun j y hj hy=>by
    by_cases e:j=i
    ·subst e;rw [hc] at hy;cases hy;exact hpc
    ·exact hpre j y (by omega) hy),rfl⟩
 ·rw [findI_none fun j y hy=>hpre j y (by have:=(List.getElem?_eq_some_iff.1 hy).1;omega) hy]
  (refine aA<|rgN<|klt O O (cK (by omega))<|aB<|aA<|aF O ?_;refine aJ<|aA<|rgN<|kas O<|aB<|aI ?_)
  exact ⟨[_],⟨O,trivial⟩,O⟩
theorem yContains (l:List Int) (ad:Option Addr) (cap:Nat) (v:Int) (hin:NmsIn X ad l) (hbig:l.length<4611686018427387904):
  PSpec Tryz.prog X 128 [Lx ad l.length cap,Ln .i64 v] (Lb (l.any fun x=>v==x)):=by
 have hI:=yIndex X l ad cap v hin hbig
 refine cC Tryz.func128 rfl (by kernel_rfl) rfl rfl ?_
 intro C
 (refine aA<|rgN<|kas O<|aB<|aA<|rgN<|kmv O<|kmv O<|kca O O hI<|bD O O (findI_any _ _) dO<|kas O<|aB<|aI ?_)
 exact ⟨[_],⟨O,trivial⟩,O⟩
theorem yEqual (l m:List Int) (ad ad2:Option Addr) (cap cap2:Nat) (ha:NmsIn X ad l) (hb:NmsIn X ad2 m) (hbig:l.length<4611686018427387904) (r:Bool) (hr:decide (l=m)=r):
  PSpec Tryz.prog X 85 [Lx ad l.length cap,Lx ad2 m.length cap2] (Lb r):=by
 subst hr
 refine cC Tryz.func85 rfl (by kernel_rfl) rfl rfl ?_
 intro C
 by_cases hl:l.length=m.length
 ·(refine aA<|rgN<|kas O<|aB<|aA<|aA<|rgN<|kmv O<|aQ O bZ O dO ?_;refine kmv O<|aQ O bZ O dO ?_;refine kne O O (r:=false) (by rw [hl];simp)<|aB<|aF O ?_;refine aH ?_;refine aA<|aA<|rgN<|kmv O<|aQ O bZ O dO ?_;refine kmv O<|aB<|aG ?_)
  refine cG (fun q σ=>∃ i:Nat,i≤l.length∧q=l.length-i∧l.take i=m.take i∧σ=⟨[(0,Lx ad l.length cap),(1,Lx ad2 m.length cap2),(12,Ln .i64 (l.length:Nat)),(13,Ln .i64 (i:Nat))],[],X⟩) l.length
   ⟨_,Le.of (by exact ⟨rfl,rfl,rfl,rfl,trivial⟩) (by exact trivial) (by exact rfl) (by exact rfl) (by exact rfl),0,by omega,rfl,rfl,rfl⟩ ?_
  rintro q σ ⟨i,hi,rfl,hpre,rfl⟩
  by_cases hlt:i<l.length
  ·obtain ⟨f,hf⟩:∃ v,l[i]? = some v:=⟨_,cU hlt⟩
   obtain ⟨f',hf'⟩:∃ v,m[i]? = some v:=⟨_,cU (by omega)⟩
   obtain ⟨blk,off,arr,el,fr,rfl,hX,hcells⟩:=ha.at_ i f hf
   obtain ⟨blk',off',arr',el',fr',rfl,hX',hcells'⟩:=hb.at_ i f' hf'
   have hio:off+Int.toNat (i:Int)*1=off+i*1:=by simp
   have hio':off'+Int.toNat (i:Int)*1=off'+i*1:=by simp
   have hadd:IntKind.i64.wrap (((i:Nat):Int)+1)=((i+1:Nat):Int):=by rw [cE (by omega)];omega
   by_cases hq:f=f'
   ·(refine aA<|rgN<|klt O O (cL (by omega))<|aB<|aA<|aE O ?_;refine aH ?_;refine aA<|aG<|aA<|rgN<|kmv O<|kas O<|aB<|aA<|rgD mixed<|kmv O<|kmv O<|aR O O bZ (by omega) hio dO<|aW O hX O hcells dO<|kmv O ?_;refine kmv O<|aR O O bZ (by omega) hio' dO<|aW O hX' O hcells' dO<|kne O O (r:=false) (cO hq)<|aB<|rgA ?_;refine aF O ?_;refine aH ?_;refine rgN<|kad O O hadd<|kmv O<|aB ?_)
    exact ⟨_,_,by omega,Le.of (by exact ⟨rfl,rfl,rfl,rfl,trivial⟩) (by exact trivial) (by exact rfl) (by exact rfl) (by exact rfl),i+1,by omega,rfl,by rw [take_snoc hf,take_snoc hf',hpre,hq],rfl⟩
   ·rw [cK (show ¬l=m from fun e=>hq (by rw [e,hf'] at hf;exact (Option.some.inj hf).symm))]
    (refine aA<|rgN<|klt O O (cL (by omega))<|aB<|aA<|aE O ?_;refine aH ?_;refine aA<|aG<|aA<|rgN<|kmv O<|kas O<|aB<|aA<|rgD mixed<|kmv O<|kmv O<|aR O O bZ (by omega) hio dO<|aW O hX O hcells dO<|kmv O ?_;refine kmv O<|aR O O bZ (by omega) hio' dO<|aW O hX' O hcells' dO<|kne O O (r:=true) (cP hq)<|aB<|rgA ?_;refine aE O ?_;refine aA<|rgN<|kas O<|aB<|aI ?_)
    exact ⟨[_],⟨O,trivial⟩,O⟩
  ·have e:i=l.length:=by omega
   subst e
   rw [dC,List.take_of_length_le (by omega)] at hpre
   rw [cL hpre]
   (refine aA<|rgN<|klt O O (cK (by omega))<|aB<|aA<|aF O ?_;refine aJ<|aA<|rgN<|kas O<|aB<|aI ?_)
   exact ⟨[_],⟨O,trivial⟩,O⟩
 ·rw [cK (show ¬l=m from fun e=>hl (by rw [e]))]
  (refine aA<|rgN<|kas O<|aB<|aA<|aA<|rgN<|kmv O<|aQ O bZ O dO ?_;refine kmv O<|aQ O bZ O dO ?_;refine kne O O (r:=true) (by rw [bne_iff_ne];omega)<|aB<|aE O ?_;refine aA<|rgN<|kas O<|aB<|aI ?_)
  exact ⟨[_],⟨O,trivial⟩,O⟩
theorem equal_lent {S:Nat→Option (Option Box)} {l m:List Int} {j k n1 n2:Nat} {e1 e2:TypeId} {row1 row2:Bool} {r:Bool} (hbig:l.length<4611686018427387904) (hr:decide (l=m)=r) (h1:n1=l.length) (h2:n2=m.length) (hj:S j=some (some ⟨e1,(int1 l).map .val,row1⟩)) (hk:S k=some (some ⟨e2,(int1 m).map .val,row2⟩)):
  ∀ (Y:Nat→Option Obj) (us:List Value),(∀ b o,X b=some o→Y b=some o)→LentLs S Y [.sv (.one (.slc j 0 n1)),.sv (.one (.slc k 0 n2))] us→PSpec Tryz.prog Y 85 (us.map toLV) (Lb r):=by
 subst h1 h2
 intro Y us hY hL
 obtain ⟨u1,us1,rfl,g1,u2,us2,rfl,g2,rfl⟩:=hL
 obtain ⟨b1,blk1,cap1,m1,hq1,rfl,hc1,hf1,hB1⟩:=g1
 obtain ⟨b2,blk2,cap2,m2,hq2,rfl,hc2,hf2,hB2⟩:=g2
 rw [hj] at hq1
 rw [hk] at hq2
 simp only [Option.some.injEq] at hq1 hq2
 subst hq1 hq2
 obtain ⟨arr1,fr1,us1',sp1,hY1,hsz1,harr1,hv1⟩:=hB1
 obtain ⟨arr2,fr2,us2',sp2,hY2,hsz2,harr2,hv2⟩:=hB2
 have:=hv1 (int1 l) rfl
 subst this
 have:=hv2 (int1 m) rfl
 subst this
 exact yEqual Y l m (some ⟨blk1,0,none⟩) (some ⟨blk2,0,none⟩) cap1 cap2 (nms_block hY1 ⟨sp1,harr1⟩) (nms_block hY2 ⟨sp2,harr2⟩) hbig r hr
theorem yNewIds (va vb:Int) (rs:List Rl) (ad:Option Addr) (cap:Nat) (hin:RulesIn X ad rs) (hS:rs.length≤65536):
  MSpec Tryz.prog X 86 [LPg va vb ad rs.length cap] [] (.sv (.one (.slc 1000001 0 rs.length))) [(1000001,some ⟨3,(int1 (rs.map Rl.nw)).map .val,false⟩)]:=by
 refine cD Tryz.func86 rfl (by kernel_rfl) rfl rfl (by exact (by repeat' (first|refine bS ?_ ?_|rfl|exact bU|exact bT|exact bV rfl))) rfl rfl ?_
 intro C
 have hmk:slcBuild Tryz.prog 103 rs.length=some (List.replicate rs.length (.int .i64 0),1,3):=slcBuild_one (by kernel_rfl) (by kernel_rfl) (by omega)
 (refine aA<|rgN<|aL O O O dO<|kas O<|aB<|aA<|rgN<|kfa O O ?_;refine kl1 O O O<|aQ O bZ O dO ?_;refine K.makeSlc (m:=rs.length) (bytes:=8) O O hmk (by kernel_rfl) (by omega) O O dO<|kas O<|aB<|aA<|aA<|rgN<|kfa O O ?_;refine kl1 O O O<|aQ O bZ O dO ?_;refine kmv O<|aB<|aG ?_)
 refine cG (fun m σ=>∃ i:Nat,i≤rs.length∧m=rs.length-i∧σ=⟨[(3,.sv (.one (.slc 9 0 rs.length))),(11,Lx ad rs.length cap),(12,Ln .i64 (rs.length:Nat)),(13,Ln .i64 (i:Nat))],[(9,some ⟨3,(int1 ((rs.take i).map Rl.nw)++List.replicate (rs.length-i) (Value.int .i64 0)).map .val,false⟩)],X⟩) rs.length
  ⟨_,Le.of (by exact ⟨rfl,rfl,rfl,rfl,trivial⟩) (by exact ⟨rfl,trivial⟩) (by exact rfl) (by exact rfl) (by repeat' (first|refine bS ?_ ?_|rfl|exact bU|exact bT|exact bV rfl)),0,by omega,by omega,rfl⟩ ?_
 rintro m σ ⟨i,hi,rfl,rfl⟩
 by_cases hlt:i<rs.length
 ·obtain ⟨c,hc⟩:∃ c,rs[i]? = some c:=⟨_,cU hlt⟩
  obtain ⟨blk,off,arr,el,fr,fad,fcap,rfl,hX,hsz,hcs,_,_,_,hF⟩:=hin.get hc
  have hio:off+Int.toNat (i:Int)*3=off+i*3:=by simp
  have hix:0+Int.toNat (i:Int)*1=i:=by rw [dD];omega
  have hadd:IntKind.i64.wrap (((i:Nat):Int)+1)=((i+1:Nat):Int):=by rw [cE (by omega)];omega
  have hil:(int1 ((rs.take i).map Rl.nw)).length=i:=by unfold int1;rw [cT,cT,cW];omega
  have hroom:i+1≤((int1 ((rs.take i).map Rl.nw)++List.replicate (rs.length-i) (Value.int .i64 0)).map CV.val).length:=by rw [cT,cS,hil,dA];omega
  have hspl:splice ((int1 ((rs.take i).map Rl.nw)++List.replicate (rs.length-i) (Value.int .i64 0)).map CV.val) i [.val (.int .i64 c.nw)]=(int1 ((rs.take (i+1)).map Rl.nw)++List.replicate (rs.length-(i+1)) (Value.int .i64 0)).map CV.val:=by
   unfold splice
   rw [show rs.length-i=(rs.length-(i+1))+1 by omega,List.replicate_succ,take_snoc hc]
   have e:int1 ((rs.take i++[c]).map Rl.nw)=int1 ((rs.take i).map Rl.nw)++[.int .i64 c.nw]:=by unfold int1;rw [dE,dE];rfl
   rw [e]
   simp only [dE,dJ]
   have hml:((int1 ((rs.take i).map Rl.nw)).map CV.val).length=i:=by rw [cT,hil]
   generalize (int1 ((rs.take i).map Rl.nw)).map CV.val=R at *
   rw [← hml,List.take_left,List.drop_length_add_append]
   simp
  (refine aA<|rgN<|klt O O (cL (by omega))<|aB<|aA<|aE O ?_;refine aH ?_;refine aA<|aG<|aA<|rgN<|kmv O<|aR O O bZ (by omega) hio dO<|aY O hX (by kernel_rfl) hsz hcs dO<|aP O dO ?_;refine kas O<|aM O O O O O O dO ?_;refine aB<|rgN<|kmv O<|kmv O<|kfa O O ?_;refine kl1 O O O<|K.indexSlc O O (by omega) hix dO ?_;refine K.store O O O O (by kernel_rfl) hroom hspl dO<|aB<|rgN<|kad O O hadd<|kmv O<|aB ?_)
  exact ⟨_,_,by omega,Le.of (by exact ⟨O,O,O,O,trivial⟩) (by exact ⟨O,trivial⟩) (by exact O) (by exact O) (by repeat' (first|refine bS ?_ ?_|rfl|exact bU|exact bT|exact bV O)),i+1,by omega,O,O⟩
 ·have e:i=rs.length:=by omega
  subst e
  rw [dC,Nat.sub_self,List.replicate_zero,dG]
  (refine aA<|rgN<|klt O O (cK (by omega))<|aB<|aA<|aF O ?_;refine aJ<|aA<|rgN<|kmv O<|kas O<|aB<|aI ?_)
  exact ⟨[(1000001,9)],⟨[_],⟨rfl,trivial⟩,rfl⟩,(by repeat' (first|exact trivial|refine cM ⟨_,rfl,?_⟩ ?_|refine cM ⟨_,rfl⟩ ?_|rfl|exact bW _ _ _ _|exact bX _ _ _ _|exact bY rfl)),rfl,rfl⟩
def oldB (ids:List Int) (r:Rl):Bool:=r.old != 0 && !(ids.any fun x=>r.old==x)
theorem yOld1 (r:Rl) (ead:Option Addr) (ecap:Nat) (ids:List Int) (iad:Option Addr) (icap:Nat) {b:Nat} {arr:Array Value} {el:TypeId} {fr:Nat×Nat} (hX:X b=some (.cells arr el fr)) (h0:arr[0]? = some (.slice iad ids.length icap)) (hin:NmsIn X iad ids) (hbig:ids.length<4611686018427387904):
  PSpec Tryz.prog X 127 [LPg r.nw r.old ead r.ex.length ecap,Vp' b] (Lb (oldB ids r)):=by
 have hC:=yContains X ids iad icap r.old hin hbig
 refine cC Tryz.func127 rfl (by kernel_rfl) rfl rfl ?_
 intro C
 by_cases h:r.old=0
 ·rw [show oldB ids r=false by unfold oldB;rw [h];rfl]
  (refine aA<|rgN<|aL O O O dO<|kas O<|aB<|aA<|rgN<|kfa O O ?_;refine kl1 O O O<|kne O O (r:=false) (cO h)<|kmv O<|aC O O O<|aC O O O<|aC O O O<|aC O O O<|aC O O O<|kpf O O<|kas O<|aB<|aI ?_)
  exact ⟨[_],⟨O,trivial⟩,O⟩
 ·rw [show oldB ids r = !(ids.any fun x=>r.old==x) by unfold oldB;rw [cP h];rfl]
  (refine aA<|rgN<|aL O O O dO<|kas O<|aB<|aA<|rgN<|kfa O O ?_;refine kl1 O O O<|kne O O (r:=true) (cP h)<|kmv O<|aW O hX O h0 (dP O O) ?_;refine aN O O (dP O O) ?_;refine aO O O O (dP O O) ?_;refine gca O O hC O O<|aV O O (dP O O) ?_;refine kpt O O<|kas O<|aB<|aI ?_)
  exact ⟨[_],⟨O,trivial⟩,O⟩
theorem yContainsFunc (ad:Option Addr) (cap:Nat) (rs:List Rl) (hin:RulesIn X ad rs) (hbig:rs.length<4611686018427387904) (f:FuncId) (caps:List Value) (p:Rl→Bool)
  (hp:∀ r∈rs,∀ ead ecap,PSpec Tryz.prog X f ([LPg r.nw r.old ead r.ex.length ecap]++caps.map fun v=>.sv (.one (.val v))) (Lb (p r))):
  PSpec Tryz.prog X 126 [Lx ad rs.length cap,Lf f caps] (Lb (rs.any p)):=by
 have hI:=kIndex X ad cap rs hin hbig f caps p hp
 refine cC Tryz.func126 rfl (by kernel_rfl) rfl rfl ?_
 intro C
 (refine aA<|rgN<|kas O<|aB<|aA<|rgN<|kmv O<|kmv O<|kca O O hI<|bD O O (findI_any _ _) dO<|kas O<|aB<|aI ?_)
 exact ⟨[_],⟨O,trivial⟩,O⟩
theorem yHasOlds (a:Sc) (p:Pg) (ad1 ad:Option Addr) (cap1 cap:Nat) (ha:CompsIn X ad1 a.cs) (hp:RulesIn X ad p.rs) (hal:a.cs.length≤65536) (hpl:p.rs.length<4611686018427387904):
  PSpec Tryz.prog X 88 [Sx a.ver ad1 a.cs.length cap1,LPg p.va p.vb ad p.rs.length cap] (Lb (!(p.rs.any (oldB (a.cs.map Cp.id))))):=by
 obtain ⟨va,vb,rs⟩:=p
 simp only at hp hpl ⊢
 have hI:=pIds X a.ver ad1 cap1 a.cs ha hal
 rw [idsV_int1] at hI
 refine cC Tryz.func88 rfl (by kernel_rfl) rfl rfl ?_
 intro C
 (refine aA<|rgN<|aL O O O dO<|aL O O O dO<|kas O<|aB<|aA<|rgN<|aK O O O dO ?_;refine bE [(1000001,601)] (.sv (.one (.slc 601 0 a.cs.length))) [(601,some ⟨3,(int1 (a.cs.map Cp.id)).map .val,false⟩)] (hI) O O (by exact trivial) O O O O O (by exact (.box O (bX _ _ _ _) .nil)) dO<|aP O dO ?_;refine bG O O O O O (nl1 O O) dO<|aB<|aA ?_)
 refine LWP.le (σ':=⟨[(5,Lp 5),(3,Lp 3)],[(5,some ⟨103,[] ++ .slc 601 0 a.cs.length 1::[],false⟩),(601,some ⟨3,(int1 (a.cs.map Cp.id)).map .val,false⟩),v3B 36 3 va vb ad rs.length cap],X⟩) (Le.of (by exact ⟨O,O,trivial⟩) (by exact ⟨O,O,O,trivial⟩) (by exact O) (by exact O) (by repeat' (first|refine bS ?_ ?_|rfl|exact bU|exact bT|exact bV O))) ?_
 refine LWP.freezeCell O O O O O O fun b1 c1 a1 f1 hn1 _ _ _ hs1 => ?_
 have hM:=nms_block (cJ X b1 (.cells a1 3 f1)) hs1
 have hXY:=cF (o:=.cells a1 3 f1) hn1
 replace hp:=hp.mono hXY
 clear ha hI hs1 hn1 hXY
 generalize withBlock X b1 (.cells a1 3 f1)=Y at *
 generalize (some ⟨b1,0,none⟩:Option Addr)=iad at *
 refine LWP.le (σ':=⟨[(5,Lp 5),(3,Lp 3)],[(5,some ⟨103,[Value.slice iad a.cs.length c1].map .val,false⟩),v3B 36 3 va vb ad rs.length cap],Y⟩) (Le.of (by exact ⟨O,O,trivial⟩) (by exact ⟨O,O,trivial⟩) (by exact O) (by exact O) (by repeat' (first|refine bS ?_ ?_|rfl|exact bU|exact bT|exact bV O))) ?_
 refine LWP.freezePtr (by rfl) (by rfl) (by rfl) fun b arr0 fr0 hn _ h0 => ?_
 have hl:(a.cs.map Cp.id).length=a.cs.length:=cT ..
 have hq:=yContainsFunc _ ad cap rs (hp.mono (cF (o:=.cells arr0 103 fr0) hn)) hpl 127 [.pointer (some ⟨b,0,none⟩)] (oldB (a.cs.map Cp.id)) (fun r _ ead ecap=>yOld1 _ r ead ecap (a.cs.map Cp.id) iad c1 (cJ Y b (.cells arr0 103 fr0)) (by rw [hl];exact at_zero h0) (hM.mono (cF hn)) (by omega))
 (refine rgN<|kfa O O ?_;refine kl1 O O O<|K.makeFunc O O dO ?_;refine kca O O hq<|aV O O dO<|kas O<|aB<|aI ?_)
 exact ⟨[_],⟨O,trivial⟩,O⟩
end Go.Proofs.YtopiioklkkiedaaGreatDoor
end
section
namespace Go.Proofs.YtopiioklkkiedaaGreatDoor
open Go Go.Lg Go.Lg.Fml Go.Lg.Fld Go.Lg.Arith
set_option maxRecDepth 100000
def e4:List UInt8×Bool→Nat×List UInt8×Bool
 | (l,b)=>if b=false∧4≤l.length then (le (l.take 4),l.drop 4,false) else (0,l,true)
structure KE (l:List UInt8) (b:Bool) (c:List Ins) (l':List UInt8) (b':Bool):Prop where
 less:l'.length≤l.length
 bad:b=true→b'=true
 ok:c.length<256∧∀ x∈c,smallI x
 get:(b=false∧b'=false∧getE l=some (c,l'))∨((b=true∨getE l=none)∧(b'=true∨c=[]))
structure KEs (l:List UInt8) (b:Bool) (i:Nat) (cs:List (List Ins)) (l':List UInt8) (b':Bool):Prop where
 len:cs.length=i
 less:l'.length≤l.length
 bad:b=true→b'=true
 ok:∀ c∈cs,c.length<256∧∀ x∈c,smallI x
 get:(b=false∧b'=false∧getEs i l=some (cs,l'))∨((b=true∨∀ k,getEs (i+k) l=none)∧(b'=true∨[]∈cs))
def okK (r:Rl):Prop:=(0≤r.nw∧r.nw<256)∧(0≤r.old∧r.old<256)∧r.ex.length<256∧∀ c∈r.ex,c.length<256∧∀ x∈c,smallI x
structure KR (l:List UInt8) (b:Bool) (r:Rl) (l':List UInt8) (b':Bool):Prop where
 less:l'.length≤l.length
 bad:b=true→b'=true
 ok:okK r
 get:(b=false∧b'=false∧getRl l=some (r,l'))∨((b=true∨getRl l=none)∧(b'=true∨[]∈r.ex))
structure KRs (l:List UInt8) (b:Bool) (i:Nat) (rs:List Rl) (l':List UInt8) (b':Bool):Prop where
 len:rs.length=i
 less:l'.length≤l.length
 bad:b=true→b'=true
 ok:∀ r∈rs,okK r
 get:(b=false∧b'=false∧getRls i l=some (rs,l'))∨((b=true∨∀ k,getRls (i+k) l=none)∧(b'=true∨∃ r∈rs,[]∈r.ex))
variable (X:Nat→Option Obj)
end Go.Proofs.YtopiioklkkiedaaGreatDoor
end
section
namespace Go.Proofs.YtopiioklkkiedaaGreatDoor
open Go Go.Lg Go.Lg.Fml Go.Lg.Fld Go.Lg.Arith
set_option maxRecDepth 100000
def pgOk (p:Pg):Prop:=p.rs.length≤30∧∀ r∈p.rs,r.ex.length≤12∧∀ c∈r.ex,c.length≤80
theorem pgOk.size {p:Pg} (h:pgOk p):sizeR p.rs:=fun r hr=>by
 obtain ⟨h1,h2⟩:=h.2 r hr
 exact ⟨by omega,fun c hc=>by have:=h2 c hc;omega⟩
theorem pgOk.big {p:Pg} (h:pgOk p):p.rs.length<4611686018427387904:=by have:=h.1;omega
variable (X:Nat→Option Obj)
section
variable (p:Pg) (ad:Option Addr) (cap:Nat) (hin:RulesIn X ad p.rs) (hs:pgOk p)
include hin hs
theorem hCheck:PSpec Tryz.prog X 27 [LPg p.va p.vb ad p.rs.length cap] (Ln .i64 (chkP p)):=kCheck X p ad cap hin hs.big hs.size
end
end Go.Proofs.YtopiioklkkiedaaGreatDoor
end
section
namespace Go.Proofs.YtopiioklkkiedaaGreatDoor
open Go Go.Lg Go.Lg.Fml Go.Lg.Fld Go.Lg.Arith
set_option maxRecDepth 100000
theorem oldB_false {cs:List Cp} {r:Rl}:oldB (cs.map Cp.id) r=false↔(r.old=0∨(findC cs r.old).isSome=true):=by
 unfold oldB
 by_cases h:r.old=0
 ·simp [h]
 ·have e:((cs.map Cp.id).any fun x=>r.old==x)=(findC cs r.old).isSome:=by
   unfold findC
   rw [List.any_map]
   cases hf:cs.find? (fun c=>c.id==r.old) with
   | none =>
    rw [List.any_eq_false.2 (fun x hx=>by
     have:=List.find?_eq_none.1 hf x hx
     simp only [beq_iff_eq,Function.comp_apply] at this ⊢
     exact fun e=>this e.symm)]
    rfl
   | some c =>
    obtain ⟨hm,hi⟩:=findC_some hf
    rw [List.any_eq_true.2 ⟨c,hm,by simp [hi]⟩]
    rfl
  rw [e]
  simp [h]
theorem news_iff {a b:Sc} {p:Pg}:(p.rs.map Rl.nw=b.cs.map Cp.id∧p.rs.any (oldB (a.cs.map Cp.id))=false)↔(p.rs.length=b.cs.length∧seqE (nwE a) (p.rs.zip b.cs)=0):=by
 constructor
 ·rintro ⟨h1,h2⟩
  refine ⟨by have:=congrArg List.length h1;simpa using this,seqE_none fun q hq => ?_⟩
  obtain ⟨i,hi⟩:=List.mem_iff_getElem?.1 hq
  obtain ⟨g1,g2⟩:=List.getElem?_zip_eq_some.1 hi
  unfold nwE
  rw [if_pos]
  refine ⟨?_,oldB_false.1 (by simpa using List.any_eq_false.1 h2 q.1 (cZ g1))⟩
  have:=congrArg (fun l=>l[i]?) h1
  simp only [dI,g1,g2,Option.map_some,Option.some.injEq] at this
  exact this
 ·rintro ⟨h1,h2⟩
  have hz:=seqE_zero h2
  have key:∀ (i:Nat) (r:Rl) (c:Cp),p.rs[i]? = some r→b.cs[i]? = some c→r.nw=c.id∧(r.old=0∨(findC a.cs r.old).isSome=true):=fun i r c hr hc=>by
   have:=hz (r,c) (cZ (zip_two hr hc))
   unfold nwE at this
   split at this
   ·rename_i h;exact h
   ·cases this
  refine ⟨?_,List.any_eq_false.2 fun r hr => ?_⟩
  ·apply List.ext_getElem?
   intro i
   rw [dI,dI]
   by_cases hi:i<p.rs.length
   ·obtain ⟨r,hr⟩:∃ r,p.rs[i]? = some r:=⟨_,cU hi⟩
    obtain ⟨c,hc⟩:∃ c,b.cs[i]? = some c:=⟨_,cU (by omega)⟩
    rw [hr,hc]
    exact congrArg some (key i r c hr hc).1
   ·rw [List.getElem?_eq_none (by omega),List.getElem?_eq_none (by omega)];rfl
  ·obtain ⟨i,hi⟩:=List.mem_iff_getElem?.1 hr
   have hlt:=(List.getElem?_eq_some_iff.1 hi).1
   obtain ⟨c,hc⟩:∃ c,b.cs[i]? = some c:=⟨_,cU (by omega)⟩
   rw [oldB_false.2 (key i r c hi hc).2]
   decide
def eaE (a b:Sc) (p:Pg):Int:=if chkE a=0 then (if chkE b=0 then chkP p else chkE b) else chkE a
theorem ckE_each {a b:Sc} {p:Pg} (h:eaE a b p≠0):ckE a b p=eaE a b p:=by
 unfold eaE at h ⊢
 unfold ckE
 by_cases h1:chkE a=0
 ·rw [if_pos h1] at h ⊢
  by_cases h2:chkE b=0
  ·rw [if_pos h2] at h ⊢
   rw [if_pos h1,if_pos h2,if_neg h]
  ·rw [if_neg h2] at h ⊢
   rw [if_pos h1,if_neg h2]
 ·rw [if_neg h1,if_neg h1]
theorem eaE_zero {a b:Sc} {p:Pg} (h:eaE a b p=0):chkE a=0∧chkE b=0∧chkP p=0:=by
 unfold eaE at h
 by_cases h1:chkE a=0
 ·rw [if_pos h1] at h
  by_cases h2:chkE b=0
  ·rw [if_pos h2] at h;exact ⟨h1,h2,h⟩
  ·rw [if_neg h2] at h;exact absurd h h2
 ·rw [if_neg h1] at h;exact absurd h h1
theorem ckE_go {a b:Sc} {p:Pg} (h:eaE a b p=0):ckE a b p=if p.va=a.ver∧p.vb=b.ver∧p.va<p.vb then (if p.rs.length=b.cs.length then (if seqE (nwE a) (p.rs.zip b.cs)=0 then seqE (ruC a) (p.rs.zip b.cs) else 6) else 6) else 7:=by
 obtain ⟨h1,h2,h3⟩:=eaE_zero h
 unfold ckE
 rw [if_pos h1,if_pos h2,if_pos h3]
variable (X:Nat→Option Obj)
theorem yEach (a b:Sc) (p:Pg) (ad1 ad2 ad:Option Addr) (cap1 cap2 cap:Nat) (ha:CompsIn X ad1 a.cs) (hb:CompsIn X ad2 b.cs) (hp:RulesIn X ad p.rs) (na:NamesC a.cs) (nb:NamesC b.cs) (hal:a.cs.length<4611686018427387904) (hbl:b.cs.length<4611686018427387904) (sp:pgOk p):
  PSpec Tryz.prog X 84 [Sx a.ver ad1 a.cs.length cap1,Sx b.ver ad2 b.cs.length cap2,LPg p.va p.vb ad p.rs.length cap] (Ln .i64 (eaE a b p)):=by
 have hA:=pCheckBig X a ad1 cap1 ha hal na _ rfl
 have hB:=pCheckBig X b ad2 cap2 hb hbl nb _ rfl
 have hP:=hCheck X p ad cap hp sp
 refine cC Tryz.func84 rfl (by kernel_rfl) rfl rfl ?_
 intro C
 unfold eaE
 by_cases h1:chkE a=0
 case neg =>
  rw [if_neg h1]
  generalize chkE a=e at *
  (refine aA<|rgN<|aL O O O dO<|aL O O O dO<|aL O O O dO<|kas O<|aB<|aA<|aA<|rgN<|aK O O O dO ?_;refine kca O O hA<|kas O<|aB<|aA<|rgN<|kmv O<|kne O O (r:=true) (cP h1)<|aB<|aE O ?_;refine aA<|rgN<|kmv O<|kas O<|aB<|aI ?_)
  exact ⟨[_],⟨O,trivial⟩,O⟩
 rw [if_pos h1]
 rw [h1] at hA
 by_cases h2:chkE b=0
 case neg =>
  rw [if_neg h2]
  generalize chkE b=e at *
  (refine aA<|rgN<|aL O O O dO<|aL O O O dO<|aL O O O dO<|kas O<|aB<|aA<|aA<|rgN<|aK O O O dO ?_;refine kca O O hA<|kas O<|aB<|aA<|rgN<|kmv O<|kne O O (r:=false) O<|aB<|aF O ?_;refine aH ?_;refine aA<|aA<|rgN<|aK O O O dO ?_;refine kca O O hB<|kas O<|aB<|aA<|rgN<|kmv O<|kne O O (r:=true) (cP h2)<|aB<|aE O ?_;refine aA<|rgN<|kmv O<|kas O<|aB<|aI ?_)
  exact ⟨[_],⟨O,trivial⟩,O⟩
 rw [if_pos h2]
 rw [h2] at hB
 generalize chkP p=e at *
 (refine aA<|rgN<|aL O O O dO<|aL O O O dO<|aL O O O dO<|kas O<|aB<|aA<|aA<|rgN<|aK O O O dO ?_;refine kca O O hA<|kas O<|aB<|aA<|rgN<|kmv O<|kne O O (r:=false) O<|aB<|aF O ?_;refine aH ?_;refine aA<|aA<|rgN<|aK O O O dO ?_;refine kca O O hB<|kas O<|aB<|aA<|rgN<|kmv O<|kne O O (r:=false) O<|aB<|aF O ?_;refine aH ?_;refine aA<|rgN<|aK O O O dO ?_;refine kca O O hP<|kas O<|aB<|aI ?_)
 exact ⟨[_],⟨O,trivial⟩,O⟩
abbrev ycSt (a b:Sc) (p:Pg) (ad1 ad2 ad:Option Addr) (cap1 cap2 cap i:Nat) (Y:Nat→Option Obj):St:=
 ⟨[(3,Lp 3),(4,Lp 4),(54,Lx ad p.rs.length cap),(55,Ln .i64 (p.rs.length:Nat)),(56,Ln .i64 (i:Nat))],[sxB 4 b.ver ad2 b.cs.length cap2,sxB 3 a.ver ad1 a.cs.length cap1],Y⟩
set_option maxHeartbeats 12800000 in
theorem yCheck (a b:Sc) (p:Pg) (ad1 ad2 ad:Option Addr) (cap1 cap2 cap:Nat) (ha:CompsIn X ad1 a.cs) (hb:CompsIn X ad2 b.cs) (hp:RulesIn X ad p.rs) (na:NamesC a.cs) (nb:NamesC b.cs) (sa:a.cs.length≤30∧∀ c∈a.cs,c.fs.length≤12) (sb:b.cs.length≤30∧∀ c∈b.cs,c.fs.length≤12) (sp:pgOk p):
  PSpec Tryz.prog X 46 [Sx a.ver ad1 a.cs.length cap1,Sx b.ver ad2 b.cs.length cap2,LPg p.va p.vb ad p.rs.length cap] (Ln .i64 (ckE a b p)):=by
 obtain ⟨sa1,sa2⟩:=sa
 obtain ⟨sb1,sb2⟩:=sb
 have sp1:=sp.1
 have hE:=yEach X a b p ad1 ad2 ad cap1 cap2 cap ha hb hp na nb (by omega) (by omega) sp
 refine cC Tryz.func46 rfl (by kernel_rfl) rfl rfl ?_
 intro C
 by_cases h0:eaE a b p=0
 case neg =>
  rw [ckE_each h0]
  generalize eaE a b p=e at *
  (refine aA<|rgN<|aL O O O dO<|aL O O O dO<|aL O O O dO<|kas O<|aB<|aA<|aA<|rgN<|aK O O O dO ?_;refine aK O O O dO ?_;refine aK O O O dO ?_;refine kca O O hE<|kas O<|aB<|aA<|rgN<|kmv O<|kne O O (r:=true) (cP h0)<|aB<|aE O ?_;refine aA<|rgN<|kmv O<|kas O<|aB<|aI ?_)
  exact ⟨[_],⟨O,trivial⟩,O⟩
 rw [ckE_go h0]
 rw [h0] at hE
 by_cases c1:p.va=a.ver
 case neg =>
  rw [if_neg (fun h=>c1 h.1)]
  (refine aA<|rgN<|aL O O O dO<|aL O O O dO<|aL O O O dO<|kas O<|aB<|aA<|aA<|rgN<|aK O O O dO ?_;refine aK O O O dO ?_;refine aK O O O dO ?_;refine kca O O hE<|kas O<|aB<|aA<|rgN<|kmv O<|kne O O (r:=false) O<|aB<|aF O ?_;refine aH ?_;refine aA<|aG<|aA<|rgN<|kfa O O ?_;refine kl1 O O O<|kfa O O ?_;refine kl1 O O O<|kne O O (r:=true) (cP c1)<|kmv O<|aC O O O<|aC O O O<|aC O O O<|aC O O O<|aC O O O<|kpt O O<|kmv O<|aC O O O<|aC O O O<|aC O O O<|aC O O O ?_;refine aC O O O<|kpt O O<|kas O<|aB<|aE O ?_;refine aA<|rgN<|kas O<|aB<|aI ?_)
  exact ⟨[_],⟨O,trivial⟩,O⟩
 by_cases c2:p.vb=b.ver
 case neg =>
  rw [if_neg (fun h=>c2 h.2.1)]
  (refine aA<|rgN<|aL O O O dO<|aL O O O dO<|aL O O O dO<|kas O<|aB<|aA<|aA<|rgN<|aK O O O dO ?_;refine aK O O O dO ?_;refine aK O O O dO ?_;refine kca O O hE<|kas O<|aB<|aA<|rgN<|kmv O<|kne O O (r:=false) O<|aB<|aF O ?_;refine aH ?_;refine aA<|aG<|aA<|rgN<|kfa O O ?_;refine kl1 O O O<|kfa O O ?_;refine kl1 O O O<|kne O O (r:=false) (cO c1)<|kmv O<|aN O O (dP O O) ?_;refine aO O O O (dP O O) ?_;refine aN O O (dP O O) ?_;refine aO O O O (dP O O) ?_;refine aX O O (r:=true) (cP c2) (dP O O) ?_;refine kpf O O<|kmv O<|aC O O O<|aC O O O<|aC O O O<|aC O O O<|aC O O O<|kpt O O<|kas O<|aB<|aE O ?_;refine aA<|rgN<|kas O<|aB<|aI ?_)
  exact ⟨[_],⟨O,trivial⟩,O⟩
 by_cases c3:p.va<p.vb
 case neg =>
  rw [if_neg (fun h=>c3 h.2.2)]
  (refine aA<|rgN<|aL O O O dO<|aL O O O dO<|aL O O O dO<|kas O<|aB<|aA<|aA<|rgN<|aK O O O dO ?_;refine aK O O O dO ?_;refine aK O O O dO ?_;refine kca O O hE<|kas O<|aB<|aA<|rgN<|kmv O<|kne O O (r:=false) O<|aB<|aF O ?_;refine aH ?_;refine aA<|aG<|aA<|rgN<|kfa O O ?_;refine kl1 O O O<|kfa O O ?_;refine kl1 O O O<|kne O O (r:=false) (cO c1)<|kmv O<|aN O O (dP O O) ?_;refine aO O O O (dP O O) ?_;refine aN O O (dP O O) ?_;refine aO O O O (dP O O) ?_;refine aX O O (r:=false) (cO c2) (dP O O) ?_;refine kpf O O<|kmv O<|aN O O (dP O O) ?_;refine aO O O O (dP O O) ?_;refine aN O O (dP O O) ?_;refine aO O O O (dP O O) ?_;refine bD O O (cL (by omega)) (dP O O) ?_;refine kpf O O<|kas O<|aB<|aE O ?_;refine aA<|rgN<|kas O<|aB<|aI ?_)
  exact ⟨[_],⟨O,trivial⟩,O⟩
 rw [if_pos ⟨c1,c2,c3⟩]
 have hN:=yNewIds X p.va p.vb p.rs ad cap hp (by omega)
 have hI:=pIds X b.ver ad2 cap2 b.cs hb (by omega)
 rw [idsV_int1] at hI
 have hO:=yHasOlds X a p ad1 ad cap1 cap ha hp (by omega) (by omega)
 by_cases d1:p.rs.map Rl.nw=b.cs.map Cp.id
 case neg =>
  have hr:(if p.rs.length=b.cs.length then (if seqE (nwE a) (p.rs.zip b.cs)=0 then seqE (ruC a) (p.rs.zip b.cs) else 6) else (6:Int))=6:=by
   by_cases e1:p.rs.length=b.cs.length
   ·rw [if_pos e1]
    by_cases e2:seqE (nwE a) (p.rs.zip b.cs)=0
    ·exact absurd (news_iff.2 ⟨e1,e2⟩).1 d1
    ·rw [if_neg e2]
   ·rw [if_neg e1]
  rw [hr]
  have hQ:=fun (S:Nat→Option (Option Box)) h1 h2=>equal_lent X (S:=S) (l:=p.rs.map Rl.nw) (m:=b.cs.map Cp.id) (j:=601) (k:=602) (n1:=p.rs.length) (n2:=b.cs.length) (e1:=3) (e2:=3) (row1:=false) (row2:=false) (by rw [cT];omega) (cK d1) (cT ..).symm (cT ..).symm h1 h2
  ((refine aA<|rgN<|aL O O O dO<|aL O O O dO<|aL O O O dO<|kas O<|aB<|aA<|aA<|rgN<|aK O O O dO ?_;refine aK O O O dO ?_;refine aK O O O dO ?_;refine kca O O hE<|kas O<|aB<|aA<|rgN<|kmv O<|kne O O (r:=false) O<|aB<|aF O ?_;refine aH ?_;refine aA<|aG<|aA<|rgN<|kfa O O ?_;refine kl1 O O O<|kfa O O ?_;refine kl1 O O O<|kne O O (r:=false) (cO c1)<|kmv O<|aN O O (dP O O) ?_;refine aO O O O (dP O O) ?_;refine aN O O (dP O O) ?_;refine aO O O O (dP O O) ?_;refine aX O O (r:=false) (cO c2) (dP O O) ?_);(refine kpf O O<|kmv O<|aN O O (dP O O) ?_;refine aO O O O (dP O O) ?_;refine aN O O (dP O O) ?_;refine aO O O O (dP O O) ?_;refine bD O O (cK (by omega)) (dP O O) ?_;refine kpf O O<|kas O<|aB<|aF O ?_;refine aA<|rgD mixed<|aK O O O dO ?_;refine bE [(1000001,601)] (.sv (.one (.slc 601 0 p.rs.length))) [(601,some ⟨3,(int1 (p.rs.map Rl.nw)).map .val,false⟩)] (hN) O O (by exact trivial) O O O O O (by exact (.box O (bX _ _ _ _) .nil)) dO<|aK O O O dO ?_;refine bE [(1000001,602)] (.sv (.one (.slc 602 0 b.cs.length))) [(602,some ⟨3,(int1 (b.cs.map Cp.id)).map .val,false⟩)] (hI) O O (by exact trivial) O O O O O (by exact (.box O (bX _ _ _ _) .nil)) dO<|K.callL [601,602] O O O (hQ _ O O) dO ?_;refine aV O O dO<|kmv O<|aC O O O<|aC O O O<|aC O O O<|aC O O O<|kpt O O<|kas O<|aB<|rgA ?_;refine aE O ?_;refine aA<|rgN<|kas O<|aB<|aI ?_))
  exact ⟨[_],⟨O,trivial⟩,O⟩
 have hQ:=fun (S:Nat→Option (Option Box)) h1 h2=>equal_lent X (S:=S) (l:=p.rs.map Rl.nw) (m:=b.cs.map Cp.id) (j:=601) (k:=602) (n1:=p.rs.length) (n2:=b.cs.length) (e1:=3) (e2:=3) (row1:=false) (row2:=false) (by rw [cT];omega) (cL d1) (cT ..).symm (cT ..).symm h1 h2
 cases d2:p.rs.any (oldB (a.cs.map Cp.id)) with
 | true =>
  have hr:(if p.rs.length=b.cs.length then (if seqE (nwE a) (p.rs.zip b.cs)=0 then seqE (ruC a) (p.rs.zip b.cs) else 6) else (6:Int))=6:=by
   by_cases e1:p.rs.length=b.cs.length
   ·rw [if_pos e1]
    by_cases e2:seqE (nwE a) (p.rs.zip b.cs)=0
    ·exact absurd (news_iff.2 ⟨e1,e2⟩).2 (by rw [d2];decide)
    ·rw [if_neg e2]
   ·rw [if_neg e1]
  rw [hr]
  rw [d2] at hO
  ((refine aA<|rgN<|aL O O O dO<|aL O O O dO<|aL O O O dO<|kas O<|aB<|aA<|aA<|rgN<|aK O O O dO ?_;refine aK O O O dO ?_;refine aK O O O dO ?_;refine kca O O hE<|kas O<|aB<|aA<|rgN<|kmv O<|kne O O (r:=false) O<|aB<|aF O ?_;refine aH ?_;refine aA<|aG<|aA<|rgN<|kfa O O ?_;refine kl1 O O O<|kfa O O ?_;refine kl1 O O O<|kne O O (r:=false) (cO c1)<|kmv O<|aN O O (dP O O) ?_;refine aO O O O (dP O O) ?_;refine aN O O (dP O O) ?_;refine aO O O O (dP O O) ?_;refine aX O O (r:=false) (cO c2) (dP O O) ?_);(refine kpf O O<|kmv O<|aN O O (dP O O) ?_;refine aO O O O (dP O O) ?_;refine aN O O (dP O O) ?_;refine aO O O O (dP O O) ?_;refine bD O O (cK (by omega)) (dP O O) ?_;refine kpf O O<|kas O<|aB<|aF O ?_;refine aA<|rgD mixed<|aK O O O dO ?_;refine bE [(1000001,601)] (.sv (.one (.slc 601 0 p.rs.length))) [(601,some ⟨3,(int1 (p.rs.map Rl.nw)).map .val,false⟩)] (hN) O O (by exact trivial) O O O O O (by exact (.box O (bX _ _ _ _) .nil)) dO<|aK O O O dO ?_;refine bE [(1000001,602)] (.sv (.one (.slc 602 0 b.cs.length))) [(602,some ⟨3,(int1 (b.cs.map Cp.id)).map .val,false⟩)] (hI) O O (by exact trivial) O O O O O (by exact (.box O (bX _ _ _ _) .nil)) dO<|K.callL [601,602] O O O (hQ _ O O) dO ?_;refine aV O O dO<|kmv O<|aK O O O (dP O O) ?_;refine aK O O O (dP O O) ?_;refine gca O O hO O O<|aV O O (dP O O) ?_);(refine kpf O O<|kas O<|aB<|rgA ?_;refine aE O ?_;refine aA<|rgN<|kas O<|aB<|aI ?_))
  exact ⟨[_],⟨O,trivial⟩,O⟩
 | false =>
 obtain ⟨e1,e2⟩:=news_iff.1 ⟨d1,d2⟩
 rw [if_pos e1,if_pos e2]
 rw [d2] at hO
 ((refine aA<|rgN<|aL O O O dO<|aL O O O dO<|aL O O O dO<|kas O<|aB<|aA<|aA<|rgN<|aK O O O dO ?_;refine aK O O O dO ?_;refine aK O O O dO ?_;refine kca O O hE<|kas O<|aB<|aA<|rgN<|kmv O<|kne O O (r:=false) O<|aB<|aF O ?_;refine aH ?_;refine aA<|aG<|aA<|rgN<|kfa O O ?_;refine kl1 O O O<|kfa O O ?_;refine kl1 O O O<|kne O O (r:=false) (cO c1)<|kmv O<|aN O O (dP O O) ?_;refine aO O O O (dP O O) ?_;refine aN O O (dP O O) ?_;refine aO O O O (dP O O) ?_;refine aX O O (r:=false) (cO c2) (dP O O) ?_);(refine kpf O O<|kmv O<|aN O O (dP O O) ?_;refine aO O O O (dP O O) ?_;refine aN O O (dP O O) ?_;refine aO O O O (dP O O) ?_;refine bD O O (cK (by omega)) (dP O O) ?_;refine kpf O O<|kas O<|aB<|aF O ?_;refine aA<|rgD mixed<|aK O O O dO ?_;refine bE [(1000001,601)] (.sv (.one (.slc 601 0 p.rs.length))) [(601,some ⟨3,(int1 (p.rs.map Rl.nw)).map .val,false⟩)] (hN) O O (by exact trivial) O O O O O (by exact (.box O (bX _ _ _ _) .nil)) dO<|aK O O O dO ?_;refine bE [(1000001,602)] (.sv (.one (.slc 602 0 b.cs.length))) [(602,some ⟨3,(int1 (b.cs.map Cp.id)).map .val,false⟩)] (hI) O O (by exact trivial) O O O O O (by exact (.box O (bX _ _ _ _) .nil)) dO<|K.callL [601,602] O O O (hQ _ O O) dO ?_;refine aV O O dO<|kmv O<|aK O O O (dP O O) ?_;refine aK O O O (dP O O) ?_;refine gca O O hO O O<|aV O O (dP O O) ?_);(refine kpf O O<|kas O<|aB<|rgA ?_;refine aF O ?_;refine aH ?_;refine aA<|aA<|rgN<|kfa O O ?_;refine kl1 O O O<|aQ O bZ O dO ?_;refine kmv O<|aB<|aG ?_))
 clear hE hN hI hO hQ
 have hzl:(p.rs.zip b.cs).length=p.rs.length:=by rw [List.length_zip];omega
 refine cG (fun m σ=>∃ i:Nat,i≤p.rs.length∧m=p.rs.length-i∧(∀ j,0≤j→j<i→atE (ruC a) (p.rs.zip b.cs) j=0)∧σ=ycSt a b p ad1 ad2 ad cap1 cap2 cap i X) p.rs.length
  ⟨ycSt a b p ad1 ad2 ad cap1 cap2 cap 0 X,Le.of (by exact ⟨rfl,rfl,rfl,rfl,rfl,trivial⟩) (by exact ⟨rfl,rfl,trivial⟩) (by exact rfl) (by exact rfl) (by repeat' (first|refine bS ?_ ?_|rfl|exact bU|exact bT|exact bV rfl)),0,by omega,by omega,fun j _ hj=>absurd hj (by omega),rfl⟩ ?_
 rintro m σ ⟨i,hi,rfl,hpre,rfl⟩
 by_cases hlt:i<p.rs.length
 case neg =>
  rw [show seqE (ruC a) (p.rs.zip b.cs)=0 from firstE_none fun j h1 h2=>hpre j h1 (by omega)]
  (refine aA<|rgN<|klt O O (cK (by omega))<|aB<|aA<|aF O ?_;refine aJ<|aA<|rgN<|kas O<|aB<|aI ?_)
  exact ⟨[_],⟨O,trivial⟩,O⟩
 obtain ⟨r,hr⟩:∃ r,p.rs[i]? = some r:=⟨_,cU hlt⟩
 obtain ⟨c,hc⟩:∃ c,b.cs[i]? = some c:=⟨_,cU (by omega)⟩
 obtain ⟨rb,ro,rarr,rel,rfr,ead,ecap,rfl,hRX,hRz,hRc,_,_,_,hRE⟩:=hp.get hr
 have hior:ro+Int.toNat (i:Int)*3=ro+i*3:=by simp
 (refine aA<|rgN<|klt O O (cL (by omega))<|aB<|aA<|aE O ?_;refine aH ?_;refine aA<|aG<|aA<|rgN<|kmv O<|aR O O bZ (by omega) hior dO<|aY O hRX (by kernel_rfl) hRz hRc dO<|aP O dO ?_;refine kas O<|aM O O O O O O dO ?_;refine aB<|aA ?_)
 refine LWP.le (σ':=⟨[(3,Lp 3),(4,Lp 4),(54,Lx (some ⟨rb,ro,none⟩) p.rs.length cap),(55,Ln .i64 (p.rs.length:Nat)),(56,Ln .i64 (i:Nat)),(8,Ln .i64 (i:Nat)),(9,Lp 9)],[v3B 27 9 r.nw r.old ead r.ex.length ecap,sxB 4 b.ver ad2 b.cs.length cap2,sxB 3 a.ver ad1 a.cs.length cap1],X⟩) (Le.of (by exact ⟨O,O,O,O,O,O,O,trivial⟩) (by exact ⟨O,O,O,trivial⟩) (by exact O) (by exact O) (by repeat' (first|refine bS ?_ ?_|rfl|exact bU|exact bT|exact bV O))) ?_
 repeat refine aA ?_
 refine LWP.meetL (fun σ=>∃ (Y:Nat→Option Obj) (w:Cp) (fad:Option Addr) (fcap:Nat),(∀ b x,X b=some x→Y b=some x)∧w.fs=flC a r.old∧FieldsIn Y fad w.fs∧σ=⟨[(3,Lp 3),(4,Lp 4),(54,Lx (some ⟨rb,ro,none⟩) p.rs.length cap),(55,Ln .i64 (p.rs.length:Nat)),(56,Ln .i64 (i:Nat)),(8,Ln .i64 (i:Nat)),(9,Lp 9),(10,Lp 10)],[cpB 10 w fad fcap,v3B 27 9 r.nw r.old ead r.ex.length ecap,sxB 4 b.ver ad2 b.cs.length cap2,sxB 3 a.ver ad1 a.cs.length cap1],Y⟩) ?_ ?_
 ·cases ho:findC a.cs r.old with
  | none =>
   have hf:=pFind_no X a.ver ad1 cap1 a.cs r.old ha (by omega) (findC_no ho)
   (refine rgN<|aK O O O dO ?_;refine kfa O O ?_;refine kl1 O O O<|kca O O hf<|kmv O<|kex O O<|kex O O<|aP O dO ?_;refine aM O O O O O O dO ?_;refine kas O<|aB ?_)
   exact Leads.here (Le.of (by exact ⟨rfl,rfl,rfl,rfl,rfl,rfl,rfl,rfl,trivial⟩) (by exact ⟨rfl,rfl,rfl,rfl,trivial⟩) (by exact rfl) (by exact rfl) (by repeat' (first|refine bS ?_ ?_|rfl|exact bU|exact bT|exact bV rfl))) ⟨X,⟨0,[],[]⟩,none,0,fun _ _ h=>h,by unfold flC;rw [ho],fields_none rfl,rfl⟩
  | some o =>
   obtain ⟨k,hk,hid,hpr⟩:=findC_at ho
   have hw:o.fs=flC a r.old:=by unfold flC;rw [ho]
   rcases pFind X a.ver ad1 cap1 a.cs r.old ha (by omega) (fun c hc=>by have:=sa2 c hc;omega) hpr hk hid with ⟨h0,hf⟩|hf
   ·have hl:o.fs.length=0:=by rw [h0];rfl
    (refine rgN<|aK O O O dO ?_;refine kfa O O ?_;refine kl1 O O O<|kca O O hf<|kmv O<|kex O O<|kex O O<|aP O dO ?_;refine aM O O O O O O dO ?_;refine kas O<|aB ?_)
    exact Leads.here (Le.of (by exact ⟨O,O,O,O,O,O,O,O,trivial⟩) (by exact ⟨O,O,O,O,trivial⟩) (by exact O) (by exact O) (by repeat' (first|refine bS ?_ ?_|rfl|exact bU|exact bT|exact bV O))) ⟨X,o,none,0,fun _ _ h=>h,hw,fields_none h0,O⟩
   ·obtain ⟨_,_,_,_,_,_,_,_,_,_,_,_,_,_,hoF⟩:=ha.get hk
    (refine rgN<|aK O O O dO ?_;refine kfa O O ?_;refine kl1 O O O<|bE [(1000001,601)] (.tup [SCs o 601,Sb true]) [fdB 601 o.fs] (hf) O O (by exact trivial) O O O O O (by exact (.box O (bX _ _ _ _) .nil)) dO<|kmv O<|kex O O<|kex O O<|aP O dO ?_;refine aM O O O O O O dO ?_;refine kas O<|aB ?_)
    refine cB (σ':=⟨[(3,Lp 3),(4,Lp 4),(54,Lx (some ⟨rb,ro,none⟩) p.rs.length cap),(55,Ln .i64 (p.rs.length:Nat)),(56,Ln .i64 (i:Nat)),(8,Ln .i64 (i:Nat)),(9,Lp 9),(10,Lp 10)],[(10,some ⟨24,[.val (.int .i64 o.id),.val (.string ⟨o.nm.toArray⟩)] ++ .slc 601 0 o.fs.length 3::[],false⟩),fdB 601 o.fs,v3B 27 9 r.nw r.old ead r.ex.length ecap,sxB 4 b.ver ad2 b.cs.length cap2,sxB 3 a.ver ad1 a.cs.length cap1],X⟩) (Le.of (by exact ⟨O,O,O,O,O,O,O,O,trivial⟩) (by exact ⟨O,O,O,O,O,trivial⟩) (by exact O) (by exact O) (by repeat' (first|refine bS ?_ ?_|rfl|exact bU|exact bT|exact bV O))) ?_
    refine Leads.freezeCell O O O O O O fun blk cp arr fr hn _ _ _ hsp => ?_
    obtain ⟨sp',hsp⟩:=hsp
    exact cB (Le.of (by exact ⟨O,O,O,O,O,O,O,O,trivial⟩) (by exact ⟨O,O,O,O,trivial⟩) (by exact O) (by exact O) (by repeat' (first|refine bS ?_ ?_|rfl|exact bU|exact bT|exact bV O))) (cA ⟨_,o,some ⟨blk,0,none⟩,cp,cF hn,hw,fields_block (cJ _ _ _) hsp hoF.small,O⟩)
 rintro σ ⟨Y,w,fad,fcap,hXY,hw,hF,rfl⟩
 have hwl:w.fs.length≤12:=by
  rw [hw]
  unfold flC
  split
  ·rename_i o ho;exact sa2 o (findC_some ho).1
  ·exact Nat.zero_le _
 obtain ⟨cb,co,carr,cel,cfr,cad,ccap,rfl,hCX,hCz,hCc,_,_,_,hCF⟩:=hb.get hc
 have hioc:co+Int.toNat (i:Int)*3=co+i*3:=by simp
 have hCY:=hXY _ _ hCX
 have hadd:IntKind.i64.wrap ((i:Int)+1)=((i+1:Nat):Int):=by rw [cE (by omega)];omega
 have hcl:=sb2 c (cZ hc)
 have hq:=yRule Y w c r fad cad ead fcap ccap ecap hF (hCF.mono hXY) (hRE.mono hXY) (by omega) (by omega) (fun q hq=>by have:=(sp.2 r (cZ hr)).2 q hq;omega)
 have hat:atE (ruC a) (p.rs.zip b.cs) i=ruE w.fs c.fs r:=by rw [atE_at (zip_two hr hc),hw];rfl
 by_cases he:ruE w.fs c.fs r=0
 ·rw [he] at hq
  (refine aA<|rgD mixed<|aK O O O dO ?_;refine kfa O O ?_;refine kl1 O O O<|kmv O<|aR O O bZ (by omega) hioc dO<|aY O hCY (by kernel_rfl) hCz hCc dO<|aK O O O dO ?_;refine kca O O hq<|kas O<|aB<|rgA ?_;refine aA<|rgN<|kmv O<|kne O O (r:=false) O<|aB<|aF O ?_;refine aH ?_;refine rgN<|kad O O hadd<|kmv O<|aB ?_)
  exact ⟨_,ycSt a b p ad1 (some ⟨cb,co,none⟩) (some ⟨rb,ro,none⟩) cap1 cap2 cap (i+1) X,by omega,(by refine Le.trans ?_ (Le.drop hXY);exact Le.of (by exact ⟨O,O,O,O,O,trivial⟩) (by exact ⟨O,O,trivial⟩) (by exact O) (by exact O) (by repeat' (first|refine bS ?_ ?_|rfl|exact bU|exact bT|exact bV O))),i+1,by omega,O,(fun j h0 hj=>by
   by_cases e:j=i
   ·rw [e,hat];exact he
   ·exact hpre j h0 (by omega)),rfl⟩
 ·rw [show seqE (ruC a) (p.rs.zip b.cs)=ruE w.fs c.fs r from firstE_some hpre (Nat.zero_le _) (by omega) hat he]
  generalize ruE w.fs c.fs r=e at *
  (refine aA<|rgD mixed<|aK O O O dO ?_;refine kfa O O ?_;refine kl1 O O O<|kmv O<|aR O O bZ (by omega) hioc dO<|aY O hCY (by kernel_rfl) hCz hCc dO<|aK O O O dO ?_;refine kca O O hq<|kas O<|aB<|rgA ?_;refine aA<|rgN<|kmv O<|kne O O (r:=true) (cP he)<|aB<|aE O ?_;refine aA<|rgN<|kmv O<|kas O<|aB<|aI ?_)
  exact ⟨[_],⟨O,trivial⟩,O⟩
end Go.Proofs.YtopiioklkkiedaaGreatDoor
end
section
namespace Go.Proofs.YtopiioklkkiedaaGreatDoor
open Go Go.Lg Go.Lg.Fml Go.Lg.Fld Go.Lg.Arith
set_option maxRecDepth 100000
def scOk (cs:List Cp):Prop:=cs.length≤30∧∀ c∈cs,c.fs.length≤12
def scBig (cs:List Cp):Prop:=cs.length≤4398046511104∧∀ c∈cs,c.fs.length≤4398046511104
theorem scOk.names {cs:List Cp} (h:scOk cs) (hn:NamesIn cs):NamesC cs:=fun c hc=>⟨by have:=h.2 c hc;omega,hn c hc⟩
variable (X:Nat→Option Obj)
theorem cRule (a b:Cp) (r:Rl) (aad bad ead:Option Addr) (acap bcap ecap:Nat) (hA:FieldsIn X aad a.fs) (hB:FieldsIn X bad b.fs) (hE:CodesIn X ead r.ex) (hal:a.fs.length<4611686018427387904) (hbl:b.fs.length<4611686018427387904) (hcl:∀ c∈r.ex,c.length<1152921504606846976):
  PSpec Tryz.prog X 67 [Cx a aad acap,Cx b bad bcap,.sv (.agg [.val (.int .i64 r.nw),.val (.int .i64 r.old),.val (.slice ead r.ex.length ecap)])] (Ln .i64 (ruE a.fs b.fs r)):=yRule X a b r aad bad ead acap bcap ecap hA hB hE hal hbl hcl
theorem cCheck (a b:Sc) (p:Pg) (ad1 ad2 ad:Option Addr) (cap1 cap2 cap:Nat) (ha:CompsIn X ad1 a.cs) (hb:CompsIn X ad2 b.cs) (hp:RulesIn X ad p.rs) (na:NamesIn a.cs) (nb:NamesIn b.cs) (sa:scOk a.cs) (sb:scOk b.cs) (sp:p.rs.length≤30∧∀ r∈p.rs,r.ex.length≤12∧∀ c∈r.ex,c.length≤80):
  PSpec Tryz.prog X 46 [Sx a.ver ad1 a.cs.length cap1,Sx b.ver ad2 b.cs.length cap2,LPg p.va p.vb ad p.rs.length cap] (Ln .i64 (ckE a b p)):=yCheck X a b p ad1 ad2 ad cap1 cap2 cap ha hb hp (sa.names na) (sb.names nb) sa sb sp
end Go.Proofs.YtopiioklkkiedaaGreatDoor
end
section
namespace Go.Proofs.YtopiioklkkiedaaGreatDoor
open Go Go.Lg Go.Lg.Fml Go.Lg.Fld Go.Lg.Arith
set_option maxRecDepth 100000
def valA (a b:List Fl) (r:Rl) (ns:List Nm):List Nm:=if valE a b r ns=0 then valN a b r ns else []
def psA (a b:Sc) (p:Pg) (ps:List Pt):List Pt:=if psE a b p ps=0 then psV a b p ps else []
def vShape (e:Int) (_:List Nm):Bool:=e==0
def vRow (_:List Nm):Bool:=true
def pShape (e:Int) (_:List Pt):Bool:=e==0
theorem vShape_nil {a b:List Fl} {r:Rl} {ns:List Nm} (h:vShape (valE a b r ns) (valA a b r ns)=false):valA a b r ns=[]:=if_neg (by unfold vShape at h;simpa using h)
theorem pShape_nil {a b:Sc} {p:Pg} {ps:List Pt} (h:pShape (psE a b p ps) (psA a b p ps)=false):psA a b p ps=[]:=if_neg (by unfold pShape at h;simpa using h)
def prtR (t:TypeId) (ps:List Pt):Rsc:=⟨fun ρ H=>(∃ (arr:Array Value) (fr:Nat×Nat),H ρ.1=some (.cells arr t fr)∧arr.size=ρ.2)∧PartsIn H (some ⟨ρ.1,0,none⟩) ps⟩
abbrev prtB (k:Nat) (ps:List Pt):Nat×Option Box:=(k,some ⟨0,[],.res (prtR 59 ps)⟩)
abbrev nmsB (k:Nat) (l:List Nm) (row:Bool):Nat×Option Box:=(k,some ⟨86,(nmsV l).map .val,row⟩)
structure PartsC (X:Nat→Option Obj) (ad:Option Addr) (ps:List Pt):Prop where
 at_:∀ (i:Nat) (p:Pt),ps[i]? = some p→∃ (blk off:Nat) (arr:Array Value) (el:TypeId) (fr:Nat×Nat) (vad:Option Addr) (vcap:Nat),ad=some ⟨blk,off,none⟩∧X blk=some (.cells arr el fr)∧off+i*2+2≤arr.size ∧
  (arr.toList.drop (off+i*2)).take 2=[.int .i64 p.comp,.slice vad p.val.length vcap]∧NumsIn X vad p.val∧p.val.length≤vcap
 small:∀ p∈ps,-9223372036854775808≤p.comp∧p.comp<9223372036854775808
theorem PartsC.parts {X:Nat→Option Obj} {ad:Option Addr} {ps:List Pt} (h:PartsC X ad ps):PartsIn X ad ps:=⟨fun i p hp=>by
 obtain ⟨blk,off,arr,el,fr,vad,vcap,h1,h2,h3,h4,h5,_⟩:=h.at_ i p hp
 exact ⟨blk,off,arr,el,fr,vad,vcap,h1,h2,h3,h4,h5⟩,h.small⟩
theorem PartsC.mono {X Y:Nat→Option Obj} (hXY:∀ b o,X b=some o→Y b=some o) {ad:Option Addr} {ps:List Pt} (h:PartsC X ad ps):PartsC Y ad ps:=⟨fun i p hp=>by
 obtain ⟨blk,off,arr,el,fr,vad,vcap,h1,h2,h3,h4,h5,h6⟩:=h.at_ i p hp
 exact ⟨blk,off,arr,el,fr,vad,vcap,h1,hXY _ _ h2,h3,h4,⟨h5.rows.mono hXY,h5.in2⟩,h6⟩,h.small⟩
theorem PartsC.get {X:Nat→Option Obj} {ad:Option Addr} {ps:List Pt} (h:PartsC X ad ps) {i:Nat} {p:Pt} (hc:ps[i]? = some p):∃ (blk off:Nat) (arr:Array Value) (el:TypeId) (fr:Nat×Nat) (vad:Option Addr) (vcap:Nat),ad=some ⟨blk,off,none⟩∧X blk=some (.cells arr el fr)∧off+i*2+2≤arr.size ∧
  ((arr.toList.drop (off+i*2)).take 2).map CV.val=[.val (.int .i64 p.comp),.val (.slice vad p.val.length vcap)]∧arr[off+i*2]? = some (.int .i64 p.comp)∧arr[off+i*2+1]? = some (.slice vad p.val.length vcap)∧NumsIn X vad p.val∧p.val.length≤vcap:=by
 obtain ⟨blk,off,arr,el,fr,vad,vcap,h1,h2,h3,h4,h5,h6⟩:=h.at_ i p hc
 obtain ⟨g1,g2⟩:=two_at h4
 exact ⟨blk,off,arr,el,fr,vad,vcap,h1,h2,h3,by rw [h4];rfl,g1,g2,h5,h6⟩
end Go.Proofs.YtopiioklkkiedaaGreatDoor
end
section
namespace Go.Proofs.YtopiioklkkiedaaGreatDoor
open Go Go.Lg Go.Lg.Fml Go.Lg.Fld Go.Lg.Arith
set_option maxRecDepth 100000
theorem evX_two {l:List Ins} {fs:List (List Nm)} {at_:Int} {v:Nm} (hl:∀ x∈l,In2 x.k.2) (hf:∀ r∈fs,∀ u∈r,In2 u.2) (hat:at_<9223372036854775808) (h:evX l fs at_ = .ok v):In2 v.2:=by
 by_cases hz:chkX l=0
 ·obtain ⟨t,ht,e⟩:=parse (chkX_zero hz).2
  rw [evX_tree hz ht e] at h
  cases hev:t.ev (oneX fs at_) with
  | error e'=>rw [hev] at h;cases h
  | ok u =>
   rw [hev] at h
   simp only at h
   split at h
   ·cases h;exact tree_in2 hf hat (fun x hx=>hl x (by rw [← e];exact hx)) hev
   ·cases h
 ·rw [show evX l fs at_ = .error (chkX l) from if_neg hz] at h;cases h
def subA (vad:Option Addr) (s:Nat):Option Addr:=vad.map fun a=>⟨a.block,a.off+s*3,a.spot⟩
def subV (vad:Option Addr) (vcap:Nat):Nat→List Fl→List Value
 | _,[]=>[]
 | s,f::t=>.slice (subA vad s) f.n (vcap-s)::subV vad vcap (s+f.n) t
theorem subV_snoc (vad:Option Addr) (vcap:Nat) (f:Fl):∀ (l:List Fl) (s:Nat),subV vad vcap s (l++[f])=subV vad vcap s l++[.slice (subA vad (s+sumC l)) f.n (vcap-(s+sumC l))]
 | [],s=>by simp [subV,sumC]
 | g::t,s=>by
  have e:s+sumC (g::t)=s+g.n+sumC t:=by simp [sumC];omega
  simp only [List.cons_append,subV,subV_snoc vad vcap f t,e]
theorem subV_len (vad:Option Addr) (vcap:Nat):∀ (l:List Fl) (s:Nat),(subV vad vcap s l).length=l.length
 | [],_=>rfl
 | g::t,s=>by simp only [subV,dF,subV_len vad vcap t]
theorem subV_at (vad:Option Addr) (vcap:Nat):∀ {l:List Fl} {s i:Nat} {f:Fl},l[i]? = some f→(subV vad vcap s l)[i]? = some (.slice (subA vad (s+sumC (l.take i))) f.n (vcap-(s+sumC (l.take i))))
 | g::t,s,0,f,h=>by
  simp only [List.getElem?_cons_zero,Option.some.injEq] at h
  subst h
  simp [subV,sumC]
 | g::t,s,i+1,f,h=>by
  simp only [List.getElem?_cons_succ] at h
  have:=subV_at vad vcap (s:=s+g.n) h
  have e:s+sumC ((g::t).take (i+1))=s+g.n+sumC (t.take i):=by simp [sumC];omega
  rw [e]
  exact this
 | [],_,_,_,h=>by simp at h
theorem nums_sub {X:Nat→Option Obj} {vad:Option Addr} {ns:List Nm} (h:NumsIn X vad ns) (s n:Nat):NumsIn X (subA vad s) ((ns.drop s).take n):=⟨fun i r hr=>by
 rw [List.map_take,List.map_drop,List.getElem?_take] at hr
 split at hr
 ·rw [List.getElem?_drop] at hr
  obtain ⟨blk,off,arr,el,fr,rfl,h2,h3,h4⟩:=h.rows (s+i) r hr
  refine ⟨blk,off+s*3,arr,el,fr,O,h2,by omega,?_⟩
  rw [show off+s*3+i*3=off+(s+i)*3 by omega]
  exact h4
 ·simp at hr,fun u hu=>h.in2 u (List.mem_of_mem_drop (List.mem_of_mem_take hu))⟩
theorem fss_block {Y:Nat→Option Obj} {blk:Nat} {arr:Array Value} {el:TypeId} {fr:Nat×Nat} {vad:Option Addr} {vcap:Nat} {fs:List Fl} {ns:List Nm} (hY:Y blk=some (.cells arr el fr)) (h:∃ sp,arr.toList=subV vad vcap 0 fs++sp) (hn:NumsIn Y vad ns) (hl:ns.length=sumC fs):FssIn Y (some ⟨blk,0,none⟩) (cutN fs ns):=⟨fun i r hr=>by
 obtain ⟨sp,h⟩:=h
 have hi:=(List.getElem?_eq_some_iff.1 hr).1
 rw [cutN_len] at hi
 obtain ⟨f,hf⟩:∃ f,fs[i]? = some f:=⟨_,cU hi⟩
 rw [cut_at hf] at hr
 cases hr
 have hs:=sum_take hf
 have hlen:((ns.drop (sumC (fs.take i))).take f.n).length=f.n:=by rw [cW,cX];omega
 have hv:=subV_at vad vcap (s:=0) hf
 rw [Nat.zero_add] at hv
 have hsz:arr.size=fs.length+sp.length:=by rw [← Array.length_toList,h,cS,subV_len]
 refine ⟨blk,0,arr,el,fr,subA vad (sumC (fs.take i)),vcap-sumC (fs.take i),O,hY,by omega,?_,nums_sub hn _ _⟩
 rw [← Array.getElem?_toList,h,Nat.zero_add,dN (by rw [subV_len];exact hi),hv,hlen]⟩
theorem sum_pos {fs:List Fl} (h:fs.all Fl.ok=true) {i:Nat} {f:Fl} (hf:fs[i]? = some f):1≤f.n∧f.n≤8∧(f.n:Int)=f.count:=(ok_w (List.all_eq_true.1 h f (cZ hf))).2
def ptZ:List Pt→List Value→List Value
 | p::ps,v::vs=>.int .i64 p.comp::v::ptZ ps vs
 | _,_=>[]
theorem ptZ_len:∀ {rs:List Pt} {ws:List Value},ws.length=rs.length→(ptZ rs ws).length=rs.length*2
 | [],[],_=>rfl
 | c::cs,v::vs,h=>by
  simp only [ptZ,dF] at h ⊢
  rw [ptZ_len (rs:=cs) (ws:=vs) (by omega)];omega
 | [],_::_,h=>by simp at h
 | _::_,[],h=>by simp at h
theorem ptZ_add:∀ {rs:List Pt} {ws:List Value} {r:Pt} {v:Value},ws.length=rs.length→ptZ (rs++[r]) (ws++[v])=ptZ rs ws++[.int .i64 r.comp,v]
 | [],[],_,_,_=>rfl
 | c::cs,w::ws,r,v,h=>by
  simp only [dF] at h
  simp only [List.cons_append,ptZ]
  rw [ptZ_add (rs:=cs) (ws:=ws) (by omega)]
 | [],_::_,_,_,h=>by simp at h
 | _::_,[],_,_,h=>by simp at h
theorem ptZ_at:∀ {i:Nat} {rs:List Pt} {ws sp:List Value} {r:Pt} {w:Value},rs[i]? = some r→ws[i]? = some w→((ptZ rs ws++sp).drop (i*2)).take 2=[.int .i64 r.comp,w]
 | 0,c::cs,v::vs,sp,r,w,h1,h2=>by
  simp only [List.getElem?_cons_zero,Option.some.injEq] at h1 h2
  subst h1 h2
  rfl
 | i+1,c::cs,v::vs,sp,r,w,h1,h2=>by
  simp only [List.getElem?_cons_succ] at h1 h2
  have:=ptZ_at (sp:=sp) h1 h2
  rw [show (i+1)*2=i*2+2 by omega]
  exact this
 | _,[],_,_,_,_,h,_=>by simp at h
 | _,_::_,[],_,_,_,_,h=>by simp at h
structure PartsH (H:Nat→Option Obj) (ws:List Value) (ps:List Pt):Prop where
 len:ws.length=ps.length
 at_:∀ (i:Nat) (w:Value) (p:Pt),ws[i]? = some w→ps[i]? = some p→∃ (vad:Option Addr) (vcap:Nat),w = .slice vad p.val.length vcap∧NumsIn H vad p.val
theorem PartsH.nil {H:Nat→Option Obj}:PartsH H [] []:=⟨rfl,fun i v c h=>by simp at h⟩
theorem PartsH.mono {H H':Nat→Option Obj} (hH:∀ b o,H b=some o→H' b=some o) {vs:List Value} {cs:List Pt} (G:PartsH H vs cs):PartsH H' vs cs:=⟨G.len,fun i v c hv hc=>by
 obtain ⟨vad,vcap,h1,h2⟩:=G.at_ i v c hv hc
 exact ⟨vad,vcap,h1,h2.rows.mono hH,h2.in2⟩⟩
theorem PartsH.push {H:Nat→Option Obj} {vs:List Value} {cs:List Pt} (G:PartsH H vs cs) {v:Value} {c:Pt} (hv:∃ (vad:Option Addr) (vcap:Nat),v = .slice vad c.val.length vcap∧NumsIn H vad c.val):PartsH H (vs++[v]) (cs++[c]):=⟨by rw [cS,cS,G.len];rfl,fun i w d hw hd=>by
 have hl:=G.len
 rcases snoc_get hw with ⟨h1,h2⟩|⟨h1,rfl⟩
 ·rcases snoc_get hd with ⟨h3,h4⟩|⟨h3,_⟩
  ·exact G.at_ i w d h2 h4
  ·omega
 ·rcases snoc_get hd with ⟨h3,_⟩|⟨_,rfl⟩
  ·omega
  ·exact hv⟩
def smallP (p:Pt):Prop := -9223372036854775808≤p.comp∧p.comp<9223372036854775808
theorem prt_block {Y:Nat→Option Obj} {blk:Nat} {arr:Array Value} {el:TypeId} {fr:Nat×Nat} {ws sp:List Value} {rs:List Pt} (hY:Y blk=some (.cells arr el fr)) (h:arr.toList=ptZ rs ws++sp) (G:PartsH Y ws rs) (hs:∀ r∈rs,smallP r):PartsIn Y (some ⟨blk,0,none⟩) rs:=⟨fun i r hr=>by
 have hi:=(List.getElem?_eq_some_iff.1 hr).1
 have hl:=G.len
 obtain ⟨v,hv⟩:∃ v,ws[i]? = some v:=⟨_,cU (by omega)⟩
 obtain ⟨ead,ecap,h1,h2⟩:=G.at_ i v r hv hr
 have hsz:arr.size=rs.length*2+sp.length:=by rw [← Array.length_toList,h,cS,ptZ_len hl]
 refine ⟨blk,0,arr,el,fr,ead,ecap,O,hY,by omega,?_,h2⟩
 rw [h,Nat.zero_add,ptZ_at hr hv,h1],hs⟩
section
variable {n:Nat} {C:Ctx} {X:Nat→Option Obj} {s:List (Nat×LV)} {bx:List (Nat×Option Box)} {k:Nat}
theorem prt_shut {Mid:St→Prop} {t:TypeId} {rs:List Pt} {H:Nat→Option Obj} {ws sp:List Value} (hO:OwnedM C X H) (G:PartsH H ws rs) (hs:∀ r∈rs,smallP r)
  (h:Leads n C Mid ⟨s,(k,some ⟨0,[],.res (prtR t rs)⟩)::bx,X⟩):Leads n C Mid ⟨s,(k,some ⟨t,(ptZ rs ws++sp).map .val,false⟩)::bx,joinM X H⟩:=by
 refine Leads.closeRes (vals:=ptZ rs ws++sp) hO (fun ρ fr h1 h2 h3 => ?_) h
 refine ⟨⟨_,fr,cJ _ _ _,by rw [h3];simp⟩,?_⟩
 exact prt_block (cJ _ _ _) (by simp;rfl) (G.mono (cF h1)) hs
end
theorem nms_leads {H:Nat→Option Obj} {b:Nat} {v:Value} {el:TypeId} {c:List Nm} (h:LeadsTo H b v el 3 (nmsV c)) (hs:∀ x∈c,In2 x.2):∃ (vad:Option Addr) (vcap:Nat),v = .slice vad c.length vcap∧NumsIn H vad c:=by
 obtain ⟨len,cap,arr,fr,h1,h2,_,_,h5,h6⟩:=h
 have hl:=nmsV_len c
 rw [cT] at hl
 have e:len=c.length:=by omega
 subst e
 exact ⟨_,cap,h1,nms_in h5 hs h6⟩
theorem valN_two {a b:List Fl} {r:Rl} {ns:List Nm} (hI:∀ c∈r.ex,∀ x∈c,In2 x.k.2) (hN:∀ u∈ns,In2 u.2) (hk:∀ f∈b,f.count<9223372036854775808):∀ u∈valN a b r ns,In2 u.2:=fun u hu=>by
 obtain ⟨q,hq,rfl⟩:=List.mem_map.1 hu
 obtain ⟨i,h1,h2,h3⟩:=mem_steps hq
 have hc:=hk q.1 (cZ h1)
 unfold Fl.n at h3
 unfold stepV
 cases he:evX q.2.1 (cutN a ns) q.2.2 with
 | error e=>show 0≤(0:Int)∧(0:Int)<_;decide
 | ok v=>exact evX_two (hI q.2.1 (cZ h2)) (fun l hl u hu=>hN u (cut_mem hl u hu)) (by omega) he
def pR14 (e:Int) (L:List Pt):LV:=if e=0 then .tup [.one (.slc 1000001 0 L.length 2),Sn .i64 0] else .tup [Vnil,Sn .i64 e]
def pBx14 (e:Int) (L:List Pt):List (Nat×Option Box):=if e=0 then [prtB 1000001 L] else []
end Go.Proofs.YtopiioklkkiedaaGreatDoor
end
section
namespace Go.Proofs.YtopiioklkkiedaaGreatDoor
open Go Go.Lg Go.Lg.Fml Go.Lg.Fld Go.Lg.Arith
set_option maxRecDepth 100000
def ckV (a b:List Fl) (r:Rl) (ns:List Nm):Int:=if fitErr a ns=0 then (if layErr b=0 then (if r.old=0 then 7 else ruE a b r) else layErr b) else fitErr a ns
theorem valE_no {a b:List Fl} {r:Rl} {ns:List Nm} (h:ckV a b r ns≠0):valE a b r ns=ckV a b r ns:=by
 unfold valE
 unfold ckV at h ⊢
 by_cases z1:fitErr a ns=0
 ·rw [if_pos z1] at h ⊢
  rw [if_pos z1]
  by_cases z2:layErr b=0
  ·rw [if_pos z2] at h ⊢
   rw [if_pos z2]
   by_cases z3:r.old=0
   ·rw [if_pos z3,if_pos z3]
   ·rw [if_neg z3] at h ⊢
    rw [if_neg z3,if_neg h]
  ·rw [if_neg z2,if_neg z2]
 ·rw [if_neg z1,if_neg z1]
theorem valE_go {a b:List Fl} {r:Rl} {ns:List Nm} (h:ckV a b r ns=0):fitErr a ns=0∧layErr b=0∧r.old≠0∧ruE a b r=0∧valE a b r ns=seqE (stepE (cutN a ns)) (stepsN b r.ex):=by
 unfold valE
 unfold ckV at h
 by_cases z1:fitErr a ns=0
 ·rw [if_pos z1] at h ⊢
  by_cases z2:layErr b=0
  ·rw [if_pos z2] at h ⊢
   by_cases z3:r.old=0
   ·rw [if_pos z3] at h;cases h
   ·rw [if_neg z3] at h ⊢
    exact ⟨z1,z2,z3,h,if_pos h⟩
  ·rw [if_neg z2] at h;exact absurd h z2
 ·rw [if_neg z1] at h;exact absurd h z1
def elX (k:Int) (c:List Ins) (G:List (List Nm)) (at_:Int):Except Int Nm:=match evX c G at_ with | .error e=>.error e | .ok v=>if fitB k v.1 v.2=true then .ok v else .error 3
theorem elX_err {f:Fl} {c:List Ins} {G:List (List Nm)} {k:Nat} {e:Int} (h:elX f.kind c G k = .error e):e≠0∧stepE G (f,c,k)=e:=by
 unfold elX at h
 unfold stepE
 show _∧(if erV (evX c G (k:Nat))=0 then (if fitB f.kind (okV (evX c G (k:Nat))).1 (okV (evX c G (k:Nat))).2=true then 0 else 3) else erV (evX c G (k:Nat)))=e
 cases hev:evX c G (k:Nat) with
 | error e' =>
  rw [hev] at h
  cases h
  have hne:=evX_err hev
  exact ⟨hne,if_neg hne⟩
 | ok v =>
  rw [hev] at h
  simp only at h
  cases hq:fitB f.kind v.1 v.2 with
  | true=>rw [if_pos hq] at h;cases h
  | false =>
   rw [if_neg (by rw [hq];decide)] at h
   cases h
   refine ⟨by decide,?_⟩
   rw [show erV (Except.ok v:Except Int Nm)=0 from rfl,if_pos rfl,show okV (Except.ok v:Except Int Nm)=v from rfl,hq]
   rfl
theorem elX_ok {f:Fl} {c:List Ins} {G:List (List Nm)} {k:Nat} {v:Nm} (h:elX f.kind c G k = .ok v):stepE G (f,c,k)=0∧stepV G (f,c,k)=v:=by
 unfold elX at h
 unfold stepE stepV
 show (if erV (evX c G (k:Nat))=0 then (if fitB f.kind (okV (evX c G (k:Nat))).1 (okV (evX c G (k:Nat))).2=true then 0 else 3) else erV (evX c G (k:Nat)))=0∧okV (evX c G (k:Nat))=v
 cases hev:evX c G (k:Nat) with
 | error e'=>rw [hev] at h;cases h
 | ok w =>
  rw [hev] at h
  simp only at h
  cases hq:fitB f.kind w.1 w.2 with
  | false=>rw [if_neg (by rw [hq];decide)] at h;cases h
  | true =>
   rw [if_pos hq] at h
   cases h
   rw [show erV (Except.ok v:Except Int Nm)=0 from rfl,if_pos rfl,show okV (Except.ok v:Except Int Nm)=v from rfl,hq]
   exact ⟨O,O⟩
theorem partsOf_one {r:Rl} {c:Cp} {ps:List Pt} (h:ps.Pairwise (fun x y=>x.comp≠y.comp)) {j:Nat} {x:Pt} (hx:ps[j]? = some x) (he:x.comp=r.old):partsOf r c ps=[(r,c,x)]:=by
 have hm:x∈ps.filter fun p=>p.comp==r.old:=List.mem_filter.2 ⟨cZ hx,cR he⟩
 have h1:=filter_one h r.old
 unfold partsOf
 match hq:ps.filter fun p=>p.comp==r.old with
 | []=>rw [hq] at hm;cases hm
 | [y]=>rw [hq,List.mem_singleton] at hm;rw [hm,hq];rfl
 | _::_::_=>rw [hq] at h1;simp at h1
theorem partsOf_none {r:Rl} {c:Cp} {ps:List Pt} (h:∀ (j:Nat) (x:Pt),ps[j]? = some x→(x.comp==r.old)=false):partsOf r c ps=[]:=by
 unfold partsOf
 rw [List.filter_eq_nil_iff.2 fun x hx=>by
  obtain ⟨j,hj⟩:=List.mem_iff_getElem?.1 hx
  rw [h j x hj];decide]
 rfl
theorem find_made {a b:Sc} {p:Pg} (h:ckE a b p=0) {i:Nat} {r:Rl} {c:Cp} (hr:p.rs[i]? = some r) (hc:b.cs[i]? = some c):findC b.cs r.nw=some c:=by
 obtain ⟨_,hb,_,_,hq⟩:=ckE_facts h
 have hz:(p.rs.zip b.cs)[i]? = some (r,c):=zip_two hr hc
 rw [((hq _ (cZ hz)).1).1]
 exact find_good (chkE_good hb).2 (cZ hc)
end Go.Proofs.YtopiioklkkiedaaGreatDoor
end
section
namespace Go.Proofs.YtopiioklkkiedaaGreatDoor
open Go Go.Lg Go.Lg.Fml Go.Lg.Fld Go.Lg.Arith
set_option maxRecDepth 100000
variable (X:Nat→Option Obj)
theorem eCheck (a b:Cp) (r:Rl) (ns:List Nm) (aad bad ead vad:Option Addr) (acap bcap ecap vcap:Nat) (hA:FieldsIn X aad a.fs) (hB:FieldsIn X bad b.fs) (hE:CodesIn X ead r.ex) (hN:NumsIn X vad ns) (hal:a.fs.length<4611686018427387904) (hbl:b.fs.length<4611686018427387904) (hcl:∀ c∈r.ex,c.length<1152921504606846976):
  PSpec Tryz.prog X 32 [Cx a aad acap,Cx b bad bcap,LPg r.nw r.old ead r.ex.length ecap,Lx vad ns.length vcap] (Ln .i64 (ckV a.fs b.fs r ns)):=by
 have hF:=lFit_any X aad vad acap vcap a.fs ns hA hal hN
 have hL:=Check_spec X bad bcap b.fs hB hbl
 have hR:=cRule X a b r aad bad ead acap bcap ecap hA hB hE hal hbl hcl
 refine cC Tryz.func32 rfl (by kernel_rfl) rfl rfl ?_
 intro C
 unfold ckV
 by_cases z1:fitErr a.fs ns=0
 case neg =>
  rw [if_neg z1]
  generalize fitErr a.fs ns=e at *
  (refine aA<|rgN<|aL O O O dO<|aL O O O dO<|aL O O O dO<|kas O<|aB<|aA<|aA<|rgN<|kfa O O ?_;refine kl1 O O O<|kmv O<|kca O O hF<|kas O<|aB<|aA<|rgN<|kmv O<|kne O O (r:=true) (cP z1)<|aB<|aE O ?_;refine aA<|rgN<|kmv O<|kas O<|aB<|aI ?_)
  exact ⟨[_],⟨O,trivial⟩,O⟩
 rw [if_pos z1]
 rw [z1] at hF
 by_cases z2:layErr b.fs=0
 case neg =>
  rw [if_neg z2]
  generalize layErr b.fs=e at *
  (refine aA<|rgN<|aL O O O dO<|aL O O O dO<|aL O O O dO<|kas O<|aB<|aA<|aA<|rgN<|kfa O O ?_;refine kl1 O O O<|kmv O<|kca O O hF<|kas O<|aB<|aA<|rgN<|kmv O<|kne O O (r:=false) O<|aB<|aF O ?_;refine aH ?_;refine aA<|aA<|rgN<|kfa O O ?_;refine kl1 O O O<|kca O O hL<|kas O<|aB<|aA<|rgN<|kmv O<|kne O O (r:=true) (cP z2)<|aB<|aE O ?_;refine aA<|rgN<|kmv O<|kas O<|aB<|aI ?_)
  exact ⟨[_],⟨O,trivial⟩,O⟩
 rw [if_pos z2]
 rw [z2] at hL
 by_cases z3:r.old=0
 ·rw [if_pos z3]
  (refine aA<|rgN<|aL O O O dO<|aL O O O dO<|aL O O O dO<|kas O<|aB<|aA<|aA<|rgN<|kfa O O ?_;refine kl1 O O O<|kmv O<|kca O O hF<|kas O<|aB<|aA<|rgN<|kmv O<|kne O O (r:=false) O<|aB<|aF O ?_;refine aH ?_;refine aA<|aA<|rgN<|kfa O O ?_;refine kl1 O O O<|kca O O hL<|kas O<|aB<|aA<|rgN<|kmv O<|kne O O (r:=false) O<|aB<|aF O ?_;refine aH ?_;refine aA<|aA<|rgN<|kfa O O ?_;refine kl1 O O O<|keq O O (r:=true) (cR z3)<|aB<|aE O ?_;refine aA<|rgN<|kas O<|aB<|aI ?_)
  exact ⟨[_],⟨O,trivial⟩,O⟩
 rw [if_neg z3]
 generalize ruE a.fs b.fs r=e at *
 (refine aA<|rgN<|aL O O O dO<|aL O O O dO<|aL O O O dO<|kas O<|aB<|aA<|aA<|rgN<|kfa O O ?_;refine kl1 O O O<|kmv O<|kca O O hF<|kas O<|aB<|aA<|rgN<|kmv O<|kne O O (r:=false) O<|aB<|aF O ?_;refine aH ?_;refine aA<|aA<|rgN<|kfa O O ?_;refine kl1 O O O<|kca O O hL<|kas O<|aB<|aA<|rgN<|kmv O<|kne O O (r:=false) O<|aB<|aF O ?_;refine aH ?_;refine aA<|aA<|rgN<|kfa O O ?_;refine kl1 O O O<|keq O O (r:=false) (cN z3)<|aB<|aF O ?_;refine aH ?_;refine aA<|rgN<|aK O O O dO ?_;refine aK O O O dO ?_;refine aK O O O dO ?_;refine kca O O hR<|kas O<|aB<|aI ?_)
 exact ⟨[_],⟨O,trivial⟩,O⟩
theorem eElem (f:Fl) (c:List Ins) (G:List (List Nm)) (cad fad:Option Addr) (ccap fc:Nat) (at_:Int) (hI:InsIn X cad c) (hc:c.length<1152921504606846976) (hG:FssIn X fad G) (hGl:G.length<4611686018427387904) (hrl:∀ r∈G,r.length<4611686018427387904) (hf2:∀ r∈G,∀ u∈r,In2 u.2) (hat : -9223372036854775808≤at_∧at_<9223372036854775808):
  PSpec Tryz.prog X 35 [Fx f,Lx cad c.length ccap,LEnv fad G.length fc at_] (exR (elX f.kind c G at_)):=by
 have hE:=gEval X c cad ccap hI hc fad fc G hG hGl hrl hf2 at_ hat
 refine cC Tryz.func35 rfl (by kernel_rfl) rfl (exR_closed _) ?_
 intro C
 cases hev:evX c G at_ with
 | error e =>
  have hne:=evX_err hev
  rw [show elX f.kind c G at_ = .error e by unfold elX;rw [hev]]
  rw [hev] at hE
  (refine aA<|rgN<|aL O O O dO<|aL O O O dO<|aP O dO ?_;refine kas O<|aB<|aA<|rgN<|kmv O<|aK O O O dO ?_;refine kca O O hE<|kmv O<|kex O O<|kex O O<|aP O dO ?_;refine aM O O O O O O dO ?_;refine kas O<|aB<|aA<|aG<|aA<|rgN<|kmv O<|kne O O (r:=true) (cP hne)<|kas O<|aB<|aE O ?_;refine aA<|rgN<|aT O O (by exact O) (by exact nl3 O O O O) dO ?_;refine kmv O<|aM O O O O O O dO ?_;refine kas O<|aB<|aI ?_)
  exact ⟨[_,_],⟨⟨_,_,O,O,O,.inl ⟨AggT.h,O⟩⟩,O,trivial⟩,O⟩
 | ok v =>
 have hv2:In2 v.2:=evX_two (fun x hx=>(hI.small x hx).2.2.2) hf2 hat.2 hev
 rw [hev] at hE
 cases hq:fitB f.kind v.1 v.2 with
 | false =>
  have hFt:=Fits_spec X f.kind v.1 v.2 hv2 false hq
  rw [show elX f.kind c G at_ = .error 3 by unfold elX;rw [hev];exact if_neg (by rw [hq];decide)]
  (refine aA<|rgN<|aL O O O dO<|aL O O O dO<|aP O dO ?_;refine kas O<|aB<|aA<|rgN<|kmv O<|aK O O O dO ?_;refine kca O O hE<|kmv O<|kex O O<|kex O O<|aP O dO ?_;refine aM O O O O O O dO ?_;refine kas O<|aB<|aA<|aG<|aA<|rgN<|kmv O<|kne O O (r:=false) O<|kas O<|aB<|aF O ?_;refine aA<|rgN<|kfa O O ?_;refine kl1 O O O<|aK O O O dO ?_;refine kca O O hFt<|aV O O dO<|kas O<|aB<|aE O ?_;refine aA<|rgN<|aT O O (by exact O) (by exact nl3 O O O O) dO ?_;refine aM O O O O O O dO ?_;refine kas O<|aB<|aI ?_)
  exact ⟨[_,_],⟨⟨_,_,O,O,O,.inl ⟨AggT.h,O⟩⟩,O,trivial⟩,O⟩
 | true =>
  have hFt:=Fits_spec X f.kind v.1 v.2 hv2 true hq
  rw [show elX f.kind c G at_ = .ok v by unfold elX;rw [hev];exact if_pos hq]
  (refine aA<|rgN<|aL O O O dO<|aL O O O dO<|aP O dO ?_;refine kas O<|aB<|aA<|rgN<|kmv O<|aK O O O dO ?_;refine kca O O hE<|kmv O<|kex O O<|kex O O<|aP O dO ?_;refine aM O O O O O O dO ?_;refine kas O<|aB<|aA<|aG<|aA<|rgN<|kmv O<|kne O O (r:=false) O<|kas O<|aB<|aF O ?_;refine aA<|rgN<|kfa O O ?_;refine kl1 O O O<|aK O O O dO ?_;refine kca O O hFt<|aV O O dO<|kas O<|aB<|aF O ?_;refine aH ?_;refine aA<|rgN<|aK O O O dO ?_;refine aM O O O O O O dO ?_;refine kas O<|aB<|aI ?_)
  exact ⟨[_,_],⟨⟨_,_,O,O,O,.inl ⟨AggT.h,O⟩⟩,O,trivial⟩,O⟩
theorem sigN_one {rs:List Rl} {i:Nat} {r:Rl} (hr:rs[i]? = some r) (s:Nat):sigN (rs.take (i+1)) s=if Sg.hasB s r.old=true then Sg.withN (sigN (rs.take i) s) r.nw else sigN (rs.take i) s:=by
 unfold sigN
 rw [take_snoc hr,List.foldl_append]
 rfl
theorem eSig' (va vb:Int) (rs:List Rl) (ad:Option Addr) (cap s:Nat) (hp:RulesIn X ad rs) (hl:rs.length<4611686018427387904) (hs:s<4294967296):
  PSpec Tryz.prog X 20 [LPg va vb ad rs.length cap,Ln .u32 (s:Nat)] (Ln .u32 (sigN rs s:Nat)):=by
 refine cC Tryz.func20 rfl (by kernel_rfl) rfl rfl ?_
 intro C
 (refine aA<|rgN<|aL O O O dO<|kas O<|aB<|aA<|rgN<|kas O<|aB<|aA<|aA<|rgN<|kfa O O ?_;refine kl1 O O O<|aQ O bZ O dO ?_;refine kmv O<|aB<|aG ?_)
 refine cG (fun m σ=>∃ i:Nat,i≤rs.length∧m=rs.length-i∧σ=⟨[(1,Ln .u32 (s:Nat)),(5,Ln .u32 (sigN (rs.take i) s:Nat)),(9,Lx ad rs.length cap),(10,Ln .i64 (rs.length:Nat)),(11,Ln .i64 (i:Nat))],[],X⟩) rs.length
  ⟨⟨[(1,Ln .u32 (s:Nat)),(5,Ln .u32 (0:Nat)),(9,Lx ad rs.length cap),(10,Ln .i64 (rs.length:Nat)),(11,Ln .i64 (0:Nat))],[],X⟩,Le.of (by exact ⟨rfl,rfl,rfl,rfl,rfl,trivial⟩) (by exact trivial) (by exact rfl) (by exact rfl) (by repeat' (first|refine bS ?_ ?_|rfl|exact bU|exact bT|exact bV rfl)),0,by omega,by omega,rfl⟩ ?_
 rintro m σ ⟨i,hi,rfl,rfl⟩
 by_cases hlt:i<rs.length
 case neg =>
  have e:i=rs.length:=by omega
  subst e
  rw [dC]
  (refine aA<|rgN<|klt O O (cK (by omega))<|aB<|aA<|aF O ?_;refine aJ<|aA<|rgN<|kmv O<|kas O<|aB<|aI ?_)
  exact ⟨[_],⟨O,trivial⟩,O⟩
 obtain ⟨r,hr⟩:∃ r,rs[i]? = some r:=⟨_,cU hlt⟩
 obtain ⟨blk,off,arr,el,fr,ead,ecap,rfl,hX,hsz,hcs,_,_,_,_⟩:=hp.get hr
 have hio:off+Int.toNat (i:Int)*3=off+i*3:=by simp
 have hadd:IntKind.i64.wrap (((i:Nat):Int)+1)=((i+1:Nat):Int):=by rw [cE (by omega)];omega
 have hn:=sigN_one hr s
 have hlt0:=sigN_lt (rs.take i) s
 generalize sigN (rs.take i) s=o at *
 have hst2:∀ q:Nat,sigN (rs.take (i+1)) s=q→(⟨[(1,Ln .u32 (s:Nat)),(5,Ln .u32 (q:Nat)),(9,Lx (some ⟨blk,off,none⟩) rs.length cap),(10,Ln .i64 (rs.length:Nat)),(11,Ln .i64 (i+1:Nat))],[],X⟩:St)=⟨[(1,Ln .u32 (s:Nat)),(5,Ln .u32 (sigN (rs.take (i+1)) s:Nat)),(9,Lx (some ⟨blk,off,none⟩) rs.length cap),(10,Ln .i64 (rs.length:Nat)),(11,Ln .i64 (i+1:Nat))],[],X⟩:=fun q h=>by rw [h]
 have hH:=gHas X s hs r.old
 cases h1:Sg.hasB s r.old with
 | false =>
  rw [h1] at hH hn
  rw [if_neg (by decide)] at hn
  (refine aA<|rgN<|klt O O (cL (by omega))<|aB<|aA<|aE O ?_;refine aH ?_;refine aA<|aG<|aA<|rgN<|aR O O bZ (by omega) hio dO<|aY O hX (by kernel_rfl) hsz hcs dO<|aP O dO ?_;refine aM O O O O O O dO ?_;refine aB<|aA<|rgN<|kmv O<|kfa O O ?_;refine kl1 O O O<|kca O O hH<|aB<|aF O ?_;refine aH ?_;refine rgN<|kad O O hadd<|kmv O<|aB ?_)
  exact ⟨_,_,by omega,Le.of (by exact ⟨O,O,O,O,O,trivial⟩) (by exact trivial) (by exact O) (by exact O) (by repeat' (first|refine bS ?_ ?_|rfl|exact bU|exact bT|exact bV O)),i+1,by omega,O,hst2 _ hn⟩
 | true =>
  rw [h1] at hH hn
  rw [if_pos rfl] at hn
  have hW:=gWith X o (by omega) r.nw
  generalize Sg.withN o r.nw=q at *
  (refine aA<|rgN<|klt O O (cL (by omega))<|aB<|aA<|aE O ?_;refine aH ?_;refine aA<|aG<|aA<|rgN<|aR O O bZ (by omega) hio dO<|aY O hX (by kernel_rfl) hsz hcs dO<|aP O dO ?_;refine aM O O O O O O dO ?_;refine aB<|aA<|rgN<|kmv O<|kfa O O ?_;refine kl1 O O O<|kca O O hH<|aB<|aE O ?_;refine rgN<|kmv O<|kfa O O ?_;refine kl1 O O O<|kca O O hW<|kas O<|aB<|rgN<|kad O O hadd<|kmv O<|aB ?_)
  exact ⟨_,_,by omega,Le.of (by exact ⟨O,O,O,O,O,trivial⟩) (by exact trivial) (by exact O) (by exact O) (by repeat' (first|refine bS ?_ ?_|rfl|exact bU|exact bT|exact bV O)),i+1,by omega,O,hst2 _ hn⟩
theorem efind1 (p:Pt) (vad:Option Addr) (vcap:Nat) (id:Int) {b:Nat} {arr:Array Value} {el:TypeId} {fr:Nat×Nat} (hX:X b=some (.cells arr el fr)) (h0:arr[0]? = some (.int .i64 id)):
  PSpec Tryz.prog X 90 [Px p vad vcap,Vp b] (Lb (p.comp==id)):=by
 refine cC Tryz.func90 rfl (by kernel_rfl) rfl rfl ?_
 intro C
 (refine aA<|rgN<|aL O O O dO<|kas O<|aB<|aA<|rgN<|kfa O O ?_;refine kl1 O O O<|aW O hX O h0 dO<|keq O O O<|kas O<|aB<|aI ?_)
 exact ⟨[_],⟨O,trivial⟩,O⟩
theorem idxP_spec (ad:Option Addr) (cap:Nat) (ps:List Pt) (hin:PartsC X ad ps) (hbig:ps.length<4611686018427387904) (f:FuncId) (caps:List Value) (p:Pt→Bool)
  (hp:∀ c∈ps,∀ vad vcap,PSpec Tryz.prog X f ([Px c vad vcap]++caps.map fun v=>.sv (.one (.val v))) (Lb (p c))):
  PSpec Tryz.prog X 89 [Lx ad ps.length cap,Lf f caps] (Ln .i64 (findI p ps)):=by
 refine cC Tryz.func89 rfl (by kernel_rfl) rfl rfl ?_
 intro C
 (refine aA<|rgN<|kas O<|aB<|aA<|aA<|rgN<|kmv O<|aQ O bZ O dO ?_;refine kmv O<|aB<|aG ?_)
 refine cG (fun m σ=>∃ i:Nat,i≤ps.length∧m=ps.length-i∧(∀ (j:Nat) (y:Pt),j<i→ps[j]? = some y→p y=false)∧σ=⟨[(0,Lx ad ps.length cap),(1,Lf f caps),(7,Ln .i64 (ps.length:Nat)),(8,Ln .i64 (i:Nat))],[],X⟩) ps.length
  ⟨_,Le.of (by exact ⟨rfl,rfl,rfl,rfl,trivial⟩) (by exact trivial) (by exact rfl) (by exact rfl) (by exact rfl),0,by omega,by omega,fun j y hj=>absurd hj (by omega),rfl⟩ ?_
 rintro m σ ⟨i,hi,rfl,hpre,rfl⟩
 by_cases hlt:i<ps.length
 ·obtain ⟨c,hc⟩:∃ c,ps[i]? = some c:=⟨_,cU hlt⟩
  obtain ⟨blk,off,arr,el,fr,vad,vcap,rfl,hX,hsz,hcs,_,_,_,_⟩:=hin.get hc
  have hio:off+Int.toNat (i:Int)*2=off+i*2:=by simp
  have hP:=hp c (cZ hc) vad vcap
  cases hpc:p c with
  | true =>
   rw [hpc] at hP
   rw [findI_some hpre hc hpc]
   (refine aA<|rgN<|klt O O (cL (by omega))<|aB<|aA<|aE O ?_;refine aH ?_;refine aA<|aG<|aA<|rgN<|kmv O<|kas O<|aB<|aA<|rgN<|kmv O<|kmv O<|kmv O<|aR O O bZ (by omega) hio dO<|aY O hX (by kernel_rfl) hsz hcs dO ?_;refine K.callF O O O hP dO ?_;refine aB<|aE O ?_;refine aA<|rgN<|kmv O<|kas O<|aB<|aI ?_)
   exact ⟨[_],⟨O,trivial⟩,O⟩
  | false =>
   rw [hpc] at hP
   (refine aA<|rgN<|klt O O (cL (by omega))<|aB<|aA<|aE O ?_;refine aH ?_;refine aA<|aG<|aA<|rgN<|kmv O<|kas O<|aB<|aA<|rgN<|kmv O<|kmv O<|kmv O<|aR O O bZ (by omega) hio dO<|aY O hX (by kernel_rfl) hsz hcs dO ?_;refine K.callF O O O hP dO ?_;refine aB<|aF O ?_;refine aH ?_;refine rgN<|kad O O (cE (by omega))<|kmv O<|aB ?_)
   exact ⟨_,_,by omega,Le.of (by exact ⟨O,O,O,O,trivial⟩) (by exact trivial) (by exact O) (by exact O) (by exact O),i+1,by omega,O,(fun j y hj hy=>by
    by_cases e:j=i
    ·subst e;rw [hc] at hy;cases hy;exact hpc
    ·exact hpre j y (by omega) hy),rfl⟩
 ·rw [findI_none fun j y hy=>hpre j y (by have:=(List.getElem?_eq_some_iff.1 hy).1;omega) hy]
  (refine aA<|rgN<|klt O O (cK (by omega))<|aB<|aA<|aF O ?_;refine aJ<|aA<|rgN<|kas O<|aB<|aI ?_)
  exact ⟨[_],⟨O,trivial⟩,O⟩
abbrev SP0:SV:=.agg [.val (.int .i64 0),.val (.slice none 0 0)]
abbrev SPx (p:Pt) (vad:Option Addr) (vcap:Nat):SV:=.agg [.val (.int .i64 p.comp),.val (.slice vad p.val.length vcap)]
theorem efind_no (ad:Option Addr) (cap:Nat) (ps:List Pt) (id:Int) (hin:PartsC X ad ps) (hbig:ps.length<4611686018427387904) (hno:∀ (j:Nat) (y:Pt),ps[j]? = some y→(y.comp==id)=false):
  PSpec Tryz.prog X 47 [Lx ad ps.length cap,Ln .i64 id] (.tup [SP0,Sb false]):=by
 refine cC Tryz.func47 rfl (by kernel_rfl) rfl rfl ?_
 intro C
 (refine aA<|rgN<|K.box1 O O O dO<|aP O dO ?_;refine kas O<|aB<|aA ?_)
 refine LWP.le (σ':=⟨[(3,Lp 3),(0,Lx ad ps.length cap),(4,Lp 4)],[(3,some ⟨3,[Value.int .i64 id].map .val,false⟩),(4,some ⟨59,[.val (.int .i64 0),.val (.slice none 0 0)],false⟩)],X⟩) (Le.of (by exact ⟨O,O,O,trivial⟩) (by exact ⟨O,O,trivial⟩) (by exact O) (by exact O) (by repeat' (first|refine bS ?_ ?_|rfl|exact bU|exact bT|exact bV O))) ?_
 refine LWP.freezePtr (by rfl) (by rfl) (by rfl) fun b arr0 fr0 hn _ h0 => ?_
 have hin':=hin.mono (cF (o:=.cells arr0 3 fr0) hn)
 have hp:=fun (c:Pt) (_:c∈ps) (vad:Option Addr) (vcap:Nat)=>efind1 _ c vad vcap id (cJ X b (.cells arr0 3 fr0)) (at_zero h0)
 have hq:=idxP_spec _ ad cap ps hin' hbig 90 [.pointer (some ⟨b,0,none⟩)] (fun c=>c.comp==id) hp
 rw [findI_none hno] at hq
 (refine rgN<|kmv O<|K.makeFunc O O dO ?_;refine kca O O hq<|kas O<|aB<|aA<|aA<|rgN<|kmv O<|klt O O O<|aB<|aE O ?_;refine aA<|rgN<|aT O O (by exact O) (by exact nl2 O O O) dO ?_;refine aM O O O O O O dO ?_;refine kas O<|aB<|aI ?_)
 exact ⟨[_,_],⟨⟨_,_,O,O,O,.inl ⟨AggT.h,O⟩⟩,O,trivial⟩,O⟩
theorem efind_yes (ad:Option Addr) (cap:Nat) (ps:List Pt) (id:Int) (hin:PartsC X ad ps) (hbig:ps.length<4611686018427387904) {i:Nat} {x:Pt} (hpre:∀ (j:Nat) (y:Pt),j<i→ps[j]? = some y→(y.comp==id)=false) (hx:ps[i]? = some x) (he:x.comp=id)
  {blk off:Nat} {arr:Array Value} {el:TypeId} {fr:Nat×Nat} {vad:Option Addr} {vcap:Nat} (had:ad=some ⟨blk,off,none⟩) (hX:X blk=some (.cells arr el fr)) (hsz:off+i*2+2≤arr.size) (hcs:((arr.toList.drop (off+i*2)).take 2).map CV.val=[.val (.int .i64 x.comp),.val (.slice vad x.val.length vcap)]):
  PSpec Tryz.prog X 47 [Lx ad ps.length cap,Ln .i64 id] (.tup [SPx x vad vcap,Sb true]):=by
 subst had
 have hi:=(List.getElem?_eq_some_iff.1 hx).1
 refine cC Tryz.func47 rfl (by kernel_rfl) rfl rfl ?_
 intro C
 (refine aA<|rgN<|K.box1 O O O dO<|aP O dO ?_;refine kas O<|aB<|aA ?_)
 refine LWP.le (σ':=⟨[(3,Lp 3),(0,Lx (some ⟨blk,off,none⟩) ps.length cap),(4,Lp 4)],[(3,some ⟨3,[Value.int .i64 id].map .val,false⟩),(4,some ⟨59,[.val (.int .i64 0),.val (.slice none 0 0)],false⟩)],X⟩) (Le.of (by exact ⟨O,O,O,trivial⟩) (by exact ⟨O,O,trivial⟩) (by exact O) (by exact O) (by repeat' (first|refine bS ?_ ?_|rfl|exact bU|exact bT|exact bV O))) ?_
 refine LWP.freezePtr (by rfl) (by rfl) (by rfl) fun b arr0 fr0 hn _ h0 => ?_
 have hin':=hin.mono (cF (o:=.cells arr0 3 fr0) hn)
 have hp:=fun (c:Pt) (_:c∈ps) (vad:Option Addr) (vcap:Nat)=>efind1 _ c vad vcap id (cJ X b (.cells arr0 3 fr0)) (at_zero h0)
 have hq:=idxP_spec _ _ cap ps hin' hbig 90 [.pointer (some ⟨b,0,none⟩)] (fun c=>c.comp==id) hp
 rw [findI_some hpre hx (cR he)] at hq
 have hio:off+Int.toNat (i:Int)*2=off+i*2:=by simp
 have hX':=cF (o:=.cells arr0 3 fr0) hn _ _ hX
 (refine rgN<|kmv O<|K.makeFunc O O dO ?_;refine kca O O hq<|kas O<|aB<|aA<|aA<|rgN<|kmv O<|klt O O (cK (by omega))<|aB<|aF O ?_;refine aH ?_;refine aA<|rgN<|kmv O<|kmv O<|aR O O bZ (by omega) hio dO<|aY O hX' (by kernel_rfl) hsz hcs dO<|aM O O O O O O dO ?_;refine kas O<|aB<|aI ?_)
 exact ⟨[_,_],⟨⟨_,_,O,O,O,.inl ⟨AggT.h,O⟩⟩,O,trivial⟩,O⟩
end Go.Proofs.YtopiioklkkiedaaGreatDoor
end
section
namespace Go.Proofs.YtopiioklkkiedaaGreatDoor
open Go Go.Lg Go.Lg.Fml Go.Lg.Fld Go.Lg.Arith
set_option maxRecDepth 100000
def evR (e:Int) (L:List Nm):LV:=if e=0 then .tup [.one (.slc 1000001 0 L.length 3),Sn .i64 0] else .tup [Vnil,Sn .i64 e]
def evBx (e:Int) (L:List Nm):List (Nat×Option Box):=if e=0 then [nmsB 1000001 L true] else []
theorem startN_nat {fs:List Fl} (h:layErr fs=0) {i:Nat} (hi:i<fs.length):startN fs (i:Nat)=sumC (fs.take i):=by
 unfold startN
 rw [if_pos ⟨h,by omega,by omega⟩,dD]
variable (X:Nat→Option Obj)
set_option maxHeartbeats 6400000 in
theorem eSplit (a:List Fl) (ns:List Nm) (aad vad:Option Addr) (acap vcap:Nat) (hA:FieldsIn X aad a) (hac:a.length≤acap) (hN:NumsIn X vad ns) (hvc:ns.length≤vcap) (la:a.length≤12) (ln:ns.length<4611686018427387904) (z1:fitErr a ns=0):
  MSpec Tryz.prog X 33 [Lx aad a.length acap,Lx vad ns.length vcap] [] (.sv (.one (.slc 1000001 0 a.length 1))) [(1000001,some ⟨28,(subV vad vcap 0 a).map .val,false⟩)]:=by
 obtain ⟨z5,hns,_⟩:=fit_all z1
 obtain ⟨_,hoka,_⟩:=layErr_facts z5
 refine cD Tryz.func33 rfl (by kernel_rfl) rfl rfl (by exact (by repeat' (first|refine bS ?_ ?_|rfl|exact bU|exact bT|exact bV rfl))) rfl rfl ?_
 intro C
 have hmk:slcBuild Tryz.prog 94 a.length=some (List.replicate a.length (.slice none 0 0),1,28):=slcBuild_one (by kernel_rfl) (by kernel_rfl) (by omega)
 (refine aA<|rgN<|kas O<|aB<|aA<|rgN<|kmv O<|aQ O bZ O dO ?_;refine K.makeSlc (m:=a.length) (bytes:=24) O O hmk (by kernel_rfl) (by omega) O O dO<|kas O<|aB<|aA<|aA<|rgN<|kmv O<|aQ O bZ O dO ?_;refine kmv O<|aB<|aG ?_)
 refine cG (fun m σ=>∃ i:Nat,i≤a.length∧m=a.length-i∧σ=⟨[(0,Lx aad a.length acap),(1,Lx vad ns.length vcap),(5,.sv (.one (.slc 11 0 a.length 1))),(12,Lx aad a.length acap),(13,Ln .i64 (a.length:Nat)),(14,Ln .i64 (i:Nat))],[(11,some ⟨28,(subV vad vcap 0 (a.take i)++List.replicate (a.length-i) (Value.slice none 0 0)).map .val,false⟩)],X⟩) a.length
  ⟨_,Le.of (by exact ⟨rfl,rfl,rfl,rfl,rfl,rfl,trivial⟩) (by exact ⟨rfl,trivial⟩) (by exact rfl) (by exact rfl) (by repeat' (first|refine bS ?_ ?_|rfl|exact bU|exact bT|exact bV rfl)),0,by omega,by omega,rfl⟩ ?_
 rintro m σ ⟨i,hi,rfl,rfl⟩
 by_cases hlt:i<a.length
 case neg =>
  have e:i=a.length:=by omega
  subst e
  rw [dC,Nat.sub_self,show subV vad vcap 0 a++List.replicate 0 (Value.slice none 0 0)=subV vad vcap 0 a from dG _]
  (refine aA<|rgN<|klt O O (cK (by omega))<|aB<|aA<|aF O ?_;refine aJ<|aA<|rgN<|kmv O<|kas O<|aB<|aI ?_)
  exact ⟨[(1000001,11)],⟨[_],⟨rfl,trivial⟩,rfl⟩,(by repeat' (first|exact trivial|refine cM ⟨_,rfl,?_⟩ ?_|refine cM ⟨_,rfl⟩ ?_|rfl|exact bW _ _ _ _|exact bX _ _ _ _|exact bY rfl)),rfl,rfl⟩
 obtain ⟨f,hf⟩:∃ f,a[i]? = some f:=⟨_,cU hlt⟩
 have hSt:=Start_spec X aad acap a hac (i:Nat) (by omega) hA (by omega)
 rw [startN_nat z5 hlt] at hSt
 obtain ⟨fb,fo,farr,fel,ffr,rfl,hFX,hFz,hFc,_,_,g2⟩:=hA.cells hf
 have hio:fo+Int.toNat (i:Int)*3=fo+i*3:=by simp
 obtain ⟨hn1,hn8,hnc⟩:=sum_pos hoka hf
 have hst:=sum_take hf
 obtain ⟨u,hu⟩:∃ u,ns[0]? = some u:=⟨_,cU (by omega)⟩
 obtain ⟨vb,vo,varr,vel,vfr,rfl,_⟩:=hN.rows 0 (nmV u) (by rw [dI,hu];rfl)
 have hadd1:IntKind.i64.wrap (((sumC (a.take i):Nat):Int)+f.count)=((sumC (a.take i)+f.n:Nat):Int):=by rw [cE (by omega)];omega
 have hadd:IntKind.i64.wrap (((i:Nat):Int)+1)=((i+1:Nat):Int):=by rw [cE (by omega)];omega
 have hil:(subV (some ⟨vb,vo,none⟩) vcap 0 (a.take i)).length=i:=by rw [subV_len,cW];omega
 have hix:0+Int.toNat (i:Int)*1=i:=by rw [dD];omega
 have hroom:i+1≤((subV (some ⟨vb,vo,none⟩) vcap 0 (a.take i)++List.replicate (a.length-i) (Value.slice none 0 0)).map CV.val).length:=by rw [cT,cS,hil,dA];omega
 have hspl:splice ((subV (some ⟨vb,vo,none⟩) vcap 0 (a.take i)++List.replicate (a.length-i) (Value.slice none 0 0)).map CV.val) i [.val (.slice (some ⟨vb,vo+sumC (a.take i)*3,none⟩) f.n (vcap-sumC (a.take i)))]=(subV (some ⟨vb,vo,none⟩) vcap 0 (a.take (i+1))++List.replicate (a.length-(i+1)) (Value.slice none 0 0)).map CV.val:=by
  unfold splice
  rw [show a.length-i=(a.length-(i+1))+1 by omega,List.replicate_succ,take_snoc hf,subV_snoc,Nat.zero_add]
  simp only [dE,dJ]
  have hml:((subV (some ⟨vb,vo,none⟩) vcap 0 (a.take i)).map CV.val).length=i:=by rw [cT,hil]
  generalize (subV (some ⟨vb,vo,none⟩) vcap 0 (a.take i)).map CV.val=R at *
  rw [← hml,List.take_left,List.drop_length_add_append]
  simp [subA]
 (refine aA<|rgN<|klt O O (cL (by omega))<|aB<|aA<|aE O ?_;refine aH ?_;refine aA<|aG<|aA<|rgN<|kmv O<|aR O O bZ (by omega) hio dO<|aY O hFX (by kernel_rfl) hFz hFc dO<|aP O dO ?_;refine kas O<|aM O O O O O O dO ?_;refine aB<|aA<|rgN<|kmv O<|kmv O<|kca O O hSt<|kas O<|aB<|rgN<|kmv O<|kmv O<|kmv O<|kmv O<|kmv O ?_;refine kfa O O ?_;refine kl1 O O O<|kad O O hadd1<|K.cut2X (sz:=3) O O O bZ (by omega) (by omega) (.inl (by omega)) hvc O (Nat.add_sub_cancel_left ..) O dO ?_;refine K.indexSlc O O (by omega) hix dO ?_;refine K.store O O O O (by kernel_rfl) hroom hspl dO<|aB<|rgN<|kad O O hadd<|kmv O<|aB ?_)
 exact ⟨_,_,by omega,Le.of (by exact ⟨O,O,O,O,O,O,trivial⟩) (by exact ⟨O,trivial⟩) (by exact O) (by exact O) (by repeat' (first|refine bS ?_ ?_|rfl|exact bU|exact bT|exact bV O)),i+1,by omega,O,O⟩
end Go.Proofs.YtopiioklkkiedaaGreatDoor
end
