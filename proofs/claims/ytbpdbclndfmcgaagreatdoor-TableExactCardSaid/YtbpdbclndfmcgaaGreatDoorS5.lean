/- A piece of a proof over this program: contracts of its functions, and a logic to prove them by. -/
import Derived.Test.YtbpdbclndfmcgaaGreatDoorS3
import Derived.Test.YtbpdbclndfmcgaaGreatDoorS4
import Derived.Lib.SmallJoins
import Derived.Test.YtbpdbclndfmcgaaGreatDoorRows
import Derived.Lib.ItoaLen
section
set_option maxHeartbeats 12800000
set_option maxRecDepth 100000
namespace Go.Lg.Fld
open Go Go.Lg
theorem leB_of:∀ (l:List UInt8),leB l.length (le l)=l
 | []=>rfl
 | c::t=>by
  have ih:=leB_of t
  have hc:=c.toNat_lt
  have h1:(c.toNat+256*le t)%256=c.toNat:=by omega
  have h2:(c.toNat+256*le t)/256=le t:=by omega
  show UInt8.ofNat ((c.toNat+256*le t)%256)::leB t.length ((c.toNat+256*le t)/256)=c::t
  rw [h1,h2,ih,UInt8.ofNat_toNat]
theorem wd_nb {k:Int} {v:Nat} (h:kK k=true) (hv:v<256^kW k):wdK k (nbK k v)=v:=by
 obtain ⟨h1,h2,h3⟩:=kM_facts h
 have hv:v<kM k:=hv
 unfold wdK nbK
 split
 ·have e:((v:Int)-(kM k:Int))%(kM k:Int)=v:=by
   rw [← Int.add_emod_right,Int.sub_add_cancel]
   exact Int.emod_eq_of_lt V3 V3
  rw [e];omega
 ·rw [Int.emod_eq_of_lt V3 V3];omega
end Go.Lg.Fld
namespace Go.Proofs.YtbpdbclndfmcgaaGreatDoor
open Go Go.Lg Go.Lg.Fld
set_option maxRecDepth 100000
abbrev ApartE (es:List (Int×Nat)):Prop:=es.Pairwise fun e e'=>e.2+kW e.1≤e'.2
theorem elems_apart:∀ (l:List Fl) (a:Nat),l.all Fl.ok=true→ApartE (elemsAt a l)
 | [],_,_=>List.Pairwise.nil
 | f::t,a,h=>by
  have h0:=h
  simp only [List.all_cons,Bool.and_eq_true] at h
  unfold ApartE
  simp only [elemsAt]
  rw [List.pairwise_append]
  refine ⟨?_,elems_apart t _ h.2,?_⟩
  ·rw [List.pairwise_map]
   refine List.Pairwise.imp (R:=fun i j=>i<j) ?_ List.pairwise_lt_range
   intro i j hij
   have:f.w*i+f.w≤f.w*j:=by rw [← Nat.mul_succ];exact Nat.mul_le_mul_left _ hij
   show roundUp a f.w+f.w*i+f.w≤roundUp a f.w+f.w*j
   omega
  ·intro e he e' he'
   obtain ⟨i,hi,rfl⟩:=List.mem_map.1 he
   have hi:=List.mem_range.1 hi
   have h2:=(elems_in t _ h.2 e' he').2.1
   have:f.w*i+f.w≤f.w*f.n:=by rw [← Nat.mul_succ];exact Nat.mul_le_mul_left _ hi
   show roundUp a f.w+f.w*i+f.w≤e'.2
   omega
theorem setAt_take {b s:List UInt8} {p q:Nat} (hq:q≤p) (hp:p≤b.length):(setAt b p s).take q=b.take q:=by
 unfold setAt
 rw [dJ,List.take_append_of_le_length (by rw [cX];omega),List.take_take,Nat.min_eq_left hq]
theorem setAt_read {b s:List UInt8} {p:Nat} (hp:p+s.length≤b.length):((setAt b p s).drop p).take s.length=s:=by
 unfold setAt
 rw [dJ,List.drop_append_of_le_length (by rw [cX];omega),List.drop_of_length_le (by rw [cX];omega),List.nil_append,List.take_left]
theorem packE_take {T q:Nat}:∀ {es:List (Int×Nat)} {ns:List (Bool×Int)} {b:List UInt8},Within es T→(∀ e∈es,q≤e.2)→b.length=T→(packE es ns b).take q=b.take q
 | [],_,b,_,_,_=>rfl
 | _::_,[],b,_,_,_=>rfl
 | e::t,v::u,b,hw,hq,hb=>by
  have h1:=(hw e V24).2
  have hl:(setAt b e.2 (numB e.1 v)).length=T:=by rw [setAt_len (by rw [numB_len];omega)];exact hb
  show (packE t u (setAt b e.2 (numB e.1 v))).take q=b.take q
  rw [packE_take (fun x hx=>hw x (by simp [hx])) (fun x hx=>hq x (by simp [hx])) hl]
  exact setAt_take (hq e V24) V3
theorem drop_take_eq {x y:List UInt8} {p w:Nat} (h:x.take (p+w)=y.take (p+w)):(x.drop p).take w=(y.drop p).take w:=by
 have e:∀ l:List UInt8,(l.drop p).take w=(l.take (p+w)).drop p:=fun l=>by rw [List.drop_take,Nat.add_sub_cancel_left]
 rw [e,e,h]
theorem setAt_get {b s:List UInt8} {p:Nat} (h:p+s.length≤b.length) (i:Nat):(setAt b p s)[i]? = if p≤i∧i<p+s.length then s[i-p]? else b[i]? := by
 unfold setAt
 have hl:(b.take p).length=p:=by rw [cX];omega
 by_cases h1:i<p
 ·rw [if_neg V3,dJ,dN V3,List.getElem?_take,if_pos h1]
 ·by_cases h2:i<p+s.length
  ·rw [if_pos ⟨by omega,h2⟩,dJ,List.getElem?_append_right V3,hl,dN V3]
  ·rw [if_neg V3,List.getElem?_append_right (by rw [cT];omega),cT,hl,List.getElem?_drop]
   congr 1
   omega
theorem nsV_splice:∀ (zs:List Int) (k:Nat) (z:Int),k<zs.length→splice ((nsV zs).map CV.val) (k*3) (cQ z)=(nsV (zs.set k z)).map CV.val
 | [],k,z,h=>by simp at h
 | y::t,0,z,_=>by
  have e:(nsV (y::t)).map CV.val=cQ y++(nsV t).map CV.val:=by simp [nsV,nmV,qn]
  have e2:(nsV (z::t)).map CV.val=cQ z++(nsV t).map CV.val:=by simp [nsV,nmV,qn]
  show splice ((nsV (y::t)).map CV.val) (0*3) (cQ z)=(nsV (z::t)).map CV.val
  rw [e,e2]
  rfl
 | y::t,k+1,z,h=>by
  have ih:=nsV_splice t k z V29
  have e:(nsV (y::t)).map CV.val=cQ y++(nsV t).map CV.val:=by simp [nsV,nmV,qn]
  have e2:(nsV (y::t.set k z)).map CV.val=cQ y++(nsV (t.set k z)).map CV.val:=by simp [nsV,nmV,qn]
  show splice ((nsV (y::t)).map CV.val) ((k+1)*3) (cQ z)=(nsV (y::t.set k z)).map CV.val
  rw [e,e2,← ih]
  unfold splice
  rw [show (k+1)*3=3+k*3 by omega]
  have l3:(cQ y).length=3:=rfl
  have l3':(cQ z).length=3:=rfl
  rw [l3',List.take_append,List.drop_append,l3,List.take_of_length_le (by rw [l3];omega),List.drop_of_length_le (by rw [l3];omega)]
  rw [show 3+k*3-3=k*3 by omega,show 3+k*3+3-3=k*3+3 by omega]
  simp only [dJ,List.nil_append]
def gapsB:Nat→List (Int×Nat)→List UInt8→Bool
 | a,[],s=>blankB (s.drop a)
 | a,e::t,s=>blankB ((s.drop a).take (e.2-a))&&gapsB (e.2+kW e.1) t s
theorem blank_at {l:List UInt8} (h:blankB l=true) {i:Nat} {c:UInt8} (hi:l[i]? = some c):c=0:=by
 have:=List.all_eq_true.1 h c (dA hi)
 simpa using this
theorem blank_of {l:List UInt8} (h:∀ (i:Nat) (c:UInt8),l[i]? = some c→c=0):blankB l=true:=by
 unfold blankB
 refine List.all_eq_true.2 fun c hc => ?_
 obtain ⟨i,hi⟩:=List.getElem?_of_mem hc
 rw [h i c hi]
 rfl
theorem numB_read {s:List UInt8} {e:Int×Nat} (hk:kK e.1=true) (h:e.2+kW e.1≤s.length):numB e.1 (qn (rdE s e))=(s.drop e.2).take (kW e.1):=by
 have hl:((s.drop e.2).take (kW e.1)).length=kW e.1:=by rw [cX,cY];omega
 have hb:=le_lt ((s.drop e.2).take (kW e.1))
 rw [hl] at hb
 show leB (kW e.1) (wdK e.1 (zv (qn (rdE s e)).1 (qn (rdE s e)).2))=_
 rw [zv_qn]
 unfold rdE
 rw [wd_nb hk hb]
 have h2:=leB_of ((s.drop e.2).take (kW e.1))
 rw [hl] at h2
 exact h2
theorem pre_get {s:List UInt8} {a T:Nat} (hs:s.length=T) (ha:a≤T) (i:Nat):(s.take a++List.replicate (T-a) (0:UInt8))[i]? = if i<a then s[i]? else if i<T then some 0 else none:=by
 have hl:(s.take a).length=a:=by rw [cX];omega
 by_cases h1:i<a
 ·rw [if_pos h1,dN V3,List.getElem?_take,if_pos h1]
 ·rw [if_neg h1,List.getElem?_append_right V3,hl,List.getElem?_replicate]
  by_cases h2:i<T
  ·rw [if_pos h2,if_pos V3]
  ·rw [if_neg h2,if_neg V3]
theorem gaps_pack {T:Nat} {s:List UInt8} (hs:s.length=T):∀ {es:List (Int×Nat)} {a:Nat},Within es T→ApartE es→(∀ e∈es,a≤e.2)→a≤T →
  (packE es ((es.map (rdE s)).map qn) (s.take a++List.replicate (T-a) 0)==s)=gapsB a es s
 | [],a,_,_,_,ha=>by
  show (s.take a++List.replicate (T-a) 0==s)=blankB (s.drop a)
  cases hb:blankB (s.drop a) with
  | true =>
   refine cS (List.ext_getElem? fun i => ?_)
   rw [pre_get hs ha]
   by_cases h1:i<a
   ·rw [if_pos h1]
   ·rw [if_neg h1]
    by_cases h2:i<T
    ·rw [if_pos h2]
     obtain ⟨c,hc⟩:∃ c,s[i]? = some c:=wg V3
     rw [hc,blank_at (c:=c) hb (i:=i-a) (by rw [List.getElem?_drop,Nat.add_sub_cancel' (by omega)];exact hc)]
    ·rw [if_neg h2,List.getElem?_eq_none V3]
  | false =>
   refine cO fun e => ?_
   rw [blank_of (fun i c hc => ?_)] at hb
   ·cases hb
   ·rw [List.getElem?_drop] at hc
    have hi:=(wl hc)
    rw [← e,pre_get hs ha,if_neg (by omega),if_pos (by omega)] at hc
    exact (Option.some.inj hc).symm
 | e::t,a,hw,hp,hge,ha=>by
  have he:=hw e V24
  have hae:=hge e V24
  have h2:∀ x∈t,e.2+kW e.1≤x.2:=(List.pairwise_cons.1 hp).1
  have hnb:=numB_read (s:=s) he.1 (by rw [hs];exact he.2)
  have hbl:((s.drop e.2).take (kW e.1)).length=kW e.1:=by rw [cX,cY];omega
  have hl0:(s.take a++List.replicate (T-a) (0:UInt8)).length=T:=by rw [cT,cX,dB];omega
  show (packE t ((t.map (rdE s)).map qn) (setAt (s.take a++List.replicate (T-a) 0) e.2 (numB e.1 (qn (rdE s e))))==s)=(blankB ((s.drop a).take (e.2-a))&&gapsB (e.2+kW e.1) t s)
  rw [hnb]
  cases hb:blankB ((s.drop a).take (e.2-a)) with
  | true =>
   rw [Bool.true_and,← gaps_pack hs (fun x hx=>hw x (by simp [hx])) (List.pairwise_cons.1 hp).2 h2 he.2]
   congr 2
   refine List.ext_getElem? fun i => ?_
   rw [setAt_get (by rw [hl0,hbl];exact he.2),pre_get hs ha,pre_get hs he.2,hbl]
   by_cases c1:e.2≤i∧i<e.2+kW e.1
   ·rw [if_pos c1,if_pos c1.2,List.getElem?_take,if_pos V3,List.getElem?_drop,Nat.add_sub_cancel' c1.1]
   ·rw [if_neg c1]
    by_cases c2:i<a
    ·rw [if_pos c2,if_pos V3]
    ·rw [if_neg c2]
     by_cases c3:i<e.2+kW e.1
     ·rw [if_pos c3,if_pos V3]
      obtain ⟨c,hc⟩:∃ c,s[i]? = some c:=wg V3
      rw [hc,blank_at (c:=c) hb (i:=i-a) (by rw [List.getElem?_take,if_pos (by omega),List.getElem?_drop,Nat.add_sub_cancel' (by omega)];exact hc)]
     ·rw [if_neg c3]
  | false =>
   rw [Bool.false_and]
   refine cO fun h => ?_
   have hls:(setAt (s.take a++List.replicate (T-a) 0) e.2 ((s.drop e.2).take (kW e.1))).length=T:=by rw [setAt_len (by rw [hl0,hbl];exact he.2)];exact hl0
   have h3:=packE_take (ns:=(t.map (rdE s)).map qn) (q:=e.2) (fun x hx=>hw x V28) (fun x hx=>Nat.le_trans (Nat.le_add_right _ _) (h2 x hx)) hls
   rw [h,setAt_take (dK _) (by rw [hl0];omega)] at h3
   rw [blank_of (fun i c hc => ?_)] at hb
   ·cases hb
   ·rw [List.getElem?_take] at hc
    split at hc
    ·rename_i hi
     rw [List.getElem?_drop] at hc
     have h4:=congrArg (fun l=>l[a+i]?) h3
     simp only [List.getElem?_take] at h4
     rw [if_pos (by omega),if_pos (by omega),hc,pre_get hs ha,if_neg (by omega),if_pos (by omega)] at h4
     exact Option.some.inj h4
    ·cases hc
variable (X:Nat→Option Obj)
def lunpBx (fs:List Fl) (s:List UInt8):List (Nat×Option Box):=if unpErr fs s=0 then [(1000001,some ⟨82,(nsV (unpZ fs s)).map .val,false⟩)] else []
set_option maxHeartbeats 6400000 in
theorem lUnpack_spec (ad:Option Addr) (cap:Nat) (fs:List Fl) (s:List UInt8) (hin:FieldsIn X ad fs) (hbig:fs.length<4611686018427387904):
  MSpec Tryz.prog X 88 [Lx ad fs.length cap,Ls s] [] (unpR fs s) (lunpBx fs s):=by
 refine cE Tryz.func88 rfl V5 rfl (by unfold unpR lunpBx;split<;>rfl) (by unfold lunpBx;split<;>exact V0) rfl rfl ?_
 intro C
 have hzs:(⟨s.toArray⟩:ByteArray).size=s.length:=rfl
 by_cases hl:layErr fs=0
 ·have hO:=Of_ok X ad cap fs hin hbig hl
  obtain ⟨h8,hall,hT⟩:=layErr_facts hl
  have hSl:=slotsOf_spec X ad cap fs (rowSize fs) hin h8 hall
  have hW:=within_row hall
  have hEl:=elems_len fs 0 hall
  have hue:unpErr fs s=if unpOk fs s=true then 0 else 4:=if_pos hl
  unfold unpR lunpBx
  rw [hue]
  unfold unpOk packB
  have hzl:(unpZ fs s).length=(elemsAt 0 fs).length:=by simp [unpZ]
  have hzd:unpZ fs s=(elemsAt 0 fs).map (rdE s):=rfl
  have hAp:=elems_apart fs 0 hall
  generalize hZ:unpZ fs s=Z at *
  generalize elemsAt 0 fs=E at *
  generalize startsAt 0 fs=S at *
  generalize rowSize fs=T at *
  by_cases hn:s.length=T
  ·have hgp:=gaps_pack hn hW hAp (fun _ _=>Nat.zero_le _) (Nat.zero_le _)
   rw [List.take_zero,List.nil_append,Nat.sub_zero,← hzd] at hgp
   rw [cM hn,Bool.true_and,hgp]
   have hmk:slcBuild Tryz.prog 40 E.length=some (nsV (List.replicate E.length 0),3,82):=by
    rw [← zeroNums]
    exact slcBuild_many (z := #[.bool false,.int .u64 0,.int .u64 0]) V5 V5 O V3
   (refine U8 ?_;refine bE [(1000001,501)] (.tup [planV (T:Nat) (.slc 501 0 fs.length 1),Sn .i64 0]) [(501,some ⟨3,(ntV S).map .val,false⟩)] (hO) O O V15 O O O O O V18 dO ?_;refine U30 ?_;refine bE [(1000001,501),(1000002,502)] (.sv (.one (.slc 502 0 E.length 2))) [(501,some ⟨3,(ntV S).map .val,false⟩),(502,some ⟨155,(elVs E).map .val,Nat.blt 0 E.length⟩)] (hSl) O O (by exact (cN ⟨_,O,(bX _ _ _ _)⟩ trivial)) (by exact (bS bT O)) O O O O V1B dO ?_;refine U6 ?_;refine K.makeSlc (m:=E.length) (bytes:=24) O O hmk V5 V3 O O dO ?_;refine U14 ?_)
   refine cH (fun m σ=>∃ i a:Nat,i≤E.length∧m=E.length-i∧readOk E s=readOk (E.drop i) s∧gapsB 0 E s=gapsB a (E.drop i) s∧(∀ e∈E.drop i,a≤e.2)∧a≤T∧σ=⟨[(1,Ls s),(9,.sv (.one (.slc 500 0 E.length 3))),(10,Ln .i64 (a:Nat)),(32,.sv (.one (.slc 502 0 E.length 2))),(33,Ln .i64 (E.length:Nat)),(34,Ln .i64 (i:Nat))],[(502,some ⟨155,(elVs E).map .val,Nat.blt 0 E.length⟩),(500,some ⟨82,(nsV (Z.take i++List.replicate (E.length-i) 0)).map .val,false⟩)],X⟩) E.length
    ⟨_,Le.ofR [(500,31)] VC V1 V2 V2 V0 V2 V2,0,0,by omega,rfl,rfl,rfl,(fun _ _=>Nat.zero_le _),Nat.zero_le _,rfl⟩ ?_
   rintro m σ ⟨i,a,hi,rfl,hrd0,hgp0,hge,haT,rfl⟩
   by_cases hlt:i<E.length
   ·obtain ⟨e,he⟩:=wg hlt
    have hz:Z[i]? = some (rdE s e):=by rw [hzd,dI,he];rfl
    have hm:=dA he
    have hdr:=drop_at he
    have hio:0+Int.toNat (i:Int)*3=i*3:=by simp
    have hie:0+Int.toNat (i:Int)*2=i*2:=by simp
    have hc:=elVs_row he
    have hbf:=elVs_fit he
    have hWe:=hW e hm
    have hrd:=read_R hW hn hm
    have hG:=Get_q X e.1 ((s.drop e.2).take (kW e.1)) hWe.1 hrd.1
    have hEnd:=slotEnd_spec X e.1 e.2 V3
    have hcut:(⟨s.toArray⟩:ByteArray).extract e.2 (e.2+kW e.1)=⟨((s.drop e.2).take (kW e.1)).toArray⟩:=by rw [str_cut,Nat.add_sub_cancel_left]
    have hw8:=(kfacts e.1).2.2.2.2
    rw [hdr] at hge hgp0 hrd0
    have hae:=hge e V24
    have hcut2:(⟨s.toArray⟩:ByteArray).extract a e.2=⟨((s.drop a).take (e.2-a)).toArray⟩:=str_cut _ _ _
    have hBk:=isBlank_spec X ((s.drop a).take (e.2-a)) (by rw [cX,cY];omega)
    have hro:readOk (e::E.drop (i+1)) s=(fitZ e.1 (rdE s e)&&readOk (E.drop (i+1)) s):=rfl
    have hgo:gapsB a (e::E.drop (i+1)) s=(blankB ((s.drop a).take (e.2-a))&&gapsB (e.2+kW e.1) (E.drop (i+1)) s):=rfl
    rw [hro] at hrd0
    rw [hgo] at hgp0
    rw [show nbK e.1 (le ((s.drop e.2).take (kW e.1)))=rdE s e from rfl] at hG
    have hvl:(Z.take i++List.replicate (E.length-i) (0:Int)).length=E.length:=by rw [cT,cX,dB];omega
    have hsp:=fun z=>nsV_splice (Z.take i++List.replicate (E.length-i) (0:Int)) i z V3
    have hm3:i*3+3≤((nsV (Z.take i++List.replicate (E.length-i) (0:Int))).map CV.val).length:=by rw [cU,nsV_len,hvl];omega
    have hset:(Z.take i++List.replicate (E.length-i) (0:Int)).set i (rdE s e)=Z.take (i+1)++List.replicate (E.length-(i+1)) 0:=by
     rw [fill_set (by rw [cX];omega) hlt,take_snoc hz]
    have hge2:∀ x∈E.drop (i+1),e.2+kW e.1≤x.2:=by
     have h5:=hAp.sublist (List.drop_sublist i E)
     rw [hdr] at h5
     exact (List.pairwise_cons.1 h5).1
    cases hf:fitZ e.1 (rdE s e) with
    | true =>
     rw [hf,if_pos rfl] at hG
     rw [hf,Bool.true_and] at hrd0
     have hsp1:=hsp (rdE s e)
     rw [hset] at hsp1
     cases hbk:blankB ((s.drop a).take (e.2-a)) with
     | true =>
      have hBk':=hBk true hbk
      rw [hbk,Bool.true_and] at hgp0
      generalize (s.drop e.2).take (kW e.1)=t at *
      generalize (s.drop a).take (e.2-a)=u at *
      generalize kW e.1=w at *
      generalize rdE s e=z at *
      (refine U13 ?_;refine bJ O O hbf hc dO ?_;refine U5 ?_;refine rgD mixed ?_;refine U9 ?_;refine bM (l:=e.2) (h:=e.2+w) (kl:=.i64) (kh:=.i64) O StrT.u O O ⟨V3,V3⟩ hcut dO ?_;refine U5 ?_;refine K.store O O O O V5 hm3 hsp1 dO ?_;refine U13 ?_;refine bM (l:=a) (h:=e.2) (kl:=.i64) (kh:=.i64) O StrT.u O O ⟨V3,V3⟩ hcut2 (dP O O) ?_;refine U15 ?_)
      exact ⟨_,_,by omega,Le.of VC VA V2 V2 V0,i+1,e.2+w,by omega,O,hrd0,hgp0,hge2,V3,O⟩
     | false =>
      have hBk':=hBk false hbk
      rw [hgp0,hbk,Bool.false_and,Bool.and_false,if_neg (by simp),if_neg (by decide),if_neg (by decide)]
      generalize (s.drop e.2).take (kW e.1)=t at *
      generalize (s.drop a).take (e.2-a)=u at *
      generalize kW e.1=w at *
      generalize rdE s e=z at *
      (refine U13 ?_;refine bJ O O hbf hc dO ?_;refine U5 ?_;refine rgD mixed ?_;refine U9 ?_;refine bM (l:=e.2) (h:=e.2+w) (kl:=.i64) (kh:=.i64) O StrT.u O O ⟨V3,V3⟩ hcut dO ?_;refine U5 ?_;refine K.store O O O O V5 hm3 hsp1 dO ?_;refine U13 ?_;refine bM (l:=a) (h:=e.2) (kl:=.i64) (kh:=.i64) O StrT.u O O ⟨V3,V3⟩ hcut2 (dP O O) ?_;refine U11 ?_)
      exact ⟨[],⟨[_,_],⟨O,O,trivial⟩,O⟩,trivial,O,O⟩
    | false =>
     rw [hf,if_neg (by simp)] at hG
     have hsp0:=hsp 0
     rw [hrd0,hf,Bool.false_and,Bool.false_and,if_neg (by simp),if_neg (by decide),if_neg (by decide)]
     generalize (s.drop e.2).take (kW e.1)=t at *
     generalize kW e.1=w at *
     (refine U13 ?_;refine bJ O O hbf hc dO ?_;refine U5 ?_;refine rgD mixed ?_;refine U9 ?_;refine bM (l:=e.2) (h:=e.2+w) (kl:=.i64) (kh:=.i64) O StrT.u O O ⟨V3,V3⟩ hcut dO ?_;refine U5 ?_;refine K.store O O O O V5 hm3 hsp0 dO ?_;refine U25 ?_)
     exact ⟨[],⟨[_,_],⟨O,O,trivial⟩,O⟩,trivial,O,O⟩
   ·have e:i=E.length:=by omega
    subst e
    rw [List.drop_length] at hrd0 hgp0
    rw [hrd0,hgp0,show readOk [] s=true from rfl,Bool.true_and,show gapsB a [] s=blankB (s.drop a) from rfl]
    have hfin:(nsV (Z.take E.length++List.replicate (E.length-E.length) (0:Int))).map CV.val=(nsV Z).map CV.val:=by rw [List.take_of_length_le V3,Nat.sub_self,List.replicate_zero,dG]
    rw [hfin]
    have hcut:(⟨s.toArray⟩:ByteArray).extract a s.length=⟨(s.drop a).toArray⟩:=by rw [str_cut,List.take_of_length_le (by rw [cY];omega)]
    have hBk:=isBlank_spec X (s.drop a) (by rw [cY];omega)
    cases hbk:blankB (s.drop a) with
    | true =>
     have hBk':=hBk true hbk
     rw [if_pos rfl,if_pos rfl,if_pos rfl]
     (refine U12 ?_;refine bM (l:=a) (h:=s.length) (kl:=.i64) (kh:=.i64) O StrT.u O hzs.symm ⟨V3,V3⟩ hcut dO ?_;refine U12 ?_)
     exact ⟨[(1000001,500)],⟨[_,_],⟨rfl,rfl,trivial⟩,by rw [hzl];rfl⟩,V1,rfl,rfl⟩
    | false =>
     have hBk':=hBk false hbk
     rw [if_neg (by simp),if_neg (by decide),if_neg (by decide)]
     (refine U12 ?_;refine bM (l:=a) (h:=s.length) (kl:=.i64) (kh:=.i64) O StrT.u O hzs.symm ⟨V3,V3⟩ hcut dO ?_;refine U10 ?_)
     exact ⟨[],⟨[_,_],⟨O,O,trivial⟩,O⟩,trivial,O,O⟩
  ·rw [cL hn,Bool.false_and,if_neg V24,if_neg V11,if_neg V11]
   (refine U8 ?_;refine bE [(1000001,501)] (.tup [planV (T:Nat) (.slc 501 0 fs.length 1),Sn .i64 0]) [(501,some ⟨3,(ntV S).map .val,false⟩)] (hO) O O V15 O O O O O V18 dO ?_;refine U31 ?_)
   exact ⟨[],⟨[_,_],⟨O,O,trivial⟩,O⟩,trivial,O,O⟩
 ·have hO:=Of_err X ad cap fs hin hbig hl
  have hue:unpErr fs s=layErr fs:=if_neg hl
  unfold unpR lunpBx
  rw [hue,if_neg hl,if_neg hl]
  generalize layErr fs=e at *
  refine U30 ?_
  exact ⟨[],⟨[_,_],⟨O,O,trivial⟩,O⟩,trivial,O,O⟩
end Go.Proofs.YtbpdbclndfmcgaaGreatDoor
end
section
set_option maxHeartbeats 12800000
set_option maxRecDepth 100000
namespace Go.Proofs.YtbpdbclndfmcgaaGreatDoor
open Go Go.Lg Go.Lg.Fld
set_option maxRecDepth 100000
variable (X:Nat→Option Obj)
theorem lUnpack_ok (ad:Option Addr) (cap:Nat) (fs:List Fl) (s:List UInt8) (hin:FieldsIn X ad fs) (hbig:fs.length<4611686018427387904) (h:unpErr fs s=0):
  MSpec Tryz.prog X 88 [Lx ad fs.length cap,Ls s] [] (.tup [.one (.slc 1000001 0 (unpZ fs s).length 3),Sn .i64 0]) [(1000001,some ⟨82,(nsV (unpZ fs s)).map .val,false⟩)]:=by
 have:=lUnpack_spec X ad cap fs s hin hbig
 unfold unpR lunpBx at this
 rw [if_pos h,if_pos h] at this
 exact this
end Go.Proofs.YtbpdbclndfmcgaaGreatDoor
end
section
set_option maxHeartbeats 12800000
set_option maxRecDepth 100000
namespace Go.Lg.Fld
open Go Go.Lg
instance:DecidableEq Fl:=fun a b=>decidable_of_iff (a.nm=b.nm∧a.kind=b.kind∧a.count=b.count) ⟨fun ⟨h1,h2,h3⟩=>by cases a;cases b;simp_all,fun h=>by rw [h];exact ⟨rfl,rfl,rfl⟩⟩
structure Cp where
 id:Int
 nm:List UInt8
 fs:List Fl
instance:DecidableEq Cp:=fun a b=>decidable_of_iff (a.id=b.id∧a.nm=b.nm∧a.fs=b.fs) ⟨fun ⟨h1,h2,h3⟩=>by cases a;cases b;simp_all,fun h=>by rw [h];exact ⟨rfl,rfl,rfl⟩⟩
structure Sc where
 ver:Int
 cs:List Cp
instance:DecidableEq Sc:=fun a b=>decidable_of_iff (a.ver=b.ver∧a.cs=b.cs) ⟨fun ⟨h1,h2⟩=>by cases a;cases b;simp_all,fun h=>by rw [h];exact ⟨rfl,rfl⟩⟩
def letB (c:UInt8):Bool:=decide (97≤c.toNat)&&decide (c.toNat≤122)
def digB (c:UInt8):Bool:=decide (48≤c.toNat)&&decide (c.toNat≤57)
def nmC (l:List UInt8) (i:Nat):Bool:=letB (l.getD i 0)||(digB (l.getD i 0)&&decide (i≠0))
def nmB (l:List UInt8):Bool:=decide (1≤l.length)&&decide (l.length≤12)&&(List.range l.length).all (nmC l)
def firstE (f:Nat→Int):Nat→Nat→Int
 | _,0=>0
 | i,n+1=>if f i=0 then firstE f (i+1) n else f i
theorem firstE_none {f:Nat→Int}:∀ {n i:Nat},(∀ j,i≤j→j<i+n→f j=0)→firstE f i n=0
 | 0,_,_=>rfl
 | n+1,i,h=>by
  unfold firstE
  rw [if_pos (h i (dK _) (by omega))]
  exact firstE_none fun j h1 h2=>h j V3 V3
theorem firstE_some {f:Nat→Int} {e:Int}:∀ {n i k:Nat},(∀ j,i≤j→j<k→f j=0)→i≤k→k<i+n→f k=e→e≠0→firstE f i n=e
 | 0,_,_,_,h1,h2,_,_=>by omega
 | n+1,i,k,h,h1,h2,he,h0=>by
  unfold firstE
  by_cases e1:i=k
  ·subst e1;rw [if_neg (by rw [he];exact h0),he]
  ·rw [if_pos (h i (dK _) V3)]
   exact firstE_some (fun j h3 h4=>h j V3 h4) V3 V3 he h0
theorem firstE_zero {f:Nat→Int}:∀ {n i:Nat},firstE f i n=0→∀ j,i≤j→j<i+n→f j=0
 | 0,_,_,_,h1,h2=>by omega
 | n+1,i,h,j,h1,h2=>by
  unfold firstE at h
  split at h
  ·rename_i h3
   by_cases e:j=i
   ·rw [e];exact h3
   ·exact firstE_zero h j V3 V3
  ·rename_i h3;exact absurd h h3
def fldE (fs:List Fl) (k:Nat):Int:=match fs[k]? with
 | some f=>if nmB f.nm=true then (if (fs.take k).any (fun g=>g.nm==f.nm)=true then 4 else 0) else 4
 | none=>0
def prevId (cs:List Cp) (i:Nat):Int:=(cs[i-1]?.map Cp.id).getD 0
def cmpE (cs:List Cp) (i:Nat):Int:=match cs[i]? with
 | some c =>
  if c.id<1∨24<c.id∨(0<i∧c.id≤prevId cs i) then 1
  else if nmB c.nm=true then (if (cs.take i).any (fun g=>g.nm==c.nm)=true then 4 else if firstE (fldE c.fs) 0 c.fs.length=0 then layErr c.fs else 4) else 4
 | none=>0
def chkE (s:Sc):Int:=if s.ver<1∨1073741824<s.ver then 1 else firstE (cmpE s.cs) 0 s.cs.length
structure CompsIn (X:Nat→Option Obj) (ad:Option Addr) (cs:List Cp):Prop where
 at_:∀ (i:Nat) (c:Cp),cs[i]? = some c→∃ (blk off:Nat) (arr:Array Value) (el:TypeId) (fr:Nat×Nat) (fad:Option Addr) (fcap:Nat),ad=some ⟨blk,off,none⟩∧X blk=some (.cells arr el fr)∧off+i*3+3≤arr.size ∧
  (arr.toList.drop (off+i*3)).take 3=[.int .i64 c.id,.string ⟨c.nm.toArray⟩,.slice fad c.fs.length fcap]∧FieldsIn X fad c.fs
 small:∀ c∈cs,-9223372036854775808≤c.id∧c.id<9223372036854775808
theorem FieldsIn.mono {X Y:Nat→Option Obj} (hXY:∀ b o,X b=some o→Y b=some o) {ad:Option Addr} {fs:List Fl} (h:FieldsIn X ad fs):FieldsIn Y ad fs:=⟨RowsIn.mono h.rows hXY,h.small⟩
theorem CompsIn.mono {X Y:Nat→Option Obj} (hXY:∀ b o,X b=some o→Y b=some o) {ad:Option Addr} {cs:List Cp} (h:CompsIn X ad cs):CompsIn Y ad cs:=⟨fun i c hc=>by
 obtain ⟨blk,off,arr,el,fr,fad,fcap,h1,h2,h3,h4,h5⟩:=h.at_ i c hc
 exact ⟨blk,off,arr,el,fr,fad,fcap,h1,hXY _ _ h2,h3,h4,h5.mono hXY⟩,h.small⟩
theorem three_at {arr:Array Value} {p:Nat} {a b c:Value} (h:(arr.toList.drop p).take 3=[a,b,c]):arr[p]? = some a∧arr[p+1]? = some b∧arr[p+2]? = some c:=by
 have key:∀ j,j<3→arr[p+j]? = [a,b,c][j]? := fun j hj=>by
  rw [← h,List.getElem?_take,if_pos hj,List.getElem?_drop,Array.getElem?_toList]
 exact ⟨key 0 V3,key 1 V3,key 2 V3⟩
theorem CompsIn.get {X:Nat→Option Obj} {ad:Option Addr} {cs:List Cp} (h:CompsIn X ad cs) {i:Nat} {c:Cp} (hc:cs[i]? = some c):∃ (blk off:Nat) (arr:Array Value) (el:TypeId) (fr:Nat×Nat) (fad:Option Addr) (fcap:Nat),ad=some ⟨blk,off,none⟩∧X blk=some (.cells arr el fr)∧off+i*3+3≤arr.size ∧
  ((arr.toList.drop (off+i*3)).take 3).map CV.val=[.val (.int .i64 c.id),.val (.string ⟨c.nm.toArray⟩),.val (.slice fad c.fs.length fcap)]∧arr[off+i*3]? = some (.int .i64 c.id)∧arr[off+i*3+1]? = some (.string ⟨c.nm.toArray⟩)∧arr[off+i*3+2]? = some (.slice fad c.fs.length fcap)∧FieldsIn X fad c.fs:=by
 obtain ⟨blk,off,arr,el,fr,fad,fcap,h1,h2,h3,h4,h5⟩:=h.at_ i c hc
 obtain ⟨g1,g2,g3⟩:=three_at h4
 exact ⟨blk,off,arr,el,fr,fad,fcap,h1,h2,h3,by rw [h4];rfl,g1,g2,g3,h5⟩
def NamesIn (cs:List Cp):Prop := ∀ c∈cs,c.nm.length≤9223372036854775807∧∀ f∈c.fs,f.nm.length≤9223372036854775807
def SmallC (cs:List Cp):Prop:=cs.length≤30∧∀ c∈cs,c.fs.length≤12∧c.nm.length≤100∧∀ f∈c.fs,f.nm.length≤100
end Go.Lg.Fld
namespace Go.Proofs.YtbpdbclndfmcgaaGreatDoor
open Go Go.Lg Go.Lg.Fld
abbrev Sx (ver:Int) (ad:Option Addr) (n cap:Nat):LV:=.sv (.agg [.val (.int .i64 ver),.val (.slice ad n cap)])
abbrev Cx (c:Cp) (fad:Option Addr) (fcap:Nat):LV:=.sv (.agg [.val (.int .i64 c.id),.val (.string ⟨c.nm.toArray⟩),.val (.slice fad c.fs.length fcap)])
end Go.Proofs.YtbpdbclndfmcgaaGreatDoor
end
section
set_option maxHeartbeats 12800000
set_option maxRecDepth 100000
namespace Go.Proofs.YtbpdbclndfmcgaaGreatDoor
open Go Go.Lg Go.Lg.Fld
set_option maxRecDepth 100000
variable (X:Nat→Option Obj)
theorem getD_of {α:Type} {l:List α} {i:Nat} {d x:α} (h:l[i]? = some x):l.getD i d=x:=by rw [List.getD_eq_getElem?_getD,h];rfl
theorem nmB_false {l:List UInt8} {i:Nat} (hi:i<l.length) (h:nmC l i=false):nmB l=false:=by
 unfold nmB
 rw [Bool.and_eq_false_iff]
 right
 exact List.all_eq_false.2 ⟨i,List.mem_range.2 hi,by rw [h];simp⟩
theorem nmB_true {l:List UInt8} (h1:1≤l.length) (h2:l.length≤12) (h:∀ j,j<l.length→nmC l j=true):nmB l=true:=by
 unfold nmB
 rw [cM h1,cM h2,Bool.true_and,Bool.true_and]
 exact List.all_eq_true.2 fun j hj=>h j (List.mem_range.1 hj)
theorem sName_spec (l:List UInt8):PSpec Tryz.prog X 76 [Ls l] (Lb (nmB l)):=by
 refine cD Tryz.func76 rfl V5 rfl rfl ?_
 intro C
 have hlen:(⟨l.toArray⟩:ByteArray).size=l.length:=rfl
 by_cases h1:l.length<1
 ·rw [show nmB l=false by unfold nmB;rw [cL V3];rfl]
  (refine U9 ?_;refine klt rfl rfl (cM V22) ?_;refine U12 ?_)
  exact V6
 ·by_cases h2:12<l.length
  ·rw [show nmB l=false by unfold nmB;rw [cL (show ¬l.length≤12 by omega)];simp]
   (refine U9 ?_;refine klt O O (cL V22) ?_;refine U2 ?_;refine K.lenStr O (dP O O) ?_;refine aS O O (cM V22) (dP O O) ?_;refine U8 ?_)
   exact V6
  ·(refine U9 ?_;refine klt O O (cL V22) ?_;refine U2 ?_;refine K.lenStr O (dP O O) ?_;refine aS O O (cL V22) (dP O O) ?_;refine U10 ?_)
   refine cH (fun m σ=>∃ i:Nat,i≤l.length∧m=l.length-i∧(∀ j,j<i→nmC l j=true)∧σ=⟨[(0,Ls l),(3,Ln .i64 (i:Nat))],[],X⟩) l.length
    ⟨_,Le.of VA V15 V2 V2 V2,0,by omega,by omega,fun j hj=>absurd hj V3,rfl⟩ ?_
   rintro m σ ⟨i,hi,rfl,hpre,rfl⟩
   by_cases hlt:i<l.length
   ·obtain ⟨c,hc⟩:=wg hlt
    have hD:l.getD i 0=c:=getD_of hc
    have hget:(⟨l.toArray⟩:ByteArray)[(i:Int).toNat]? = some c:=str_at (by rw [dD];exact hc)
    have hlss:decide (((i:Nat):Int)<(⟨l.toArray⟩:ByteArray).size)=true:=cM V22
    by_cases l1:97≤c.toNat∧c.toNat≤122
    ·have hok:nmC l i=true:=by unfold nmC;rw [hD];unfold letB;simp [l1.1,l1.2]
     have key:∀ j,j<i+1→nmC l j=true:=fun j hj=>by
      by_cases e:j=i
      ·rw [e];exact hok
      ·exact hpre j V3
     by_cases d1:48≤c.toNat
     ·by_cases d2:c.toNat≤57
      ·omega
      ·(refine U6 ?_;refine klt O O hlss ?_;refine U9 ?_;refine bB O O V3 hget dO<|bD O O (cM V3) dO ?_;refine U3 ?_;refine bB O O V3 hget (dP O O) ?_;refine K.leq O O (cM V3) (dP O O) ?_;refine U7 ?_;refine bB O O V3 hget dO<|bD O O (cM V3) dO ?_;refine U3 ?_;refine bB O O V3 hget (dP O O) ?_;refine K.leq O O (cL V3) (dP O O) ?_;refine U23 ?_)
       exact ⟨_,_,by omega,Le.of VA V15 V2 V2 V2,i+1,by omega,O,key,O⟩
     ·omega
    ·by_cases d1:48≤c.toNat∧c.toNat≤57
     ·by_cases hi0:i=0
      ·have hno:nmC l i=false:=by unfold nmC letB;rw [hD];simp [l1,hi0];omega
       rw [nmB_false hlt hno]
       subst hi0
       (refine U6 ?_;refine klt O O hlss ?_;refine U9 ?_;refine bB O O V3 hget dO<|bD O O (cL V3) dO ?_;refine U12 ?_;refine bB O O V3 hget dO<|bD O O (cM V3) dO ?_;refine U3 ?_;refine bB O O V3 hget (dP O O) ?_;refine K.leq O O (cM V3) (dP O O) ?_;refine U12 ?_;refine bC O O (cS V3) (dP O O) ?_;refine bO O O (dP O O) ?_;refine U8 ?_)
       exact V6
      ·have hok:nmC l i=true:=by unfold nmC digB;rw [hD];simp [d1.1,d1.2,hi0]
       have key:∀ j,j<i+1→nmC l j=true:=fun j hj=>by
        by_cases e:j=i
        ·rw [e];exact hok
        ·exact hpre j V3
       have heq:(((i:Nat):Int)==0)=false:=cO V3
       (refine U6 ?_;refine klt O O hlss ?_;refine U9 ?_;refine bB O O V3 hget dO<|bD O O (cL V3) dO ?_;refine U12 ?_;refine bB O O V3 hget dO<|bD O O (cM V3) dO ?_;refine U3 ?_;refine bB O O V3 hget (dP O O) ?_;refine K.leq O O (cM V3) (dP O O) ?_;refine U12 ?_;refine bC O O heq (dP O O) ?_;refine bO O O (dP O O) ?_;refine U9 ?_)
       exact ⟨_,_,by omega,Le.of VA V15 V2 V2 V2,i+1,by omega,O,key,O⟩
     ·have hno:nmC l i=false:=by unfold nmC letB digB;rw [hD];simp;constructor<;>intro h<;>omega
      rw [nmB_false hlt hno]
      by_cases a1:97≤c.toNat
      ·(refine U6 ?_;refine klt O O hlss ?_;refine U9 ?_;refine bB O O V3 hget dO<|bD O O (cM V3) dO ?_;refine U3 ?_;refine bB O O V3 hget (dP O O) ?_;refine K.leq O O (cL V3) (dP O O) ?_;refine U7 ?_;refine bB O O V3 hget dO<|bD O O (cM V3) dO ?_;refine U3 ?_;refine bB O O V3 hget (dP O O) ?_;refine K.leq O O (cL V3) (dP O O) ?_;refine U13 ?_;refine bF O O (dP O O) ?_;refine U8 ?_)
       exact V6
      ·by_cases a2:48≤c.toNat
       ·(refine U6 ?_;refine klt O O hlss ?_;refine U9 ?_;refine bB O O V3 hget dO<|bD O O (cL V3) dO ?_;refine U12 ?_;refine bB O O V3 hget dO<|bD O O (cM V3) dO ?_;refine U3 ?_;refine bB O O V3 hget (dP O O) ?_;refine K.leq O O (cL V3) (dP O O) ?_;refine U13 ?_;refine bF O O (dP O O) ?_;refine U8 ?_)
        exact V6
       ·(refine U6 ?_;refine klt O O hlss ?_;refine U9 ?_;refine bB O O V3 hget dO<|bD O O (cL V3) dO ?_;refine U12 ?_;refine bB O O V3 hget dO<|bD O O (cL V3) dO ?_;refine U18 ?_;refine bF O O (dP O O) ?_;refine U8 ?_)
        exact V6
   ·rw [nmB_true V3 V3 (fun j hj=>hpre j V3)]
    (refine U6 ?_;refine klt rfl rfl (cL V22) ?_;refine U8 ?_)
    exact V6
end Go.Proofs.YtbpdbclndfmcgaaGreatDoor
end
section
set_option maxHeartbeats 12800000
set_option maxRecDepth 100000
namespace Go.Lg.Fld
open Go Go.Lg
def findI {α:Type} (p:α→Bool) (l:List α):Int:=match l.findIdx? p with|some i=>(i:Nat)|none => -1
theorem findI_some {α:Type} {p:α→Bool} {l:List α} {i:Nat} {x:α} (h:∀ (j:Nat) (y:α),j<i→l[j]? = some y→p y=false) (hx:l[i]? = some x) (hp:p x=true):findI p l=(i:Nat):=by
 unfold findI
 obtain ⟨hi,e⟩:=List.getElem?_eq_some_iff.1 hx
 rw [List.findIdx?_eq_some_iff_getElem.2 ⟨hi,by rw [e];exact hp,fun j hj=>by rw [h j _ hj (cV (by omega))];simp⟩]
theorem findI_none {α:Type} {p:α→Bool} {l:List α} (h:∀ (j:Nat) (y:α),l[j]? = some y→p y=false):findI p l = -1:=by
 unfold findI
 rw [List.findIdx?_eq_none_iff.2 fun x hx=>by
  obtain ⟨j,hj⟩:=List.mem_iff_getElem?.1 hx
  exact h j x hj]
end Go.Lg.Fld
namespace Go.Proofs.YtbpdbclndfmcgaaGreatDoor
open Go Go.Lg Go.Lg.Fld
set_option maxRecDepth 100000
variable (X:Nat→Option Obj)
abbrev sxB (k:Nat) (ver:Int) (ad:Option Addr) (n cap:Nat):Nat×Option Box:=(k,some ⟨24,[.val (.int .i64 ver),.val (.slice ad n cap)],false⟩)
theorem sFind_spec (ver:Int) (ad:Option Addr) (cap:Nat) (cs:List Cp) (id:Int) (hin:CompsIn X ad cs) (hbig:cs.length<4611686018427387904):
  PSpec Tryz.prog X 43 [Sx ver ad cs.length cap,Ln .i64 id] (Ln .i64 (findI (fun c=>c.id==id) cs)):=by
 refine cD Tryz.func43 rfl V5 rfl rfl ?_
 intro C
 refine U11 ?_
 refine cH (fun m σ=>∃ i:Nat,i≤cs.length∧m=cs.length-i∧(∀ (j:Nat) (y:Cp),j<i→cs[j]? = some y→(y.id==id)=false)∧σ=⟨[(1,Ln .i64 id),(2,Lp 2),(5,Ln .i64 (i:Nat))],[sxB 2 ver ad cs.length cap],X⟩) cs.length
  ⟨_,Le.of V9 VF V2 V2 V0,0,by omega,by omega,fun j y hj=>absurd hj V3,rfl⟩ ?_
 rintro m σ ⟨i,hi,rfl,hpre,rfl⟩
 by_cases hlt:i<cs.length
 ·obtain ⟨c,hc⟩:=wg hlt
  obtain ⟨blk,off,arr,el,fr,fad,fcap,rfl,hX,hsz,hcs,g1,g2,g3,hF⟩:=hin.get hc
  have hio:=wo off i 3
  by_cases he:c.id=id
  ·rw [findI_some hpre hc (by rw [beq_iff_eq];exact he)]
   (refine U22 ?_;refine keq rfl rfl (by rw [beq_iff_eq];exact he) ?_;refine U8 ?_)
   exact V6
  ·have hne:(c.id==id)=false:=cO he
   (refine U22 ?_;refine keq rfl rfl hne ?_;refine U8 ?_)
   exact ⟨_,_,by omega,Le.of V9 VF V2 V2 V0,i+1,by omega,O,(fun j y hj hy=>by
    by_cases e:j=i
    ·subst e;rw [hc] at hy;cases hy;exact hne
    ·exact hpre j y V3 hy),rfl⟩
 ·rw [findI_none fun j y hy=>hpre j y (by have:=(wl hy);omega) hy]
  refine U16 ?_
  exact V6
end Go.Proofs.YtbpdbclndfmcgaaGreatDoor
end
section
set_option maxHeartbeats 12800000
set_option maxRecDepth 100000
namespace Go.Lg.Fld
open Go Go.Lg
structure Pt where
 comp:Int
 val:List (Bool×Int)
theorem any_true {α:Type} {p:α→Bool} {l:List α} {k i:Nat} {y:α} (hk:k<i) (hy:l[k]? = some y) (hp:p y=true):(l.take i).any p=true:=by
 rw [List.any_eq_true]
 exact ⟨y,dA (by rw [List.getElem?_take,if_pos hk];exact hy),hp⟩
theorem any_false {α:Type} {p:α→Bool} {l:List α} {i:Nat} (h:∀ (j:Nat) (y:α),j<i→l[j]? = some y→p y=false):(l.take i).any p=false:=by
 rw [List.any_eq_false]
 intro y hy
 obtain ⟨j,hj⟩:=List.mem_iff_getElem?.1 hy
 rw [List.getElem?_take] at hj
 split at hj
 ·rename_i h1;rw [h j y h1 hj];simp
 ·cases hj
theorem two_at {arr:Array Value} {p:Nat} {a b:Value} (h:(arr.toList.drop p).take 2=[a,b]):arr[p]? = some a∧arr[p+1]? = some b:=by
 have key:∀ j,j<2→arr[p+j]? = [a,b][j]? := fun j hj=>by
  rw [← h,List.getElem?_take,if_pos hj,List.getElem?_drop,Array.getElem?_toList]
 exact ⟨key 0 V3,key 1 V3⟩
end Go.Lg.Fld
namespace Go.Proofs.YtbpdbclndfmcgaaGreatDoor
open Go Go.Lg Go.Lg.Fld
set_option maxRecDepth 100000
def partE (cs:List Cp) (p:Pt):Int:=match cs.find? (fun c=>c.id==p.comp) with|some c=>fitErr c.fs p.val|none=>6
def ptE (cs:List Cp) (ps:List Pt) (i:Nat):Int:=match ps[i]? with
 | some p=>if (ps.take i).any (fun g=>g.comp==p.comp)=true then 1 else partE cs p
 | none=>0
def partsE (cs:List Cp) (ps:List Pt):Int:=firstE (ptE cs ps) 0 ps.length
structure PartsIn (X:Nat→Option Obj) (ad:Option Addr) (ps:List Pt):Prop where
 at_:∀ (i:Nat) (p:Pt),ps[i]? = some p→∃ (blk off:Nat) (arr:Array Value) (el:TypeId) (fr:Nat×Nat) (vad:Option Addr) (vcap:Nat),ad=some ⟨blk,off,none⟩∧X blk=some (.cells arr el fr)∧off+i*2+2≤arr.size ∧
  (arr.toList.drop (off+i*2)).take 2=[.int .i64 p.comp,.slice vad p.val.length vcap]∧NumsIn X vad p.val
 small:∀ p∈ps,-9223372036854775808≤p.comp∧p.comp<9223372036854775808
theorem PartsIn.get {X:Nat→Option Obj} {ad:Option Addr} {ps:List Pt} (h:PartsIn X ad ps) {i:Nat} {p:Pt} (hc:ps[i]? = some p):∃ (blk off:Nat) (arr:Array Value) (el:TypeId) (fr:Nat×Nat) (vad:Option Addr) (vcap:Nat),ad=some ⟨blk,off,none⟩∧X blk=some (.cells arr el fr)∧off+i*2+2≤arr.size ∧
  ((arr.toList.drop (off+i*2)).take 2).map CV.val=[.val (.int .i64 p.comp),.val (.slice vad p.val.length vcap)]∧arr[off+i*2]? = some (.int .i64 p.comp)∧arr[off+i*2+1]? = some (.slice vad p.val.length vcap)∧NumsIn X vad p.val:=by
 obtain ⟨blk,off,arr,el,fr,vad,vcap,h1,h2,h3,h4,h5⟩:=h.at_ i p hc
 obtain ⟨g1,g2⟩:=two_at h4
 exact ⟨blk,off,arr,el,fr,vad,vcap,h1,h2,h3,by rw [h4];rfl,g1,g2,h5⟩
abbrev Px (p:Pt) (vad:Option Addr) (vcap:Nat):LV:=.sv (.agg [.val (.int .i64 p.comp),.val (.slice vad p.val.length vcap)])
theorem find_at {cs:List Cp} {i:Nat} {c:Cp} {id:Int} (hpre:∀ (j:Nat) (y:Cp),j<i→cs[j]? = some y→(y.id==id)=false) (hc:cs[i]? = some c) (he:c.id=id):cs.find? (fun c=>c.id==id)=some c:=by
 obtain ⟨hi,e⟩:=List.getElem?_eq_some_iff.1 hc
 rw [List.find?_eq_some_iff_getElem]
 refine ⟨by rw [beq_iff_eq];exact he,i,hi,e,fun j hj => ?_⟩
 rw [hpre j _ hj (cV (by omega))];rfl
theorem find_no {cs:List Cp} {id:Int} (h:∀ (j:Nat) (y:Cp),cs[j]? = some y→(y.id==id)=false):cs.find? (fun c=>c.id==id)=none:=by
 rw [List.find?_eq_none]
 intro c hc
 obtain ⟨j,hj⟩:=List.mem_iff_getElem?.1 hc
 rw [h j c hj];simp
theorem find_cases (cs:List Cp) (id:Int):(∃ (i:Nat) (c:Cp),cs[i]? = some c∧c.id=id∧∀ (j:Nat) (y:Cp),j<i→cs[j]? = some y→(y.id==id)=false)∨∀ (j:Nat) (y:Cp),cs[j]? = some y→(y.id==id)=false:=by
 cases hf:cs.findIdx? (fun c=>c.id==id) with
 | some i =>
  obtain ⟨hi,h1,h2⟩:=List.findIdx?_eq_some_iff_getElem.1 hf
  refine .inl ⟨i,cs[i],cV hi,by simpa using h1,fun j y hj hy => ?_⟩
  have:=h2 j hj
  obtain ⟨hj',e⟩:=List.getElem?_eq_some_iff.1 hy
  rw [e] at this
  cases hb:y.id==id with
  | false=>rfl
  | true=>exact absurd hb this
 | none =>
  have:=List.findIdx?_eq_none_iff.1 hf
  exact .inr fun j y hy=>this y (dA hy)
variable (X:Nat→Option Obj)
theorem sPart_spec (ver:Int) (ad vad:Option Addr) (cap vcap:Nat) (cs:List Cp) (p:Pt) (hin:CompsIn X ad cs) (hbig:cs.length<4611686018427387904) (hfs:∀ c∈cs,c.fs.length<4611686018427387904) (hns:NumsIn X vad p.val) (hnb:p.val.length<4611686018427387904):
  PSpec Tryz.prog X 91 [Sx ver ad cs.length cap,Px p vad vcap] (Ln .i64 (partE cs p)):=by
 refine cD Tryz.func91 rfl V5 rfl rfl ?_
 intro C
 have hF:=sFind_spec X ver ad cap cs p.comp hin hbig
 unfold partE
 rcases find_cases cs p.comp with ⟨i,c,hc,he,hpre⟩|hno
 ·rw [findI_some hpre hc (by rw [beq_iff_eq];exact he)] at hF
  rw [find_at hpre hc he]
  have hi:=(wl hc)
  obtain ⟨blk,off,arr,el,fr,fad,fcap,rfl,hX,hsz,hcs,g1,g2,g3,hFs⟩:=hin.get hc
  have hio:=wo off i 3
  have hR:=refFit_spec X fad vad fcap vcap c.fs p.val hFs (hfs c (dA hc)) hns hnb
  (refine U23 ?_;refine rgD mixed ?_;refine U13 ?_)
  exact V6
 ·rw [findI_none hno] at hF
  rw [find_no hno]
  refine U26 ?_
  exact V6
theorem ptE_at {cs:List Cp} {ps:List Pt} {i:Nat} {p:Pt} (h:ps[i]? = some p):ptE cs ps i=if (ps.take i).any (fun g=>g.comp==p.comp)=true then 1 else partE cs p:=by unfold ptE;rw [h]
set_option maxHeartbeats 1600000 in
theorem sParts_spec (ver:Int) (ad pad:Option Addr) (cap pcap:Nat) (cs:List Cp) (ps:List Pt) (hin:CompsIn X ad cs) (hbig:cs.length<4611686018427387904) (hfs:∀ c∈cs,c.fs.length<4611686018427387904) (hps:PartsIn X pad ps) (hpb:ps.length<4611686018427387904) (hnb:∀ p∈ps,p.val.length<4611686018427387904):
  PSpec Tryz.prog X 59 [Sx ver ad cs.length cap,Lx pad ps.length pcap] (Ln .i64 (partsE cs ps)):=by
 refine cD Tryz.func59 rfl V5 rfl rfl ?_
 intro C
 refine U11 ?_
 refine cH (fun m σ=>∃ i:Nat,i≤ps.length∧m=ps.length-i∧(∀ j,0≤j→j<i→ptE cs ps j=0)∧σ=⟨[(1,Lx pad ps.length pcap),(2,Lp 2),(5,Ln .i64 (i:Nat))],[sxB 2 ver ad cs.length cap],X⟩) ps.length
  ⟨_,Le.of V9 VF V2 V2 V0,0,by omega,by omega,fun j _ hj=>absurd hj V3,rfl⟩ ?_
 rintro m σ ⟨i,hi,rfl,hpre,rfl⟩
 by_cases hlt:i<ps.length
 ·obtain ⟨p,hp⟩:=wg hlt
  obtain ⟨blk,off,arr,el,fr,vad,vcap,rfl,hX,hsz,hcs,g1,g2,hN⟩:=hps.get hp
  have hio:=wo off i 2
  have hE:=ptE_at (cs:=cs) hp
  have hP:=sPart_spec X ver ad vad cap vcap cs p hin hbig hfs hN (hnb p (dA hp))
  refine U18 ?_
  refine cH (fun m σ=>∃ k:Nat,k≤i∧m=i-k∧(∀ (j:Nat) (y:Pt),j<k→ps[j]? = some y→(y.comp==p.comp)=false)∧σ=⟨[(1,Lx (some ⟨blk,off,none⟩) ps.length pcap),(2,Lp 2),(5,Ln .i64 (i:Nat)),(6,Ln .i64 (k:Nat))],[sxB 2 ver ad cs.length cap],X⟩) i
   ⟨_,Le.of VD VF V2 V2 V0,0,by omega,by omega,fun j y hj=>absurd hj V3,rfl⟩ ?_
  rintro m σ ⟨k,hk,rfl,hpre2,rfl⟩
  by_cases hkl:k<i
  ·obtain ⟨q,hq⟩:∃ q,ps[k]? = some q:=wg V3
   obtain ⟨blk',off',arr',el',fr',_,_,e1,hX',_,_,g1',_,_⟩:=hps.get hq
   simp only [Option.some.injEq,Addr.mk.injEq] at e1
   obtain ⟨rfl,rfl,_⟩:=e1
   rw [hX] at hX'
   simp only [Option.some.injEq,Obj.cells.injEq] at hX'
   obtain ⟨rfl,rfl,rfl⟩:=hX'
   have hio2:=wo off k 2
   by_cases hqe:q.comp=p.comp
   ·rw [any_true hkl hq (by rw [beq_iff_eq];exact hqe),if_pos rfl] at hE
    rw [show partsE cs ps=1 from firstE_some hpre (Nat.zero_le _) (by omega) hE (by decide)]
    (refine U12 ?_;refine rgD mixed ?_;refine U10 ?_;refine keq rfl rfl (r:=true) (by rw [beq_iff_eq];exact hqe) ?_;refine U8 ?_)
    exact V6
   ·have hne:(q.comp==p.comp)=false:=cO hqe
    (refine U12 ?_;refine rgD mixed ?_;refine U10 ?_;refine keq rfl rfl hne ?_;refine U9 ?_)
    exact ⟨_,_,by omega,Le.of VD VF V2 V2 V0,k+1,by omega,O,(fun j y hj hy=>by
     by_cases e:j=k
     ·subst e;rw [hq] at hy;cases hy;exact hne
     ·exact hpre2 j y V3 hy),rfl⟩
  ·rw [any_false fun j y hj hy=>hpre2 j y V3 hy,if_neg V11] at hE
   by_cases he0:partE cs p=0
   ·rw [he0] at hP hE
    (refine U10 ?_;refine rgD mixed ?_;refine U21 ?_)
    exact ⟨_,_,by omega,Le.of V9 VF V2 V2 V0,i+1,by omega,O,(fun j h0 hj=>by
     by_cases e:j=i
     ·rw [e];exact hE
     ·exact hpre j h0 V3),rfl⟩
   ·rw [show partsE cs ps=partE cs p from firstE_some hpre (Nat.zero_le _) V3 hE he0]
    have hne:(partE cs p != 0)=true:=by rw [bne_iff_ne];exact he0
    generalize partE cs p=E at *
    (refine U10 ?_;refine rgD mixed ?_;refine U12 ?_;refine kne rfl rfl hne ?_;refine U8 ?_)
    exact V6
 ·rw [show partsE cs ps=0 from firstE_none fun j h0 hj=>hpre j h0 V3]
  refine U15 ?_
  exact V6
end Go.Proofs.YtbpdbclndfmcgaaGreatDoor
end
section
set_option maxHeartbeats 12800000
set_option maxRecDepth 100000
namespace Go.Proofs.YtbpdbclndfmcgaaGreatDoor
open Go Go.Lg Go.Lg.Fld Go.RowKit Go.ChangeShapes Go.WideShapes Go.Joins
set_option maxRecDepth 100000
section
variable {H:Type} {enc:TypeId×Value→H} {w:World}
theorem open_fields_l {fuel:Nat} {l:List Value} {x:DataW H×List MemPlace} (h:DataW.trod enc Tryz.prog w 0 (fun _=>true) true fuel 84 l=some x):
  ∃ (ad:Option Addr) (cap:Nat) (fs:List Fl),l=[.slice ad fs.length cap]∧FieldsIn (fun b=>w.heap[b]?) ad fs∧∀ f∈fs,f.nm.length≤9223372036854775807:=by
 obtain ⟨ad,cap,rows,rfl,_,_,h3,h4⟩:=open_rows_l (e:=125) (sz:=3) V5 V5 V11 h
 obtain ⟨fs,rfl,h5⟩:=map_of (f:=Fl.vals) (q:=fun f=>((-9223372036854775808≤f.kind∧f.kind<9223372036854775808)∧(-9223372036854775808≤f.count∧f.count<9223372036854775808))∧f.nm.length≤9223372036854775807) (vs:=rows) (fun u hu=>by
  obtain ⟨hlen,n,x,hx⟩:=h4 u hu
  obtain ⟨y0,y1,y2,n',_,_,g0,g1,g2⟩:=Deep.trod_struct3 (t:=125) Tryz.underlying125 hx
  obtain ⟨e0',e1',e2',rfl⟩:∃ c0 c1 c2,u=[c0,c1,c2]:=by
   match u,hlen with
   | [c0,c1,c2],_=>exact ⟨c0,c1,c2,rfl⟩
  obtain ⟨s,e0,_,hsz⟩:=DataW.trod_string V5 g0
  obtain ⟨k,e1,_,wa1⟩:=DataW.trod_int (k:=.i64) V5 g1
  obtain ⟨c,e2,_,wa2⟩:=DataW.trod_int (k:=.i64) V5 g2
  have q0:e0' = .string s:=by simpa using (show ([e0',e1',e2'].drop 0).take 1=[.string s] from e0)
  have q1:e1' = .int .i64 k:=by simpa using (show ([e0',e1',e2'].drop 1).take 1=[.int .i64 k] from e1)
  have q2:e2' = .int .i64 c:=by simpa using (show ([e0',e1',e2'].drop 2).take 1=[.int .i64 c] from e2)
  subst q0 q1 q2
  have b1:=bounds_i64 wa1
  have b2:=bounds_i64 wa2
  exact ⟨⟨s.data.toList,k,c⟩,rfl,(show (-9223372036854775808≤k∧k<9223372036854775808)∧(-9223372036854775808≤c∧c<9223372036854775808) by omega),(show s.data.toList.length≤_ from (by unfold maxLen at hsz;rw [Array.length_toList];exact hsz))⟩)
 exact ⟨ad,cap,fs,by rw [cU],⟨h3,fun f hf=>(h5 f hf).1⟩,fun f hf=>(h5 f hf).2⟩
theorem open_comps_l {fuel:Nat} {l:List Value} {x:DataW H×List MemPlace} (h:DataW.trod enc Tryz.prog w 0 (fun _=>true) true fuel 22 l=some x):
  ∃ (ad:Option Addr) (cap:Nat) (cs:List Cp),l=[.slice ad cs.length cap]∧cs.length≤cap∧CompsIn (fun b=>w.heap[b]?) ad cs∧NamesIn cs:=by
 obtain ⟨ad,cap,rows,rfl,h1,_,h3,h4⟩:=open_rows_l (e:=86) (sz:=3) V5 V5 V11 h
 obtain ⟨ts,rfl,h5⟩:=map_of (f:=fun t:Cp×Option Addr×Nat=>[.int .i64 t.1.id,.string ⟨t.1.nm.toArray⟩,.slice t.2.1 t.1.fs.length t.2.2]) (q:=fun t=>(FieldsIn (fun b=>w.heap[b]?) t.2.1 t.1.fs∧(-9223372036854775808≤t.1.id∧t.1.id<9223372036854775808))∧t.1.nm.length≤9223372036854775807∧∀ f∈t.1.fs,f.nm.length≤9223372036854775807) (vs:=rows) (fun u hu=>by
  obtain ⟨hlen,n,x,hx⟩:=h4 u hu
  obtain ⟨y0,y1,y2,n',_,_,g0,g1,g2⟩:=Deep.trod_struct3 (t:=86) Tryz.underlying86 hx
  obtain ⟨e0',e1',e2',rfl⟩:∃ c0 c1 c2,u=[c0,c1,c2]:=by
   match u,hlen with
   | [c0,c1,c2],_=>exact ⟨c0,c1,c2,rfl⟩
  obtain ⟨k,e0,_,wa1⟩:=DataW.trod_int (k:=.i64) V5 g0
  obtain ⟨s,e1,_,hsz⟩:=DataW.trod_string V5 g1
  obtain ⟨fad,fcap,fs,e2,hF,hFn⟩:=open_fields_l g2
  have q0:e0' = .int .i64 k:=by simpa using (show ([e0',e1',e2'].drop 0).take 1=[.int .i64 k] from e0)
  have q1:e1' = .string s:=by simpa using (show ([e0',e1',e2'].drop 1).take 1=[.string s] from e1)
  have q2:e2' = .slice fad fs.length fcap:=by simpa using (show ([e0',e1',e2'].drop 2).take 1=[.slice fad fs.length fcap] from e2)
  subst q0 q1 q2
  have b1:=bounds_i64 wa1
  exact ⟨(⟨k,s.data.toList,fs⟩,fad,fcap),rfl,⟨hF,(show -9223372036854775808≤k∧k<9223372036854775808 by omega)⟩,(show s.data.toList.length≤_ from (by unfold maxLen at hsz;rw [Array.length_toList];exact hsz)),hFn⟩)
 refine ⟨ad,cap,ts.map (·.1),by rw [cU,cU],by rw [cU] at h1 ⊢;exact h1,⟨fun i c hc => ?_,fun c hc => ?_⟩,fun c hc => ?_⟩
 ·rw [dI] at hc
  cases ht:ts[i]? with
  | none=>rw [ht] at hc;cases hc
  | some t =>
   rw [ht] at hc
   simp only [Option.map_some,Option.some.injEq] at hc
   subst hc
   obtain ⟨blk,off,arr,el,fr,g1,g2,g3,g4⟩:=h3 i _ (by rw [dI,ht];rfl)
   exact ⟨blk,off,arr,el,fr,t.2.1,t.2.2,g1,g2,g3,g4,(h5 t (dA ht)).1.1⟩
 ·obtain ⟨t,ht,rfl⟩:=List.mem_map.1 hc
  exact (h5 t ht).1.2
 ·obtain ⟨t,ht,rfl⟩:=List.mem_map.1 hc
  exact (h5 t ht).2
theorem cellsS:Tryz.prog.cellsOf 24=2:=by kernel_rfl
theorem open_schema_n {r:Reach} {b0:Nat} {v:Value} {d:DataW H} {p:List MemPlace} (hv:Value.okWide Tryz.prog w r b0 24 v) (h:DataW.Trod enc Tryz.prog w 0 (fun _=>true) true 24 v d p):
  ∃ (ver:Int) (ad:Option Addr) (cap:Nat) (cs:List Cp),v = .agg #[.int .i64 ver,.slice ad cs.length cap]∧cs.length≤cap∧CompsIn (fun b=>w.heap[b]?) ad cs∧NamesIn cs:=by
 obtain ⟨v0,v1,y0,y1,m,rfl,rfl,rfl,hy0,hy1⟩:=open_agg2 Tryz.underlying24 V5 cellsS hv h
 obtain ⟨x,e0,rfl,_⟩:=DataW.trod_int (k:=.i64) V5 hy0
 obtain ⟨ad,cap,cs,e1,h1,h2,h3⟩:=open_comps_l hy1
 simp at e0 e1
 subst e0 e1
 exact ⟨x,ad,cap,cs,O,h1,h2,h3⟩
end
end Go.Proofs.YtbpdbclndfmcgaaGreatDoor
end
section
namespace Go.Lg
open Go Go.RowKit Go.ChangeShapes Go.WideShapes Go.Joins
section
variable {H:Type} {enc:TypeId×Value→H} {P:Program} {w:World}
def Light (P:Program) (t:TypeId) (d:DataW H):Prop := ∀ n∈d.weights P t,n≤reachBytes
theorem Light.all {P:Program} {e:TypeId}:∀ {l:List (DataW H)},(∀ n∈DataW.weightsAll P e l,n≤reachBytes)→∀ d∈l,Light P e d
 | x::t,h,d,hd=>by
  simp only [DataW.weightsAll,List.mem_append] at h
  rcases List.mem_cons.1 hd with rfl|hd
  ·exact fun n hn=>h n (.inl hn)
  ·exact Light.all (fun n hn=>h n (.inr hn)) d hd
 | [],_,d,hd=>by cases hd
theorem Light.slice {P:Program} {t e:TypeId} {elems spare:List (DataW H)} (ht:P.underlying t=some (.slice e)) (h:Light P t (.slice elems spare)):(elems.length+spare.length)*P.bytesOf e≤reachBytes∧∀ d∈elems,Light P e d:=by
 unfold Light at h
 simp only [DataW.weights,ht,List.mem_cons,List.mem_append] at h
 exact ⟨h _ (.inl rfl),Light.all fun n hn=>h n (.inr (.inl hn))⟩
theorem Light.struct2 {P:Program} {t:TypeId} {f0 f1:Field} {a b:DataW H} (ht:P.underlying t=some (.struct #[f0,f1])) (h:Light P t (.agg [a,b])):Light P f0.type a∧Light P f1.type b:=by
 unfold Light at h
 simp only [DataW.weights,ht,List.map_cons,List.map_nil,DataW.weightsEach,List.append_nil,List.mem_append] at h
 exact ⟨fun n hn=>h n (.inl hn),fun n hn=>h n (.inr hn)⟩
theorem Light.struct4 {P:Program} {t:TypeId} {f0 f1 f2 f3:Field} {a b c d:DataW H} (ht:P.underlying t=some (.struct #[f0,f1,f2,f3])) (h:Light P t (.agg [a,b,c,d])):Light P f0.type a∧Light P f1.type b∧Light P f2.type c∧Light P f3.type d:=by
 unfold Light at h
 simp only [DataW.weights,ht,List.map_cons,List.map_nil,DataW.weightsEach,List.append_nil,List.mem_append] at h
 exact ⟨fun n hn=>h n (.inl hn),fun n hn=>h n (.inr (.inl hn)),fun n hn=>h n (.inr (.inr (.inl hn))),fun n hn=>h n (.inr (.inr (.inr hn)))⟩
theorem Light.arg {ts:List TypeId} {ds:List (DataW H)} (h:(DataW.weightsEach P ts ds).all (· ≤ reachBytes)=true) {j:Nat} {t:TypeId} {d:DataW H} (ht:ts[j]? = some t) (hd:ds[j]? = some d):Light P t d:=fun n hn=>by
 have:=List.all_eq_true.1 h n (DataW.weights_mem_each ht hd n hn)
 simpa using this
theorem open_rows_w {t e:TypeId} {sz fuel:Nat} {l:List Value} {x:DataW H×List MemPlace} (ht:P.underlying t=some (.slice e)) (hc:P.cellsOf e=sz) (hsz:1≤sz) (hf:DataW.trod enc P w 0 (fun _=>true) true fuel t l=some x) (hw:Light P t x.1):
  ∃ (ad:Option Addr) (cap:Nat) (rows:List (List Value)),l=[.slice ad rows.length cap]∧rows.length*P.bytesOf e≤reachBytes∧rows.length≤cap∧cap≤maxLen∧RowsIn (fun b=>w.heap[b]?) ad sz rows ∧
   ∀ u,u∈rows→u.length=sz∧∃ (n:Nat) (x:DataW H×List MemPlace),DataW.trod enc P w 0 (fun _=>true) true n e u=some x∧Light P e x.1:=by
 rcases Deep.open_slice ht hf with ⟨h0,_⟩|⟨a',len',cap',m,n,D,Pl,h0,hb,hl,hm,hmm,hd,hx⟩
 ·exact ⟨none,0,[],h0,by simp,Nat.le_refl _,Nat.zero_le _,fun i r h=>by simp at h,fun u hu=>by simp at hu⟩
 ·rw [if_pos rfl] at hmm
  subst hmm
  rw [hd] at hw
  obtain ⟨hw1,hw2⟩:=Light.slice ht hw
  rw [hc] at hx
  have hch:∃ f:Nat→List Value,∀ i,i<m→w.cells? 0 (a'.add (i*sz)) sz=some (f i)∧DataW.trod enc P w 0 (fun _=>true) true n e (f i)=some (D i,Pl i):=by
   refine ⟨fun i=>if hi:i<m then (hx i hi).choose else [],fun i hi => ?_⟩
   simp only [dif_pos hi]
   exact (hx i hi).choose_spec
  obtain ⟨f,hf2⟩:=hch
  have hlen:((List.range len').map f).length=len':=by rw [List.length_map,List.length_range]
  refine ⟨some a',m,(List.range len').map f,by rw [hlen];exact h0,?_,by rw [hlen];exact hl,hm,?_,?_⟩
  ·rw [hlen]
   rw [List.length_map,List.length_range] at hw1
   exact Nat.le_trans (Nat.mul_le_mul_right _ (Nat.le_add_right _ _)) hw1
  ·intro i u hi
   have hi2:i<len':=by
    have:=(List.getElem?_eq_some_iff.1 hi).1
    simpa using this
   have e:u=f i:=by
    rw [List.getElem?_map,List.getElem?_range hi2] at hi
    simpa using hi.symm
   subst e
   have hspot:a'.spot=none:=by
    obtain ⟨h1,_⟩:=hf2 0 (by omega)
    obtain ⟨_,hlen,hcell⟩:=World.cells?_some h1
    have e0:=hcell 0 (by omega)
    rw [Deep.add_add,Nat.zero_mul,Nat.zero_add] at e0
    rw [List.getElem?_eq_getElem (by omega)] at e0
    exact spot_none e0
   obtain ⟨h1,_⟩:=hf2 i (by omega)
   obtain ⟨_,hlen,hcell⟩:=World.cells?_some h1
   obtain ⟨arr,el,fr,hh,hsz2,htk⟩:=cells_row hspot hsz hlen hcell
   refine ⟨a'.block,a'.off,arr,el,fr,?_,hh,hsz2,htk⟩
   obtain ⟨b,o,sp⟩:=a'
   simp only at hspot
   subst hspot
   rfl
  ·intro u hu
   obtain ⟨i,hi,rfl⟩:=List.mem_map.1 hu
   have hi:=List.mem_range.1 hi
   obtain ⟨h1,h2⟩:=hf2 i (by omega)
   exact ⟨(World.cells?_some h1).2.1,n,_,h2,hw2 _ (List.mem_map.2 ⟨i,List.mem_range.2 hi,rfl⟩)⟩
end
end Go.Lg
end
section
set_option maxHeartbeats 12800000
set_option maxRecDepth 100000
namespace Go.Proofs.YtbpdbclndfmcgaaGreatDoor
open Go Go.Lg Go.Lg.Fld
set_option maxRecDepth 100000
theorem rows_in {Y:Nat→Option Obj} {blk:Nat} {arr:Array Value} {el:TypeId} {fr:Nat×Nat} {sz:Nat} {rows:List (List Value)} (hY:Y blk=some (.cells arr el fr)) (hl:∀ r∈rows,r.length=sz) (hsp:∃ sp,arr.toList=rows.flatten++sp):Go.Lg.RowsIn Y (some ⟨blk,0,none⟩) sz rows:=fun i r hi=>by
 obtain ⟨sp,e⟩:=hsp
 obtain ⟨h1,h2⟩:=flat_row hl (sp:=sp) hi
 refine ⟨blk,0,arr,el,fr,O,hY,?_,?_⟩
 ·rw [← Array.length_toList,e];omega
 ·rw [e,Nat.zero_add];exact h2
variable (X:Nat→Option Obj)
end Go.Proofs.YtbpdbclndfmcgaaGreatDoor
end
section
set_option maxHeartbeats 12800000
set_option maxRecDepth 100000
namespace Go.Proofs.YtbpdbclndfmcgaaGreatDoor
open Go Go.Lg Go.Lg.Fld
set_option maxRecDepth 100000
abbrev Ext (X Y:Nat→Option Obj):Prop := ∀ b o,X b=some o→Y b=some o
theorem row_cell {arr:Array Value} {p sz:Nat} {r:List Value} (h:(arr.toList.drop p).take sz=r) {j:Nat} (hj:j<sz):arr[p+j]? = r[j]? := by
 rw [← h,List.getElem?_take,if_pos hj,List.getElem?_drop,Array.getElem?_toList]
variable (X:Nat→Option Obj)
end Go.Proofs.YtbpdbclndfmcgaaGreatDoor
end
section
set_option maxHeartbeats 12800000
set_option maxRecDepth 100000
namespace Go.Proofs.YtbpdbclndfmcgaaGreatDoor
open Go Go.Lg Go.Lg.Fld
set_option maxRecDepth 100000
theorem packE_read {T:Nat}:∀ {es:List (Int×Nat)} {ns:List (Bool×Int)} {b:List UInt8} {i:Nat} {e:Int×Nat} {v:Bool×Int},Within es T→ApartE es→b.length=T→es[i]? = some e→ns[i]? = some v →
  ((packE es ns b).drop e.2).take (kW e.1)=numB e.1 v
 | [],_,_,i,e,v,_,_,_,he,_=>by simp at he
 | _::_,[],_,i,e,v,_,_,_,_,hv=>by simp at hv
 | e0::t,v0::u,b,0,e,v,hw,ha,hb,he,hv=>by
  simp only [List.getElem?_cons_zero,Option.some.injEq] at he hv
  subst he hv
  have h1:=(hw e0 V24).2
  have hl:(setAt b e0.2 (numB e0.1 v0)).length=T:=by rw [setAt_len (by rw [numB_len];omega)];exact hb
  have h2:∀ e∈t,e0.2+kW e0.1≤e.2:=(List.pairwise_cons.1 ha).1
  have h3:=packE_take (ns:=u) (q:=e0.2+kW e0.1) (fun x hx=>hw x V28) h2 hl
  show ((packE t u (setAt b e0.2 (numB e0.1 v0))).drop e0.2).take (kW e0.1)=numB e0.1 v0
  rw [drop_take_eq h3]
  have:=setAt_read (b:=b) (s:=numB e0.1 v0) (p:=e0.2) (by rw [numB_len];omega)
  rw [numB_len] at this
  exact this
 | e0::t,v0::u,b,i+1,e,v,hw,ha,hb,he,hv=>by
  have h1:=(hw e0 V24).2
  have hl:(setAt b e0.2 (numB e0.1 v0)).length=T:=by rw [setAt_len (by rw [numB_len];omega)];exact hb
  exact packE_read (es:=t) (ns:=u) (fun x hx=>hw x V28) (List.pairwise_cons.1 ha).2 hl (by simpa using he) (by simpa using hv)
theorem qn_zv {b:Bool} {N:Int} (hN:In2 N) (h:formB b N=true):qn (zv b N)=(b,N):=by
 obtain ⟨_,h1,h2⟩:=zv_in hN h
 unfold qn
 rw [h1,h2]
theorem packB_len {fs:List Fl} (h:fs.all Fl.ok=true) (ns:List (Bool×Int)):(packB fs ns).length=rowSize fs:=packE_len (within_row h) (by rw [dB])
theorem pack_read {fs:List Fl} {ns:List (Bool×Int)} (hn:∀ n∈ns,In2 n.2) (h:fitErr fs ns=0) {i:Nat} {e:Int×Nat} {b:Bool} {N:Int} (he:(elemsAt 0 fs)[i]? = some e) (hv:ns[i]? = some (b,N)):
  rdE (packB fs ns) e=zv b N:=by
 obtain ⟨hl,hlen,hfit⟩:=fitErr_facts h
 obtain ⟨_,hall,_⟩:=layErr_facts hl
 obtain ⟨g1,g2,g3⟩:=fitAll_at hfit he hv
 have hr:=packE_read (b:=List.replicate (rowSize fs) 0) (within_row hall) (elems_apart fs 0 hall) (by rw [dB]) he hv
 unfold rdE packB
 rw [hr]
 unfold numB
 rw [le_leB _ _ (wd_lt g2 _),nb_wd g2 g3]
theorem pack_back {fs:List Fl} {ns:List (Bool×Int)} (hn:∀ n∈ns,In2 n.2) (h:fitErr fs ns=0):unpErr fs (packB fs ns)=0∧(unpZ fs (packB fs ns)).map qn=ns:=by
 obtain ⟨hl,hlen,hfit⟩:=fitErr_facts h
 obtain ⟨_,hall,_⟩:=layErr_facts hl
 have hback:(unpZ fs (packB fs ns)).map qn=ns:=by
  apply List.ext_getElem?
  intro i
  unfold unpZ
  rw [dI,dI]
  cases he:(elemsAt 0 fs)[i]? with
  | none =>
   have h1:=List.getElem?_eq_none_iff.1 he
   rw [List.getElem?_eq_none (by omega)]
   rfl
  | some e =>
   have h1:=(wl he)
   obtain ⟨⟨b,N⟩,hv⟩:∃ v,ns[i]? = some v:=wg V3
   obtain ⟨g1,g2,g3⟩:=fitAll_at hfit he hv
   rw [hv]
   show some (qn (rdE (packB fs ns) e))=some (b,N)
   rw [pack_read hn h he hv,qn_zv (hn _ (dA hv)) g1]
 refine ⟨?_,hback⟩
 unfold unpErr
 rw [if_pos hl,if_pos]
 unfold unpOk
 rw [hback]
 simp only [Bool.and_eq_true,decide_eq_true_eq,beq_self_eq_true,and_true]
 refine ⟨packB_len hall ns,?_⟩
 unfold readOk
 refine List.all_eq_true.2 fun e he => ?_
 obtain ⟨i,hi⟩:=List.getElem?_of_mem he
 have h1:=(wl hi)
 obtain ⟨⟨b,N⟩,hv⟩:∃ v,ns[i]? = some v:=wg V3
 obtain ⟨g1,g2,g3⟩:=fitAll_at hfit hi hv
 rw [pack_read hn h hi hv]
 exact g3
variable (X:Nat→Option Obj)
theorem fitErr_small (fs:List Fl) (ns:List (Bool×Int)) : -9223372036854775808≤fitErr fs ns∧fitErr fs ns<9223372036854775808:=by
 unfold fitErr layErr;(repeat' split)<;>omega
end Go.Proofs.YtbpdbclndfmcgaaGreatDoor
end
section
set_option maxHeartbeats 12800000
set_option maxRecDepth 100000
namespace Go.Proofs.YtbpdbclndfmcgaaGreatDoor
open Go Go.Lg Go.Lg.Fld
set_option maxRecDepth 100000
theorem reads_rows {X:Nat→Option Obj} {ad:Option Addr} {sz:Nat} {rows:List (List Value)} (hsz:1≤sz) (hl:∀ r∈rows,r.length=sz) (h:Go.Lg.RowsIn X ad sz rows):ReadsX X ad rows.flatten:=⟨fun j u hj=>by
 have hfl:rows.flatten.length=rows.length*sz:=by
  clear h hj
  induction rows with
  | nil=>simp
  | cons r t ih =>
   simp only [List.flatten_cons,cT,dF,ih (fun x hx=>hl x (by simp [hx])),hl r (by simp)]
   rw [Nat.add_mul,Nat.one_mul];omega
 have hjl:=(wl hj)
 have hi:j/sz<rows.length:=Nat.div_lt_of_lt_mul (by rw [Nat.mul_comm];omega)
 obtain ⟨r,hr⟩:∃ r,rows[j/sz]? = some r:=⟨_,cV hi⟩
 obtain ⟨h1,h2⟩:=flat_row hl (sp:=[]) hr
 rw [dG] at h1 h2
 obtain ⟨blk,off,arr,el,fr,e1,e2,e3,e4⟩:=h _ r hr
 have hq:j%sz<sz:=Nat.mod_lt _ V3
 have hje:j=j/sz*sz+j%sz:=by rw [Nat.mul_comm];exact (Nat.div_add_mod j sz).symm
 refine ⟨blk,off,arr,el,fr,e1,e2,?_⟩
 have h3:=row_cell e4 hq
 have h4:r[j%sz]? = some u:=by
  rw [← h2,List.getElem?_take,if_pos hq,List.getElem?_drop,← hje];exact hj
 rw [h4] at h3
 rw [hje,← Nat.add_assoc];exact h3⟩
end Go.Proofs.YtbpdbclndfmcgaaGreatDoor
end
section
set_option maxHeartbeats 12800000
set_option maxRecDepth 100000
namespace Go.Proofs.YtbpdbclndfmcgaaGreatDoor
open Go Go.Lg Go.Lg.Fld
set_option maxRecDepth 100000
theorem snoc_get {α:Type} {l:List α} {a x:α} {i:Nat} (h:(l++[a])[i]? = some x):(i<l.length∧l[i]? = some x)∨(i=l.length∧x=a):=by
 by_cases e:i<l.length
 ·rw [dN e] at h;exact .inl ⟨e,h⟩
 ·have h1:=(wl h)
  rw [cT] at h1
  simp only [cW] at h1
  have e2:i=l.length:=by omega
  subst e2
  rw [List.getElem?_append_right (dK _),Nat.sub_self] at h
  simp only [List.getElem?_cons_zero,Option.some.injEq] at h
  exact .inr ⟨O,h.symm⟩
def nmsV (a:List (Bool×Int)):List Value:=(a.map nmV).flatten
theorem nmsV_len (a:List (Bool×Int)):((nmsV a).map CV.val).length=a.length*3:=by
 unfold nmsV
 rw [cU]
 induction a with
 | nil=>rfl
 | cons x t ih=>simp only [List.map_cons,List.flatten_cons,cT,dF,ih,nmV,dL];omega
theorem nms_in {Y:Nat→Option Obj} {blk:Nat} {arr:Array Value} {el:TypeId} {fr:Nat×Nat} {a:List (Bool×Int)} (hY:Y blk=some (.cells arr el fr)) (hi:∀ u∈a,In2 u.2) (hsp:∃ sp,arr.toList=nmsV a++sp):NumsIn Y (some ⟨blk,0,none⟩) a:=
 ⟨rows_in hY (fun r hr=>by obtain ⟨x,_,rfl⟩:=List.mem_map.1 hr;rfl) hsp,hi⟩
theorem nmsV_one (r:List (Bool×Int)):∀ u∈nmsV r,u.oneCell'=true:=fun u hu=>by
 unfold nmsV at hu
 rw [List.mem_flatten] at hu
 obtain ⟨q,hq,hu⟩:=hu
 obtain ⟨n,_,rfl⟩:=List.mem_map.1 hq
 unfold nmV at hu
 simp only [List.mem_cons,List.not_mem_nil,or_false] at hu
 rcases hu with rfl|rfl|rfl<;>rfl
theorem nums_reads2 {X:Nat→Option Obj} {ad:Option Addr} {r:List (Bool×Int)} (h:NumsIn X ad r):ReadsX X ad (nmsV r):=reads_rows V11 (fun q hq=>by obtain ⟨x,_,rfl⟩:=List.mem_map.1 hq;rfl) h.rows
theorem nums_none2 {X:Nat→Option Obj} {r:List (Bool×Int)} (h:NumsIn X none r):r=[]:=by
 cases r with
 | nil=>rfl
 | cons u t =>
  obtain ⟨b,N⟩:=u
  obtain ⟨_,blk,off,arr,el,fr,h1,_⟩:=h.at (i:=0) (b:=b) (N:=N) rfl
  cases h1
def prtR (t:TypeId) (ps:List Pt):Rsc:=⟨fun ρ H=>(∃ (arr:Array Value) (fr:Nat×Nat),H ρ.1=some (.cells arr t fr)∧arr.size=ρ.2)∧PartsIn H (some ⟨ρ.1,0,none⟩) ps⟩
abbrev prtB (k:Nat) (ps:List Pt):Nat×Option Box:=(k,some ⟨0,[],.res (prtR 50 ps)⟩)
abbrev nmsB (k:Nat) (l:List (Bool×Int)) (row:Bool):Nat×Option Box:=(k,some ⟨82,(nmsV l).map .val,row⟩)
structure PartsC (X:Nat→Option Obj) (ad:Option Addr) (ps:List Pt):Prop where
 at_:∀ (i:Nat) (p:Pt),ps[i]? = some p→∃ (blk off:Nat) (arr:Array Value) (el:TypeId) (fr:Nat×Nat) (vad:Option Addr) (vcap:Nat),ad=some ⟨blk,off,none⟩∧X blk=some (.cells arr el fr)∧off+i*2+2≤arr.size ∧
  (arr.toList.drop (off+i*2)).take 2=[.int .i64 p.comp,.slice vad p.val.length vcap]∧NumsIn X vad p.val∧p.val.length≤vcap
 small:∀ p∈ps,-9223372036854775808≤p.comp∧p.comp<9223372036854775808
theorem PartsC.parts {X:Nat→Option Obj} {ad:Option Addr} {ps:List Pt} (h:PartsC X ad ps):PartsIn X ad ps:=⟨fun i p hp=>by
 obtain ⟨blk,off,arr,el,fr,vad,vcap,h1,h2,h3,h4,h5,_⟩:=h.at_ i p hp
 exact ⟨blk,off,arr,el,fr,vad,vcap,h1,h2,h3,h4,h5⟩,h.small⟩
theorem PartsC.mono {X Y:Nat→Option Obj} (hXY:∀ b o,X b=some o→Y b=some o) {ad:Option Addr} {ps:List Pt} (h:PartsC X ad ps):PartsC Y ad ps:=⟨fun i p hp=>by
 obtain ⟨blk,off,arr,el,fr,vad,vcap,h1,h2,h3,h4,h5,h6⟩:=h.at_ i p hp
 exact ⟨blk,off,arr,el,fr,vad,vcap,h1,hXY _ _ h2,h3,h4,⟨h5.rows.mono hXY,h5.in2⟩,h6⟩,h.small⟩
theorem PartsC.get {X:Nat→Option Obj} {ad:Option Addr} {ps:List Pt} (h:PartsC X ad ps) {i:Nat} {p:Pt} (hc:ps[i]? = some p):∃ (blk off:Nat) (arr:Array Value) (el:TypeId) (fr:Nat×Nat) (vad:Option Addr) (vcap:Nat),ad=some ⟨blk,off,none⟩∧X blk=some (.cells arr el fr)∧off+i*2+2≤arr.size ∧
  ((arr.toList.drop (off+i*2)).take 2).map CV.val=[.val (.int .i64 p.comp),.val (.slice vad p.val.length vcap)]∧arr[off+i*2]? = some (.int .i64 p.comp)∧arr[off+i*2+1]? = some (.slice vad p.val.length vcap)∧NumsIn X vad p.val∧p.val.length≤vcap:=by
 obtain ⟨blk,off,arr,el,fr,vad,vcap,h1,h2,h3,h4,h5,h6⟩:=h.at_ i p hc
 obtain ⟨g1,g2⟩:=two_at h4
 exact ⟨blk,off,arr,el,fr,vad,vcap,h1,h2,h3,by rw [h4];rfl,g1,g2,h5,h6⟩
def ptZ:List Pt→List Value→List Value
 | p::ps,v::vs=>.int .i64 p.comp::v::ptZ ps vs
 | _,_=>[]
theorem ptZ_len:∀ {rs:List Pt} {ws:List Value},ws.length=rs.length→(ptZ rs ws).length=rs.length*2
 | [],[],_=>rfl
 | c::cs,v::vs,h=>by
  simp only [ptZ,dF] at h ⊢
  rw [ptZ_len (rs:=cs) (ws:=vs) (by omega)];omega
 | [],_::_,h=>by simp at h
 | _::_,[],h=>by simp at h
theorem ptZ_add:∀ {rs:List Pt} {ws:List Value} {r:Pt} {v:Value},ws.length=rs.length→ptZ (rs++[r]) (ws++[v])=ptZ rs ws++[.int .i64 r.comp,v]
 | [],[],_,_,_=>rfl
 | c::cs,w::ws,r,v,h=>by
  simp only [dF] at h
  simp only [List.cons_append,ptZ]
  rw [ptZ_add (rs:=cs) (ws:=ws) (by omega)]
 | [],_::_,_,_,h=>by simp at h
 | _::_,[],_,_,h=>by simp at h
theorem ptZ_at:∀ {i:Nat} {rs:List Pt} {ws sp:List Value} {r:Pt} {w:Value},rs[i]? = some r→ws[i]? = some w→((ptZ rs ws++sp).drop (i*2)).take 2=[.int .i64 r.comp,w]
 | 0,c::cs,v::vs,sp,r,w,h1,h2=>by
  simp only [List.getElem?_cons_zero,Option.some.injEq] at h1 h2
  subst h1 h2
  rfl
 | i+1,c::cs,v::vs,sp,r,w,h1,h2=>by
  simp only [List.getElem?_cons_succ] at h1 h2
  have:=ptZ_at (sp:=sp) h1 h2
  rw [show (i+1)*2=i*2+2 by omega]
  exact this
 | _,[],_,_,_,_,h,_=>by simp at h
 | _,_::_,[],_,_,_,_,h=>by simp at h
structure PartsH (H:Nat→Option Obj) (ws:List Value) (ps:List Pt):Prop where
 len:ws.length=ps.length
 at_:∀ (i:Nat) (w:Value) (p:Pt),ws[i]? = some w→ps[i]? = some p→∃ (vad:Option Addr) (vcap:Nat),w = .slice vad p.val.length vcap∧NumsIn H vad p.val
theorem PartsH.nil {H:Nat→Option Obj}:PartsH H [] []:=⟨rfl,fun i v c h=>by simp at h⟩
theorem PartsH.mono {H H':Nat→Option Obj} (hH:∀ b o,H b=some o→H' b=some o) {vs:List Value} {cs:List Pt} (G:PartsH H vs cs):PartsH H' vs cs:=⟨G.len,fun i v c hv hc=>by
 obtain ⟨vad,vcap,h1,h2⟩:=G.at_ i v c hv hc
 exact ⟨vad,vcap,h1,h2.rows.mono hH,h2.in2⟩⟩
theorem PartsH.push {H:Nat→Option Obj} {vs:List Value} {cs:List Pt} (G:PartsH H vs cs) {v:Value} {c:Pt} (hv:∃ (vad:Option Addr) (vcap:Nat),v = .slice vad c.val.length vcap∧NumsIn H vad c.val):PartsH H (vs++[v]) (cs++[c]):=⟨by rw [cT,cT,G.len];rfl,fun i w d hw hd=>by
 have hl:=G.len
 rcases snoc_get hw with ⟨h1,h2⟩|⟨h1,rfl⟩
 ·rcases snoc_get hd with ⟨h3,h4⟩|⟨h3,_⟩
  ·exact G.at_ i w d h2 h4
  ·omega
 ·rcases snoc_get hd with ⟨h3,_⟩|⟨_,rfl⟩
  ·omega
  ·exact hv⟩
def smallP (p:Pt):Prop := -9223372036854775808≤p.comp∧p.comp<9223372036854775808
theorem prt_block {Y:Nat→Option Obj} {blk:Nat} {arr:Array Value} {el:TypeId} {fr:Nat×Nat} {ws sp:List Value} {rs:List Pt} (hY:Y blk=some (.cells arr el fr)) (h:arr.toList=ptZ rs ws++sp) (G:PartsH Y ws rs) (hs:∀ r∈rs,smallP r):PartsIn Y (some ⟨blk,0,none⟩) rs:=⟨fun i r hr=>by
 have hi:=(wl hr)
 have hl:=G.len
 obtain ⟨v,hv⟩:∃ v,ws[i]? = some v:=wg V3
 obtain ⟨ead,ecap,h1,h2⟩:=G.at_ i v r hv hr
 have hsz:arr.size=rs.length*2+sp.length:=by rw [← Array.length_toList,h,cT,ptZ_len hl]
 refine ⟨blk,0,arr,el,fr,ead,ecap,O,hY,by omega,?_,h2⟩
 rw [h,Nat.zero_add,ptZ_at hr hv,h1],hs⟩
section
variable {n:Nat} {C:Ctx} {X:Nat→Option Obj} {s:List (Nat×LV)} {bx:List (Nat×Option Box)} {k:Nat}
theorem prt_shut {Mid:St→Prop} {t:TypeId} {rs:List Pt} {H:Nat→Option Obj} {ws sp:List Value} (hO:OwnedM C X H) (G:PartsH H ws rs) (hs:∀ r∈rs,smallP r)
  (h:Leads n C Mid ⟨s,(k,some ⟨0,[],.res (prtR t rs)⟩)::bx,X⟩):Leads n C Mid ⟨s,(k,some ⟨t,(ptZ rs ws++sp).map .val,false⟩)::bx,joinM X H⟩:=by
 refine Leads.closeRes (vals:=ptZ rs ws++sp) hO (fun ρ fr h1 h2 h3 => ?_) h
 refine ⟨⟨_,fr,cK _ _ _,by rw [h3];simp⟩,?_⟩
 exact prt_block (cK _ _ _) (by simp;rfl) (G.mono (cG h1)) hs
end
theorem nms_leads {H:Nat→Option Obj} {b:Nat} {v:Value} {el:TypeId} {c:List (Bool×Int)} (h:LeadsTo H b v el 3 (nmsV c)) (hs:∀ x∈c,In2 x.2):∃ (vad:Option Addr) (vcap:Nat),v = .slice vad c.length vcap∧NumsIn H vad c:=by
 obtain ⟨len,cap,arr,fr,h1,h2,_,_,h5,h6⟩:=h
 have hl:=nmsV_len c
 rw [cU] at hl
 have e:len=c.length:=by omega
 subst e
 exact ⟨_,cap,h1,nms_in h5 hs h6⟩
end Go.Proofs.YtbpdbclndfmcgaaGreatDoor
end
section
set_option maxHeartbeats 12800000
set_option maxRecDepth 100000
namespace Go.Proofs.YtbpdbclndfmcgaaGreatDoor
open Go Go.Lg Go.Lg.Fld Go.RowKit Go.ChangeShapes Go.WideShapes Go.Joins
set_option maxRecDepth 100000
section
variable {H:Type} {enc:TypeId×Value→H} {w:World}
theorem open_nums_w {fuel:Nat} {l:List Value} {x:DataW H×List MemPlace} (h:DataW.trod enc Tryz.prog w 0 (fun _=>true) true fuel 40 l=some x) (hw:Light Tryz.prog 40 x.1):
  ∃ (ad:Option Addr) (cap:Nat) (ns:List (Bool×Int)),l=[.slice ad ns.length cap]∧ns.length≤cap∧ns.length≤4398046511104*4∧NumsIn (fun b=>w.heap[b]?) ad ns:=by
 obtain ⟨ad,cap,rows,rfl,hb,hc,_,h3,h4⟩:=open_rows_w (e:=82) (sz:=3) V5 V5 V11 h hw
 obtain ⟨ns,rfl,h5⟩:=map_of (f:=nmV) (q:=fun n=>In2 n.2) (vs:=rows) (fun u hu=>by
  obtain ⟨hlen,n,x,hx,_⟩:=h4 u hu
  obtain ⟨y0,y1,y2,n',_,_,g0,g1,g2⟩:=Deep.trod_struct3 (t:=82) Tryz.underlying82 hx
  obtain ⟨e0',e1',e2',rfl⟩:∃ c0 c1 c2,u=[c0,c1,c2]:=by
   match u,hlen with
   | [c0,c1,c2],_=>exact ⟨c0,c1,c2,rfl⟩
  obtain ⟨b,e0,_⟩:=DataW.trod_bool V5 g0
  obtain ⟨x,e1,_,wa1⟩:=DataW.trod_int (k:=.u64) V5 g1
  obtain ⟨y,e2,_,wa2⟩:=DataW.trod_int (k:=.u64) V5 g2
  have q0:e0' = .bool b:=by simpa using (show ([e0',e1',e2'].drop 0).take 1=[.bool b] from e0)
  have q1:e1' = .int .u64 x:=by simpa using (show ([e0',e1',e2'].drop 1).take 1=[.int .u64 x] from e1)
  have q2:e2' = .int .u64 y:=by simpa using (show ([e0',e1',e2'].drop 2).take 1=[.int .u64 y] from e2)
  subst q0 q1 q2
  have b1:=bounds_u64 wa1
  have b2:=bounds_u64 wa2
  refine ⟨(b,x*18446744073709551616+y),?_,by show 0≤x*18446744073709551616+y;omega,by show x*18446744073709551616+y<_;omega⟩
  unfold nmV
  rw [show (b,x*18446744073709551616+y).2/18446744073709551616=x by show (x*18446744073709551616+y)/18446744073709551616=x;omega,show (b,x*18446744073709551616+y).2%18446744073709551616=y by show (x*18446744073709551616+y)%18446744073709551616=y;omega])
 exact ⟨ad,cap,ns,by rw [cU],by rw [cU] at hc;exact hc,by rw [cU,show Tryz.prog.bytesOf 82=24 by kernel_rfl,show reachBytes=140737488351232 by decide] at hb;omega,h3,h5⟩
theorem open_parts_w {fuel:Nat} {l:List Value} {x:DataW H×List MemPlace} (h:DataW.trod enc Tryz.prog w 0 (fun _=>true) true fuel 43 l=some x) (hw:Light Tryz.prog 43 x.1):
  ∃ (ad:Option Addr) (cap:Nat) (ps:List Pt),l=[.slice ad ps.length cap]∧ps.length≤cap∧ps.length≤4398046511104*4∧PartsC (fun b=>w.heap[b]?) ad ps∧∀ x∈ps,x.val.length≤4398046511104*4:=by
 obtain ⟨ad,cap,rows,rfl,hb,h1,_,h3,h4⟩:=open_rows_w (e:=50) (sz:=2) V5 V5 V11 h hw
 obtain ⟨ts,rfl,h5⟩:=map_of (f:=fun t:Pt×Option Addr×Nat=>[.int .i64 t.1.comp,.slice t.2.1 t.1.val.length t.2.2]) (q:=fun t=>(NumsIn (fun b=>w.heap[b]?) t.2.1 t.1.val∧t.1.val.length≤t.2.2∧t.1.val.length≤4398046511104*4)∧(-9223372036854775808≤t.1.comp∧t.1.comp<9223372036854775808)) (vs:=rows) (fun u hu=>by
  obtain ⟨hlen,n,x,hx,hxw⟩:=h4 u hu
  obtain ⟨y0,y1,n',ex,_,g0,g1⟩:=trod_struct2 (t:=50) Tryz.underlying50 hx
  rw [ex] at hxw
  have hF3:=(Light.struct2 Tryz.underlying50 hxw).2
  obtain ⟨e0',e1',rfl⟩:∃ c0 c1,u=[c0,c1]:=by
   match u,hlen with
   | [c0,c1],_=>exact ⟨c0,c1,rfl⟩
  obtain ⟨k,e0,_,wa1⟩:=DataW.trod_int (k:=.i64) V5 g0
  obtain ⟨vad,vcap,ns,e1,hF1,hF2,hF⟩:=open_nums_w g1 hF3
  have q0:e0' = .int .i64 k:=by simpa using (show ([e0',e1'].drop 0).take 1=[.int .i64 k] from e0)
  have q1:e1' = .slice vad ns.length vcap:=by simpa using (show ([e0',e1'].drop 1).take 1=[.slice vad ns.length vcap] from e1)
  subst q0 q1
  have b1:=bounds_i64 wa1
  exact ⟨(⟨k,ns⟩,vad,vcap),O,⟨hF,hF1,hF2⟩,(show -9223372036854775808≤k∧k<9223372036854775808 by omega)⟩)
 refine ⟨ad,cap,ts.map (·.1),by rw [cU,cU],by rw [cU] at h1 ⊢;exact h1,by rw [cU,show Tryz.prog.bytesOf 50=32 by kernel_rfl,show reachBytes=140737488351232 by decide] at hb;rw [cU];omega,⟨fun i c hc => ?_,fun c hc => ?_⟩,fun c hc => ?_⟩
 ·rw [dI] at hc
  cases ht:ts[i]? with
  | none=>rw [ht] at hc;cases hc
  | some t =>
   rw [ht] at hc
   simp only [Option.map_some,Option.some.injEq] at hc
   subst hc
   obtain ⟨blk,off,arr,el,fr,g1,g2,g3,g4⟩:=h3 i _ (by rw [dI,ht];rfl)
   exact ⟨blk,off,arr,el,fr,t.2.1,t.2.2,g1,g2,g3,g4,(h5 t (dA ht)).1.1,(h5 t (dA ht)).1.2.1⟩
 ·obtain ⟨t,ht,rfl⟩:=List.mem_map.1 hc
  exact (h5 t ht).2
 ·obtain ⟨t,ht,rfl⟩:=List.mem_map.1 hc
  exact (h5 t ht).1.2.2
end
end Go.Proofs.YtbpdbclndfmcgaaGreatDoor
end
section
set_option maxHeartbeats 12800000
set_option maxRecDepth 100000
namespace Go.Lg.Fld
open Go Go.Lg
section
variable {cs:List Cp} {i:Nat} {c:Cp}
theorem cmpE_at (h:cs[i]? = some c):cmpE cs i=if c.id<1∨24<c.id∨(0<i∧c.id≤prevId cs i) then 1
  else if nmB c.nm=true then (if (cs.take i).any (fun g=>g.nm==c.nm)=true then 4 else if firstE (fldE c.fs) 0 c.fs.length=0 then layErr c.fs else 4) else 4:=by unfold cmpE;rw [h]
theorem fldE_at {fs:List Fl} {k:Nat} {f:Fl} (h:fs[k]? = some f):fldE fs k=if nmB f.nm=true then (if (fs.take k).any (fun g=>g.nm==f.nm)=true then 4 else 0) else 4:=by unfold fldE;rw [h]
theorem prev_at {p:Cp} (h:cs[i-1]? = some p):prevId cs i=p.id:=by unfold prevId;rw [h];rfl
end
theorem FieldsIn.nm {X:Nat→Option Obj} {ad:Option Addr} {fs:List Fl} (h:FieldsIn X ad fs) {k:Nat} {f:Fl} (hf:fs[k]? = some f):
  ∃ (blk off:Nat) (arr:Array Value) (el:TypeId) (fr:Nat×Nat),ad=some ⟨blk,off,none⟩∧X blk=some (.cells arr el fr)∧arr[off+k*3]? = some (.string ⟨f.nm.toArray⟩):=by
 obtain ⟨blk,off,arr,el,fr,h1,h2,h3,h4⟩:=h.rows k f.vals (by rw [dI,hf];rfl)
 exact ⟨blk,off,arr,el,fr,h1,h2,(three_at h4).1⟩
end Go.Lg.Fld
namespace Go.Proofs.YtbpdbclndfmcgaaGreatDoor
open Go Go.Lg Go.Lg.Fld
set_option maxRecDepth 100000
variable (X:Nat→Option Obj)
abbrev cpB (k:Nat) (c:Cp) (fad:Option Addr) (fcap:Nat):Nat×Option Box:=(k,some ⟨86,[.val (.int .i64 c.id),.val (.string ⟨c.nm.toArray⟩),.val (.slice fad c.fs.length fcap)],false⟩)
set_option maxHeartbeats 6400000 in
theorem sCheck_spec (s:Sc) (ad:Option Addr) (cap:Nat) (hin:CompsIn X ad s.cs) (hbig:s.cs.length<4611686018427387904) (hfs:∀ c∈s.cs,c.fs.length<4611686018427387904):
  PSpec Tryz.prog X 41 [Sx s.ver ad s.cs.length cap] (Ln .i64 (chkE s)):=by
 obtain ⟨ver,cs⟩:=s
 simp only at hin hbig hfs ⊢
 refine cD Tryz.func41 rfl V5 rfl rfl ?_
 intro C
 unfold chkE
 by_cases hv1:ver<1
 ·rw [if_pos (.inl hv1)]
  (refine U10 ?_;refine klt rfl rfl (cM hv1) ?_;refine U12 ?_)
  exact V6
 by_cases hv2:1073741824<ver
 ·rw [if_pos (.inr hv2)]
  (refine U10 ?_;refine klt O O (cL hv1) ?_;refine U3 ?_;refine aS O O (cM hv2) (dP O O) ?_;refine U8 ?_)
  exact V6
 rw [if_neg (show ¬(ver<1∨1073741824<ver) by omega)]
 (refine U10 ?_;refine klt O O (cL hv1) ?_;refine U3 ?_;refine aS O O (cL hv2) (dP O O) ?_;refine U10 ?_)
 refine cH (fun m σ=>∃ i:Nat,i≤cs.length∧m=cs.length-i∧(∀ j,0≤j→j<i→cmpE cs j=0)∧σ=⟨[(1,Lp 1),(3,Ln .i64 (i:Nat))],[sxB 1 ver ad cs.length cap],X⟩) cs.length
  ⟨_,Le.of VA VF V2 V2 V0,0,by omega,by omega,fun j _ hj=>absurd hj V3,rfl⟩ ?_
 rintro m σ ⟨i,hi,rfl,hpre,rfl⟩
 by_cases hlt:i<cs.length
 ·obtain ⟨c,hc⟩:=wg hlt
  obtain ⟨blk,off,arr,el,fr,fad,fcap,rfl,hX,hsz,hcs,g1,g2,g3,hF⟩:=hin.get hc
  have hio:=wo off i 3
  have hE:=cmpE_at hc
  have hfb:=hfs c (dA hc)
  have fin:∀ e,cmpE cs i=e→e≠0→firstE (cmpE cs) 0 cs.length=e:=fun e he h0=>firstE_some hpre (Nat.zero_le _) V3 he h0
  refine U25 ?_
  refine LWP.le (σ':=⟨[(1,Lp 1),(3,Ln .i64 (i:Nat)),(4,Lp 4)],[sxB 1 ver (some ⟨blk,off,none⟩) cs.length cap,cpB 4 c fad fcap],X⟩) (Le.of V9 VA V2 V2 V0) ?_
  by_cases h1:c.id<1
  ·rw [if_pos (.inl h1)] at hE
   rw [fin 1 hE (by decide)]
   (refine rgD mixed ?_;refine U2 ?_;refine klt rfl rfl (cM h1) ?_;refine U29 ?_)
   exact V6
  by_cases h2:24<c.id
  ·rw [if_pos (.inr (.inl h2))] at hE
   rw [fin 1 hE (by decide)]
   (refine rgD mixed ?_;refine U2 ?_;refine klt O O (cL h1) ?_;refine U3 ?_;refine aS O O (cM h2) (dP O O) ?_;refine U25 ?_)
   exact V6
  by_cases hbad:0<i∧c.id≤prevId cs i
  ·obtain ⟨q,hq⟩:∃ q,cs[i-1]? = some q:=wg V3
   rw [if_pos (.inr (.inr hbad))] at hE
   rw [prev_at hq] at hbad
   rw [fin 1 hE (by decide)]
   obtain ⟨blk',off',arr',el',fr',_,_,e1,hX',_,_,g1',_,_,_⟩:=hin.get hq
   simp only [Option.some.injEq,Addr.mk.injEq] at e1
   obtain ⟨rfl,rfl,_⟩:=e1
   rw [hX] at hX'
   simp only [Option.some.injEq,Obj.cells.injEq] at hX'
   obtain ⟨rfl,rfl,rfl⟩:=hX'
   have hsub:IntKind.i64.wrap (((i:Nat):Int)-1)=((i-1:Nat):Int):=by rw [cF V3];omega
   have hio2:off+Int.toNat ((i-1:Nat):Int)*3=off+(i-1)*3:=by rw [dD]
   (refine rgD mixed ?_;refine U2 ?_;refine klt O O (cL h1) ?_;refine U3 ?_;refine aS O O (cL h2) (dP O O) ?_;refine U3 ?_;refine aS O O (cM V3) (dP O O) ?_;refine U4 ?_;refine K.sub O O hsub (dP O O) ?_;refine aR O O bZ V3 hio2 (dP O O) ?_;refine bH O O (dP O O) ?_;refine aW O hX O g1' (dP O O) ?_;refine U2 ?_;refine bD O O (cM hbad.2) (dP O O) ?_;refine bF O O (dP O O) ?_;refine U9 ?_)
   exact V6
  rw [if_neg (show ¬(c.id<1∨24<c.id∨(0<i∧c.id≤prevId cs i)) from fun h=>h.elim h1 fun h=>h.elim h2 hbad)] at hE
  refine LWP.meet0 (fun σ=>σ=⟨[(1,Lp 1),(3,Ln .i64 (i:Nat)),(4,Lp 4),(55,Lb false)],[sxB 1 ver (some ⟨blk,off,none⟩) cs.length cap,cpB 4 c fad fcap],X⟩) ?_ ?_
  ·by_cases hi0:i=0
   ·subst hi0
    (refine rgD mixed ?_;refine U2 ?_;refine klt O O (cL h1) ?_;refine U3 ?_;refine aS O O (cL h2) (dP O O) ?_;refine U3 ?_;refine aS O O (cL V3) (dP O O) ?_;refine U11 ?_;refine bO O O (dP O O) ?_;refine U3 ?_)
    exact ⟨_,Le.of VD VA V2 V2 V0,O⟩
   ·obtain ⟨q,hq⟩:∃ q,cs[i-1]? = some q:=wg V3
    rw [prev_at hq] at hbad
    obtain ⟨blk',off',arr',el',fr',_,_,e1,hX',_,_,g1',_,_,_⟩:=hin.get hq
    simp only [Option.some.injEq,Addr.mk.injEq] at e1
    obtain ⟨rfl,rfl,_⟩:=e1
    rw [hX] at hX'
    simp only [Option.some.injEq,Obj.cells.injEq] at hX'
    obtain ⟨rfl,rfl,rfl⟩:=hX'
    have hsub:IntKind.i64.wrap (((i:Nat):Int)-1)=((i-1:Nat):Int):=by rw [cF V3];omega
    have hio2:off+Int.toNat ((i-1:Nat):Int)*3=off+(i-1)*3:=by rw [dD]
    (refine rgD mixed ?_;refine U2 ?_;refine klt O O (cL h1) ?_;refine U3 ?_;refine aS O O (cL h2) (dP O O) ?_;refine U3 ?_;refine aS O O (cM V3) (dP O O) ?_;refine U4 ?_;refine K.sub O O hsub (dP O O) ?_;refine aR O O bZ V3 hio2 (dP O O) ?_;refine bH O O (dP O O) ?_;refine aW O hX O g1' (dP O O) ?_;refine U2 ?_;refine bD O O (cL V3) (dP O O) ?_;refine bF O O (dP O O) ?_;refine U3 ?_)
    exact ⟨_,Le.of VD VA V2 V2 V0,O⟩
  rintro σ rfl
  have hNm:=sName_spec X c.nm
  by_cases hnm:nmB c.nm=true
  ·rw [hnm] at hNm
   rw [if_pos hnm] at hE
   refine U18 ?_
   refine cH (fun m σ=>∃ k:Nat,k≤i∧m=i-k∧(∀ (j:Nat) (y:Cp),j<k→cs[j]? = some y→(y.nm==c.nm)=false)∧σ=⟨[(1,Lp 1),(3,Ln .i64 (i:Nat)),(4,Lp 4),(5,Ln .i64 (k:Nat))],[sxB 1 ver (some ⟨blk,off,none⟩) cs.length cap,cpB 4 c fad fcap],X⟩) i
    ⟨_,Le.of VD VA V2 V2 V0,0,by omega,by omega,fun j y hj=>absurd hj V3,rfl⟩ ?_
   rintro m σ ⟨k,hk,rfl,hpre2,rfl⟩
   by_cases hkl:k<i
   ·obtain ⟨q,hq⟩:∃ q,cs[k]? = some q:=wg V3
    obtain ⟨blk',off',arr',el',fr',_,_,e1,hX',_,_,_,g2',_,_⟩:=hin.get hq
    simp only [Option.some.injEq,Addr.mk.injEq] at e1
    obtain ⟨rfl,rfl,_⟩:=e1
    rw [hX] at hX'
    simp only [Option.some.injEq,Obj.cells.injEq] at hX'
    obtain ⟨rfl,rfl,rfl⟩:=hX'
    have hio2:=wo off k 3
    by_cases hqe:q.nm=c.nm
    ·rw [any_true hkl hq (by rw [beq_iff_eq];exact hqe),if_pos rfl] at hE
     rw [fin 4 hE (by decide)]
     (refine U12 ?_;refine rgD mixed ?_;refine U8 ?_;refine kse rfl rfl (strs_eq (r:=true) (by rw [hqe];simp)) ?_;refine U8 ?_)
     exact V6
    ·have hne:(q.nm==c.nm)=false:=cO hqe
     (refine U12 ?_;refine rgD mixed ?_;refine U8 ?_;refine kse rfl rfl (strs_eq (r:=false) hne) ?_;refine U9 ?_)
     exact ⟨_,_,by omega,Le.of VD VA V2 V2 V0,k+1,by omega,O,(fun j y hj hy=>by
      by_cases e:j=k
      ·subst e;rw [hq] at hy;cases hy;exact hne
      ·exact hpre2 j y V3 hy),rfl⟩
   ·rw [any_false fun j y hj hy=>hpre2 j y V3 hy,if_neg V11] at hE
    refine U15 ?_
    refine cH (fun m σ=>∃ k:Nat,k≤c.fs.length∧m=c.fs.length-k∧(∀ j,0≤j→j<k→fldE c.fs j=0)∧σ=⟨[(1,Lp 1),(3,Ln .i64 (i:Nat)),(4,Lp 4),(6,Ln .i64 (k:Nat))],[sxB 1 ver (some ⟨blk,off,none⟩) cs.length cap,cpB 4 c fad fcap],X⟩) c.fs.length
     ⟨_,Le.of VD VA V2 V2 V0,0,by omega,by omega,fun j _ hj=>absurd hj V3,rfl⟩ ?_
    rintro m σ ⟨k2,hk2,rfl,hpre3,rfl⟩
    by_cases hk2l:k2<c.fs.length
    ·obtain ⟨f,hf⟩:=wg hk2l
     obtain ⟨fb,fo,farr,fel,ffr,rfl,hFX,hFc⟩:=hF.nm hf
     have hio3:=wo fo k2 3
     have hfE:=fldE_at hf
     have hNf:=sName_spec X f.nm
     have bad:fldE c.fs k2=4→cmpE cs i=4:=fun h=>by
      rw [hE,firstE_some hpre3 (Nat.zero_le _) (by omega) h (by decide)];rfl
     by_cases hfn:nmB f.nm=true
     ·rw [hfn] at hNf
      rw [if_pos hfn] at hfE
      refine U32 ?_
      refine cH (fun m σ=>∃ k:Nat,k≤k2∧m=k2-k∧(∀ (j:Nat) (y:Fl),j<k→c.fs[j]? = some y→(y.nm==f.nm)=false)∧σ=⟨[(1,Lp 1),(3,Ln .i64 (i:Nat)),(4,Lp 4),(6,Ln .i64 (k2:Nat)),(7,Ln .i64 (k:Nat))],[sxB 1 ver (some ⟨blk,off,none⟩) cs.length cap,cpB 4 c (some ⟨fb,fo,none⟩) fcap],X⟩) k2
       ⟨_,Le.of V12 VA V2 V2 V0,0,by omega,by omega,fun j y hj=>absurd hj V3,rfl⟩ ?_
      rintro m σ ⟨k3,hk3,rfl,hpre4,rfl⟩
      by_cases hk3l:k3<k2
      ·obtain ⟨g,hg⟩:∃ g,c.fs[k3]? = some g:=wg V3
       obtain ⟨fb',fo',farr',fel',ffr',e1,hFX',hFc'⟩:=hF.nm hg
       simp only [Option.some.injEq,Addr.mk.injEq] at e1
       obtain ⟨rfl,rfl,_⟩:=e1
       rw [hFX] at hFX'
       simp only [Option.some.injEq,Obj.cells.injEq] at hFX'
       obtain ⟨rfl,rfl,rfl⟩:=hFX'
       have hio4:=wo fo k3 3
       by_cases hge:g.nm=f.nm
       ·rw [any_true hk3l hg (by rw [beq_iff_eq];exact hge),if_pos rfl] at hfE
        rw [fin 4 (bad hfE) (by decide)]
        (refine U12 ?_;refine rgD mixed ?_;refine U12 ?_;refine kse rfl rfl (strs_eq (r:=true) (by rw [hge];simp)) ?_;refine U8 ?_)
        exact V6
       ·have hne:(g.nm==f.nm)=false:=cO hge
        (refine U12 ?_;refine rgD mixed ?_;refine U12 ?_;refine kse rfl rfl (strs_eq (r:=false) hne) ?_;refine U9 ?_)
        exact ⟨_,_,by omega,Le.of V12 VA V2 V2 V0,k3+1,by omega,O,(fun j y hj hy=>by
         by_cases e:j=k3
         ·subst e;rw [hg] at hy;cases hy;exact hne
         ·exact hpre4 j y V3 hy),rfl⟩
      ·rw [any_false fun j y hj hy=>hpre4 j y V3 hy,if_neg V11] at hfE
       refine U14 ?_
       exact ⟨_,_,by omega,Le.of VD VA V2 V2 V0,k2+1,by omega,O,(fun j h0 hj=>by
        by_cases e:j=k2
        ·rw [e];exact hfE
        ·exact hpre3 j h0 V3),rfl⟩
     ·rw [if_neg hfn] at hfE
      rw [fin 4 (bad hfE) (by decide)]
      rw [show nmB f.nm=false by simpa using hfn] at hNf
      refine U31 ?_
      exact V6
    ·rw [show firstE (fldE c.fs) 0 c.fs.length=0 from firstE_none fun j h0 hj=>hpre3 j h0 V3,if_pos rfl] at hE
     by_cases hl:layErr c.fs=0
     ·have hL:=Lay_ok X fad fcap c.fs hF hfb hl
      rw [hl] at hE
      generalize elemsAt 0 c.fs=E at *
      generalize startsAt 0 c.fs=S at *
      generalize rowSize c.fs=T at *
      (refine U15 ?_;refine bE [(1000001,501),(1000002,502)] (.tup [.one (.slc 501 0 E.length 2),Sn .i64 (T:Nat),.one (.slc 502 0 c.fs.length 1),Sn .i64 0]) [(501,some ⟨164,(elVs E).map .val,Nat.blt 0 E.length⟩),(502,some ⟨3,(ntV S).map .val,Nat.blt 0 c.fs.length⟩)] (hL) O O V15 O O O O O V1B dO ?_;refine U22 ?_)
      exact ⟨_,_,by omega,Le.of VA VF V2 V2 V0,i+1,by omega,O,(fun j h0 hj=>by
       by_cases e:j=i
       ·rw [e];exact hE
       ·exact hpre j h0 V3),rfl⟩
     ·have hL:=Lay_no X fad fcap c.fs hF hfb hl
      rw [fin _ hE hl]
      generalize layErr c.fs=e at *
      (refine U15 ?_;refine aU [] [] (hL) O O V15 O O O O O (by exact .nil) dO ?_;refine U22 ?_)
      exact V6
  ·rw [if_neg hnm] at hE
   rw [fin 4 hE (by decide)]
   rw [show nmB c.nm=false by simpa using hnm] at hNm
   refine U16 ?_
   exact V6
 ·rw [show firstE (cmpE cs) 0 cs.length=0 from firstE_none fun j h0 hj=>hpre j h0 V3]
  refine U16 ?_
  exact V6
end Go.Proofs.YtbpdbclndfmcgaaGreatDoor
end
section
set_option maxHeartbeats 12800000
set_option maxRecDepth 100000
namespace Go.Lg.Fld
open Go Go.Lg
def rowsZ:List Cp→List Value→List Value
 | c::cs,v::vs=>.int .i64 c.id :: .string ⟨c.nm.toArray⟩::v::rowsZ cs vs
 | _,_=>[]
theorem rowsZ_len:∀ {cs:List Cp} {cells:List Value},cells.length=cs.length→(rowsZ cs cells).length=cs.length*3
 | [],[],_=>rfl
 | c::cs,v::vs,h=>by
  simp only [rowsZ,dF] at h ⊢
  rw [rowsZ_len (cs:=cs) (cells:=vs) (by omega)];omega
 | [],_::_,h=>by simp at h
 | _::_,[],h=>by simp at h
theorem rowsZ_split:∀ {cs:List Cp} {cells:List Value} {i:Nat} {c:Cp} {v:Value},cs[i]? = some c→cells[i]? = some v →
  rowsZ cs cells=rowsZ (cs.take i) (cells.take i) ++ .int .i64 c.id :: .string ⟨c.nm.toArray⟩::v::rowsZ (cs.drop (i+1)) (cells.drop (i+1))
 | [],_,i,c,v,h,_=>by simp at h
 | _::_,[],i,c,v,_,h=>by simp at h
 | a::cs,u::vs,0,c,v,h1,h2=>by
  simp only [List.getElem?_cons_zero,Option.some.injEq] at h1 h2
  subst h1 h2
  rfl
 | a::cs,u::vs,i+1,c,v,h1,h2=>by
  simp only [List.getElem?_cons_succ] at h1 h2
  simp only [rowsZ,List.take_succ_cons,List.drop_succ_cons,List.cons_append]
  rw [rowsZ_split h1 h2]
def flV (fs:List Fl):List Value:=(fs.map Fl.vals).flatten
theorem flV_len (fs:List Fl):(flV fs).length=fs.length*3:=by
 unfold flV
 induction fs with
 | nil=>rfl
 | cons f t ih=>rw [List.map_cons,List.flatten_cons,cT,ih,dF];simp [Fl.vals];omega
theorem flV_at:∀ {fs:List Fl} {k:Nat} {f:Fl},fs[k]? = some f→k*3+3≤(flV fs).length∧((flV fs).drop (k*3)).take 3=f.vals
 | [],k,f,h=>by simp at h
 | a::t,0,f,h=>by
  simp only [List.getElem?_cons_zero,Option.some.injEq] at h
  subst h
  refine ⟨by rw [flV_len,dF];omega,?_⟩
  unfold flV
  rw [Nat.zero_mul,List.drop_zero,List.map_cons,List.flatten_cons,List.take_append_of_le_length (by simp [Fl.vals])]
  rfl
 | a::t,k+1,f,h=>by
  obtain ⟨h1,h2⟩:=flV_at (fs:=t) (k:=k) (f:=f) V29
  refine ⟨by rw [flV_len] at h1 ⊢;simp;omega,?_⟩
  rw [← h2]
  unfold flV
  rw [List.map_cons,List.flatten_cons,show (k+1)*3=a.vals.length+k*3 by simp [Fl.vals];omega,List.drop_length_add_append]
theorem fields_block {Y:Nat→Option Obj} {blk:Nat} {arr:Array Value} {el:TypeId} {fr:Nat×Nat} {fs:List Fl} {sp:List Value} (hY:Y blk=some (.cells arr el fr)) (ha:arr.toList=flV fs++sp)
  (hs:∀ f∈fs,(-9223372036854775808≤f.kind∧f.kind<9223372036854775808)∧(-9223372036854775808≤f.count∧f.count<9223372036854775808)):FieldsIn Y (some ⟨blk,0,none⟩) fs:=by
 refine ⟨fun k r hr => ?_,hs⟩
 rw [dI] at hr
 cases hf:fs[k]? with
 | none=>rw [hf] at hr;cases hr
 | some f =>
  rw [hf] at hr
  simp only [Option.map_some,Option.some.injEq] at hr
  subst hr
  obtain ⟨h1,h2⟩:=flV_at hf
  refine ⟨blk,0,arr,el,fr,O,hY,?_,?_⟩
  ·rw [← Array.length_toList,ha,cT];omega
  ·rw [ha,Nat.zero_add,List.drop_append_of_le_length V3,List.take_append_of_le_length (by rw [cY];omega)];exact h2
def InB (cs:List Cp):Prop := ∀ c∈cs,(-9223372036854775808≤c.id∧c.id<9223372036854775808)∧∀ f∈c.fs,(-9223372036854775808≤f.kind∧f.kind<9223372036854775808)∧(-9223372036854775808≤f.count∧f.count<9223372036854775808)
theorem leaf_in {Y:Nat→Option Obj} {v:Value} {el:TypeId} {fs:List Fl} (h:SliceZ Y v el 3 (flV fs))
  (hs:∀ f∈fs,(-9223372036854775808≤f.kind∧f.kind<9223372036854775808)∧(-9223372036854775808≤f.count∧f.count<9223372036854775808)):∃ fad fcap,v = .slice fad fs.length fcap∧FieldsIn Y fad fs:=by
 rcases h with ⟨h0,ad,cap,rfl⟩|⟨b,⟨len,cap,arr,fr,rfl,h2,h3,h4,h5,sp,h6⟩,h0⟩
 ·have hl:fs.length=0:=by have:=flV_len fs;rw [h0,dL] at this;omega
  have e:fs=[]:=List.eq_nil_of_length_eq_zero hl
  subst e
  exact ⟨ad,cap,rfl,fun k r hr=>(by simp at hr),fun f hf=>(by cases hf)⟩
 ·rw [flV_len] at h2
  have e:fs.length=len:=by omega
  subst e
  exact ⟨some ⟨b,0,none⟩,cap,O,fields_block h5 h6 hs⟩
theorem comps_block {Y:Nat→Option Obj} {blk:Nat} {arr:Array Value} {el fel:TypeId} {fr:Nat×Nat} {cs:List Cp} {cells sp:List Value} (hY:Y blk=some (.cells arr el fr)) (ha:arr.toList=rowsZ cs cells++sp) (hl:cells.length=cs.length) (hb:InB cs)
  (hf:∀ (i:Nat) (c:Cp) (v:Value),cs[i]? = some c→cells[i]? = some v→SliceZ Y v fel 3 (flV c.fs)):CompsIn Y (some ⟨blk,0,none⟩) cs:=by
 refine ⟨fun i c hc => ?_,fun c hc=>(hb c hc).1⟩
 have hi:=(wl hc)
 obtain ⟨v,hv⟩:∃ v,cells[i]? = some v:=wg V3
 obtain ⟨fad,fcap,rfl,hF⟩:=leaf_in (hf i c v hc hv) (hb c (dA hc)).2
 have hpre:(rowsZ (cs.take i) (cells.take i)).length=i*3:=by rw [rowsZ_len (by rw [cX,cX,hl]),cX,Nat.min_eq_left V3]
 refine ⟨blk,0,arr,el,fr,fad,fcap,O,hY,?_,?_,hF⟩
 ·rw [← Array.length_toList,ha,cT,rowsZ_len hl];omega
 ·rw [ha,rowsZ_split hc hv,Nat.zero_add,dJ,← hpre,List.drop_left];rfl
end Go.Lg.Fld
namespace Go.Proofs.YtbpdbclndfmcgaaGreatDoor
open Go Go.Lg Go.Lg.Fld
set_option maxRecDepth 100000
def scR (cs:List Cp):Rsc:=⟨fun ρ H=>∃ (arr:Array Value) (fr:Nat×Nat) (cells sp:List Value),
 H ρ.1=some (.cells arr 86 fr)∧arr.size=ρ.2∧arr.toList=rowsZ cs cells++sp∧Twigs (cutM H ρ.1) 125 3 [] cells (cs.map fun c=>flV c.fs)∧InB cs⟩
abbrev scB (k:Nat) (cs:List Cp):Nat×Option Box:=(k,some ⟨0,[],.res (scR cs)⟩)
theorem scR_root (cs:List Cp):∀ ρ H,(scR cs).holds ρ H→∃ vals el fr,H ρ.1=some (.cells vals el fr)∧vals.size=ρ.2:=fun ρ H h=>by
 obtain ⟨arr,fr,cells,sp,h1,h2,_⟩:=h
 exact ⟨arr,_,fr,h1,h2⟩
theorem scR_in {cs:List Cp} {blk m:Nat} {H Y:Nat→Option Obj} (h:(scR cs).holds (blk,m) H) (hY:∀ b o,H b=some o→Y b=some o):CompsIn Y (some ⟨blk,0,none⟩) cs:=by
 obtain ⟨arr,fr,cells,sp,h1,_,h3,G,hb⟩:=h
 have hl:cells.length=cs.length:=by rw [G.len,cU]
 refine comps_block (fel:=125) (hY _ _ h1) h3 hl hb fun i c v hc hv => ?_
 refine (G.at_ i v (flV c.fs) V24 hv (by rw [dI,hc];rfl)).mono fun b hb' => ?_
 have hne:=G.some_of V24 hv hb'
 cases hc2:cutM H blk b with
 | none=>exact absurd hc2 hne
 | some o=>exact hY b o (cutM_some hc2).2
end Go.Proofs.YtbpdbclndfmcgaaGreatDoor
end
section
set_option maxHeartbeats 12800000
set_option maxRecDepth 100000
namespace Go.Lg.Fld
open Go Go.Lg
def nmM (ns:List (List UInt8)):List (Value×Value):=ns.map fun l=>(.string ⟨l.toArray⟩,.agg #[])
theorem nmM_at (ns:List (List UInt8)) (l:List UInt8):At (nmM ns) (.string ⟨l.toArray⟩) (.agg #[]) (.agg #[]):=by
 by_cases h:l∈ns
 ·exact .inl (List.mem_map.2 ⟨l,h,rfl⟩)
 ·refine .inr ⟨fun p hp e => ?_,rfl⟩
  obtain ⟨l',hl',rfl⟩:=List.mem_map.1 hp
  simp only [Value.string.injEq,ByteArray.mk.injEq] at e
  exact h (by rw [show l=l' from (List.toArray_inj e.symm)];exact hl')
theorem nmM_any (ns:List (List UInt8)) (l:List UInt8) (r:Bool) (hr:ns.any (fun m=>m==l)=r):r=true↔∃ p∈nmM ns,p.1 = .string ⟨l.toArray⟩:=by
 subst hr
 rw [List.any_eq_true]
 constructor
 ·rintro ⟨m,hm,he⟩
  rw [beq_iff_eq] at he
  subst he
  exact ⟨_,List.mem_map.2 ⟨m,hm,O⟩,O⟩
 ·rintro ⟨p,hp,e⟩
  obtain ⟨l',hl',rfl⟩:=List.mem_map.1 hp
  simp only [Value.string.injEq,ByteArray.mk.injEq] at e
  exact ⟨l',hl',by rw [beq_iff_eq];exact List.toArray_inj e⟩
theorem nmM_put {ns:List (List UInt8)} {l:List UInt8} (h:ns.any (fun m=>m==l)=false):Put (nmM ns) (.string ⟨l.toArray⟩) (.agg #[]) (nmM (ns++[l])):=by
 refine .inr ⟨fun p hp e => ?_,by unfold nmM;rw [dE];rfl⟩
 obtain ⟨l',hl',rfl⟩:=List.mem_map.1 hp
 simp only [Value.string.injEq,ByteArray.mk.injEq] at e
 rw [List.any_eq_false] at h
 exact h l' hl' (by rw [beq_iff_eq];exact List.toArray_inj e)
end Go.Lg.Fld
namespace Go.Proofs.YtbpdbclndfmcgaaGreatDoor
open Go Go.Lg Go.Lg.Fld
set_option maxRecDepth 100000
variable (X:Nat→Option Obj)
theorem isLetter_spec (c:UInt8):PSpec Tryz.prog X 115 [Ln .u8 (c.toNat:Nat)] (Lb (letB c)):=by
 refine cD Tryz.func115 rfl V5 rfl rfl ?_
 intro C
 unfold letB
 by_cases h:97≤c.toNat
 ·rw [cM h,Bool.true_and]
  (refine U7 ?_;refine K.leq O O (cM V3) dO ?_;refine U2 ?_;refine K.leq O O (r:=decide (c.toNat≤122)) (by rw [decide_eq_decide];omega) (dP O O) ?_;refine U4 ?_)
  exact V6
 ·rw [cL h,Bool.false_and]
  (refine U7 ?_;refine K.leq O O (cL V3) dO ?_;refine U7 ?_)
  exact V6
theorem isDigit_spec (c:UInt8):PSpec Tryz.prog X 116 [Ln .u8 (c.toNat:Nat)] (Lb (digB c)):=by
 refine cD Tryz.func116 rfl V5 rfl rfl ?_
 intro C
 unfold digB
 by_cases h:48≤c.toNat
 ·rw [cM h,Bool.true_and]
  (refine U7 ?_;refine K.leq O O (cM V3) dO ?_;refine U2 ?_;refine K.leq O O (r:=decide (c.toNat≤57)) (by rw [decide_eq_decide];omega) (dP O O) ?_;refine U4 ?_)
  exact V6
 ·rw [cL h,Bool.false_and]
  (refine U7 ?_;refine K.leq O O (cL V3) dO ?_;refine U7 ?_)
  exact V6
theorem nmC_zero (l:List UInt8):nmC l 0=letB (l.getD 0 0):=by unfold nmC;simp
theorem nmC_more {l:List UInt8} {i:Nat} (h:nmC l 0=true):nmC l i=(letB (l.getD i 0)||digB (l.getD i 0)):=by
 unfold nmC
 by_cases e:i=0
 ·subst e
  rw [nmC_zero] at h
  rw [h];simp
 ·simp [e]
theorem pIsName (l:List UInt8) (r:Bool) (hr:nmB l=r):PSpec Tryz.prog X 94 [Ls l] (Lb r):=by
 subst hr
 refine cD Tryz.func94 rfl V5 rfl rfl ?_
 intro C
 have hlen:(⟨l.toArray⟩:ByteArray).size=l.length:=rfl
 by_cases h1:l.length<1
 ·rw [show nmB l=false by unfold nmB;rw [cL V3];rfl]
  (refine U9 ?_;refine klt rfl rfl (cM V22) ?_;refine U18 ?_)
  exact V6
 by_cases h2:12<l.length
 ·rw [show nmB l=false by unfold nmB;rw [cL (show ¬l.length≤12 by omega)];simp]
  (refine U9 ?_;refine klt O O (cL V22) ?_;refine U2 ?_;refine K.lenStr O (dP O O) ?_;refine aS O O (cM V22) (dP O O) ?_;refine U14 ?_)
  exact V6
 obtain ⟨c0,hc0⟩:∃ c,l[0]? = some c:=wg V3
 have hget0:(⟨l.toArray⟩:ByteArray)[(0:Int).toNat]? = some c0:=str_at hc0
 have hz:nmC l 0=letB c0:=by rw [nmC_zero,getD_of hc0]
 have hL:=isLetter_spec X c0
 cases h0:letB c0 with
 | false =>
  rw [nmB_false (i:=0) (by omega) (hz.trans h0)]
  rw [h0] at hL
  (refine U9 ?_;refine klt O O (cL V22) ?_;refine U2 ?_;refine K.lenStr O (dP O O) ?_;refine aS O O (cL V22) (dP O O) ?_;refine U3 ?_;refine bB O O V3 hget0 (dP O O) ?_;refine U10 ?_)
  exact V6
 | true =>
  have hz1:=hz.trans h0
  rw [h0] at hL
  (refine U9 ?_;refine klt O O (cL V22) ?_;refine U2 ?_;refine K.lenStr O (dP O O) ?_;refine aS O O (cL V22) (dP O O) ?_;refine U3 ?_;refine bB O O V3 hget0 (dP O O) ?_;refine U14 ?_)
  refine cH (fun m σ=>∃ i:Nat,i≤l.length∧m=l.length-i∧(∀ j,j<i→nmC l j=true)∧σ=⟨[(0,Ls l),(19,Ln .i64 (l.length:Nat)),(20,Ln .i64 (i:Nat))],[],X⟩) l.length
   ⟨_,Le.of V9 V15 V2 V2 V2,0,by omega,by omega,fun j hj=>absurd hj V3,rfl⟩ ?_
  rintro m σ ⟨i,hi,rfl,hpre,rfl⟩
  by_cases hlt:i<l.length
  ·obtain ⟨c,hc⟩:=wg hlt
   have hN:nmC l i=(letB c||digB c):=by rw [nmC_more hz1,getD_of hc]
   have hget:(⟨l.toArray⟩:ByteArray)[(i:Int).toNat]? = some c:=str_at (by rw [dD];exact hc)
   have hA:=isLetter_spec X c
   have hB:=isDigit_spec X c
   have key:nmC l i=true→∀ j,j<i+1→nmC l j=true:=fun hok j hj=>by
    by_cases e:j=i
    ·rw [e];exact hok
    ·exact hpre j V3
   cases ha:letB c with
   | true =>
    rw [ha] at hA
    (refine U18 ?_;refine bB O O V3 hget dO ?_;refine U16 ?_)
    exact ⟨_,_,by omega,Le.of V9 V15 V2 V2 V2,i+1,by omega,rfl,key (by rw [hN,ha];rfl),rfl⟩
   | false =>
    rw [ha] at hA
    cases hb:digB c with
    | true =>
     rw [hb] at hB
     (refine U18 ?_;refine bB O O V3 hget dO ?_;refine U5 ?_;refine bB O O V3 hget (dP O O) ?_;refine U10 ?_)
     exact ⟨_,_,by omega,Le.of V9 V15 V2 V2 V2,i+1,by omega,rfl,key (by rw [hN,ha,hb];rfl),rfl⟩
    | false =>
     rw [hb] at hB
     rw [nmB_false hlt (by rw [hN,ha,hb];rfl)]
     (refine U18 ?_;refine bB O O V3 hget dO ?_;refine U5 ?_;refine bB O O V3 hget (dP O O) ?_;refine U10 ?_)
     exact V6
  ·rw [nmB_true V3 V3 (fun j hj=>hpre j V3)]
   refine U12 ?_
   exact V6
abbrev nmBx (k:Nat) (ns:List (List UInt8)):Nat×Option Box:=(k,some ⟨0,[],.res (mapR Tryz.prog 9 (nmM ns))⟩)
abbrev Lmp (k:Nat):LV:=.sv (.one (.mp k))
theorem take_ok (ns:List (List UInt8)) (l:List UInt8) (hl:l.length≤9223372036854775807) (h1:ns.any (fun m=>m==l)=false) (h2:nmB l=true):
  MSpec Tryz.prog X 64 [Lmp 1000000,Ls l] [nmBx 1000000 ns] (Lb true) [nmBx 1000000 (ns++[l])]:=by
 refine cE Tryz.func64 rfl V5 rfl rfl V4 rfl rfl ?_
 intro C
 have hN:=pIsName X l true h2
 have hkey:Go.keyOf Tryz.prog 9 (.string ⟨l.toArray⟩)=some (.string l):=by
  rw [WideMaps.keyOf_string_mk (by kernel_rfl) (by show l.length≤maxLen;unfold maxLen;omega)]
 (refine U9 ?_;refine K.lookupOk (et:=166) (.agg []) (v:=.agg #[]) (z:=.agg #[]) O O O V5 (KL.str V5) hkey V5 (nmM_at ns l) agg0_rel (nmM_any ns l false h1) dO ?_;refine U22 ?_;refine aT O O V2 (by exact nl0 O) dO ?_;refine K.mapPut (et:=166) (nmM (ns++[l])) O O O O V5 (KL.str V5) hkey (nmM_put h1) dO ?_;refine U6 ?_)
 exact ⟨[],⟨[_],⟨O,trivial⟩,O⟩,V1,O,O⟩
theorem take_no (ns:List (List UInt8)) (l:List UInt8) (hl:l.length≤9223372036854775807) (h:ns.any (fun m=>m==l)=true∨nmB l=false):
  MSpec Tryz.prog X 64 [Lmp 1000000,Ls l] [nmBx 1000000 ns] (Lb false) [nmBx 1000000 ns]:=by
 refine cE Tryz.func64 rfl V5 rfl rfl V4 rfl rfl ?_
 intro C
 have hkey:Go.keyOf Tryz.prog 9 (.string ⟨l.toArray⟩)=some (.string l):=by
  rw [WideMaps.keyOf_string_mk (by kernel_rfl) (by show l.length≤maxLen;unfold maxLen;omega)]
 cases h1:ns.any (fun m=>m==l) with
 | true =>
  (refine U9 ?_;refine K.lookupOk (et:=166) (.agg []) (v:=.agg #[]) (z:=.agg #[]) O O O V5 (KL.str V5) hkey V5 (nmM_at ns l) agg0_rel (nmM_any ns l true h1) dO ?_;refine U22 ?_)
  exact ⟨[],⟨[_],⟨O,trivial⟩,O⟩,V1,O,O⟩
 | false =>
  have hN:=pIsName X l false (h.resolve_left (by rw [h1];decide))
  (refine U9 ?_;refine K.lookupOk (et:=166) (.agg []) (v:=.agg #[]) (z:=.agg #[]) O O O V5 (KL.str V5) hkey V5 (nmM_at ns l) agg0_rel (nmM_any ns l false h1) dO ?_;refine U22 ?_)
  exact ⟨[],⟨[_],⟨O,trivial⟩,O⟩,V1,O,O⟩
end Go.Proofs.YtbpdbclndfmcgaaGreatDoor
end
section
set_option maxHeartbeats 12800000
set_option maxRecDepth 100000
namespace Go.Lg.Fld
open Go Go.Lg
def NamesC (cs:List Cp):Prop := ∀ c∈cs,c.fs.length<4611686018427387904∧c.nm.length≤9223372036854775807∧∀ f∈c.fs,f.nm.length≤9223372036854775807
theorem any_names {α:Type} (g:α→List UInt8) (l:List α) (i:Nat) (nm:List UInt8):((l.take i).map g).any (fun m=>m==nm)=(l.take i).any (fun x=>g x==nm):=by rw [List.any_map];rfl
def fldsE (fs:List Fl):Int:=if firstE (fldE fs) 0 fs.length=0 then layErr fs else 4
end Go.Lg.Fld
namespace Go.Proofs.YtbpdbclndfmcgaaGreatDoor
open Go Go.Lg Go.Lg.Fld
set_option maxRecDepth 100000
variable (X:Nat→Option Obj)
theorem checkFields_spec (fad:Option Addr) (fcap:Nat) (fs:List Fl) (hF:FieldsIn X fad fs) (hbig:fs.length<4611686018427387904) (hnm:∀ f∈fs,f.nm.length≤9223372036854775807) (e:Int) (he:fldsE fs=e):
  PSpec Tryz.prog X 65 [Lx fad fs.length fcap] (Ln .i64 e):=by
 subst he
 refine cD Tryz.func65 rfl V5 rfl rfl ?_
 intro C
 (refine U6 ?_;refine K.makeMap 9 O dO ?_;refine U10 ?_)
 refine cH (fun m σ=>∃ i:Nat,i≤fs.length∧m=fs.length-i∧(∀ j,0≤j→j<i→fldE fs j=0)∧σ=⟨[(0,Lx fad fs.length fcap),(3,Lmp 6),(7,Lx fad fs.length fcap),(8,Ln .i64 (fs.length:Nat)),(9,Ln .i64 (i:Nat))],[nmBx 6 ((fs.take i).map Fl.nm)],X⟩) fs.length
  ⟨_,Le.of V12 VF V2 V2 V0,0,by omega,by omega,fun j _ hj=>absurd hj V3,rfl⟩ ?_
 rintro m σ ⟨i,hi,rfl,hpre,rfl⟩
 by_cases hlt:i<fs.length
 ·obtain ⟨f,hf⟩:=wg hlt
  obtain ⟨blk,off,arr,el,fr,rfl,hX,hsz,hcells⟩:=hF.at hf
  have hio:=wo off i 3
  have hE:=fldE_at hf
  have hnl:=hnm f (dA hf)
  have hany:=any_names Fl.nm fs i f.nm
  have hts:(fs.take (i+1)).map Fl.nm=(fs.take i).map Fl.nm++[f.nm]:=by rw [take_snoc hf,dE];rfl
  by_cases hbad:fldE fs i=0
  ·rw [hbad] at hE
   have h2:nmB f.nm=true:=by
    cases h:nmB f.nm with
    | true=>rfl
    | false=>rw [h,if_neg V11] at hE;cases hE
   rw [if_pos h2] at hE
   have h1:((fs.take i).map Fl.nm).any (fun m=>m==f.nm)=false:=by
    rw [hany]
    cases h:(fs.take i).any (fun g=>g.nm==f.nm) with
    | false=>rfl
    | true=>rw [h,if_pos rfl] at hE;cases hE
   have hT:=take_ok X ((fs.take i).map Fl.nm) f.nm hnl h1 h2
   rw [← hts] at hT
   generalize (fs.take i).map Fl.nm=ns at *
   generalize hns:(fs.take (i+1)).map Fl.nm=ns' at *
   (refine U21 ?_;refine aU [(1000000,6)] [nmBx 6 ns'] (hT) O O V7 VE O O O O VB dO ?_;refine U8 ?_)
   subst hns
   exact ⟨_,_,by omega,Le.of V12 VF V2 V2 V0,i+1,by omega,O,(fun j h0 hj=>by
    by_cases e:j=i
    ·rw [e];exact hbad
    ·exact hpre j h0 V3),rfl⟩
  ·have h4:fldE fs i=4:=by
    rw [hE] at hbad ⊢
    cases h0:nmB f.nm with
    | false=>rfl
    | true =>
     rw [h0] at hbad
     cases h':(fs.take i).any (fun g=>g.nm==f.nm) with
     | true=>rfl
     | false=>rw [h'] at hbad;exact absurd rfl hbad
   have hno:((fs.take i).map Fl.nm).any (fun m=>m==f.nm)=true∨nmB f.nm=false:=by
    rw [hany]
    rw [hE] at hbad
    cases h:nmB f.nm with
    | false=>exact .inr rfl
    | true =>
     left
     rw [h,if_pos rfl] at hbad
     cases h':(fs.take i).any (fun g=>g.nm==f.nm) with
     | true=>rfl
     | false=>rw [h',if_neg V11] at hbad;exact absurd rfl hbad
   have hfin:fldsE fs=4:=by unfold fldsE;rw [firstE_some hpre (Nat.zero_le _) V3 h4 V11,if_neg V11]
   rw [hfin]
   have hT:=take_no X ((fs.take i).map Fl.nm) f.nm hnl hno
   generalize (fs.take i).map Fl.nm=ns at *
   (refine U21 ?_;refine aU [(1000000,6)] [nmBx 6 ns] (hT) O O V7 VE O O O O VB dO ?_;refine U8 ?_)
   exact V6
 ·have hfin:fldsE fs=layErr fs:=by unfold fldsE;rw [if_pos (firstE_none fun j h0 hj=>hpre j h0 V3)]
  rw [hfin]
  have hL:=Check_spec X fad fcap fs hF hbig
  generalize layErr fs=e at *
  refine U14 ?_
  exact V6
theorem cmpE_flds {cs:List Cp} {i:Nat} {c:Cp} (h:cs[i]? = some c):cmpE cs i=if c.id<1∨24<c.id∨(0<i∧c.id≤prevId cs i) then 1
  else if nmB c.nm=true then (if (cs.take i).any (fun g=>g.nm==c.nm)=true then 4 else fldsE c.fs) else 4:=cmpE_at h
set_option maxHeartbeats 3200000 in
theorem pCheckBig (s:Sc) (ad:Option Addr) (cap:Nat) (hin:CompsIn X ad s.cs) (hbig:s.cs.length<4611686018427387904) (hN:NamesC s.cs) (e:Int) (he:chkE s=e):PSpec Tryz.prog X 36 [Sx s.ver ad s.cs.length cap] (Ln .i64 e):=by
 subst he
 obtain ⟨ver,cs⟩:=s
 simp only at hin hbig hN ⊢
 refine cD Tryz.func36 rfl V5 rfl rfl ?_
 intro C
 unfold chkE
 by_cases hv1:ver<1
 ·rw [if_pos (.inl hv1)]
  (refine U10 ?_;refine klt rfl rfl (cM hv1) ?_;refine U12 ?_)
  exact V6
 by_cases hv2:1073741824<ver
 ·rw [if_pos (.inr hv2)]
  (refine U10 ?_;refine klt O O (cL hv1) ?_;refine U3 ?_;refine aS O O (cM hv2) (dP O O) ?_;refine U8 ?_)
  exact V6
 rw [if_neg (show ¬(ver<1∨1073741824<ver) by omega)]
 (refine U10 ?_;refine klt O O (cL hv1) ?_;refine U3 ?_;refine aS O O (cL hv2) (dP O O) ?_;refine U6 ?_;refine K.makeMap 9 O dO ?_;refine U12 ?_)
 refine cH (fun m σ=>∃ (i:Nat) (last:Int),i≤cs.length∧m=cs.length-i∧(∀ j,0≤j→j<i→cmpE cs j=0)∧(∀ x:Int,x≤last↔(x<1∨(0<i∧x≤prevId cs i)))∧σ=⟨[(3,Ln .i64 last),(4,Lmp 16),(18,Lx ad cs.length cap),(19,Ln .i64 (cs.length:Nat)),(20,Ln .i64 (i:Nat))],[nmBx 16 ((cs.take i).map Cp.nm)],X⟩) cs.length
  ⟨_,Le.of V12 VF V2 V2 V0,0,0,by omega,by omega,fun j _ hj=>absurd hj V3,fun x=>by omega,rfl⟩ ?_
 rintro m σ ⟨i,last,hi,rfl,hpre,hlast,rfl⟩
 by_cases hlt:i<cs.length
 ·obtain ⟨c,hc⟩:=wg hlt
  obtain ⟨blk,off,arr,el,fr,fad,fcap,rfl,hX,hsz,hcs,_,_,_,hF⟩:=hin.get hc
  have hio:=wo off i 3
  have hE:=cmpE_flds hc
  obtain ⟨hfb,hnl,hfn⟩:=hN c (dA hc)
  have fin:∀ e,cmpE cs i=e→e≠0→firstE (cmpE cs) 0 cs.length=e:=fun e he h0=>firstE_some hpre (Nat.zero_le _) V3 he h0
  have hany:=any_names Cp.nm cs i c.nm
  have hts:(cs.take (i+1)).map Cp.nm=(cs.take i).map Cp.nm++[c.nm]:=by rw [take_snoc hc,dE];rfl
  refine U18 ?_
  refine LWP.le (σ':=⟨[(3,Ln .i64 last),(4,Lmp 16),(6,Lp 6),(18,Lx (some ⟨blk,off,none⟩) cs.length cap),(19,Ln .i64 (cs.length:Nat)),(20,Ln .i64 (i:Nat))],[nmBx 16 ((cs.take i).map Cp.nm),cpB 6 c fad fcap],X⟩) (Le.of VC VA V2 V2 V0) ?_
  by_cases hq1:c.id≤last
  ·rw [if_pos (by rcases (hlast c.id).1 hq1 with h|h;exact .inl h;exact .inr (.inr h))] at hE
   rw [fin 1 hE (by decide)]
   (refine U4 ?_;refine K.leq O O (cM hq1) dO ?_;refine U12 ?_)
   exact V6
  by_cases hq2:24<c.id
  ·rw [if_pos (.inr (.inl hq2))] at hE
   rw [fin 1 hE (by decide)]
   (refine U4 ?_;refine K.leq O O (cL hq1) dO ?_;refine U3 ?_;refine aS O O (cM hq2) (dP O O) ?_;refine U8 ?_)
   exact V6
  have hq3:¬(c.id<1∨(0<i∧c.id≤prevId cs i)):=fun h=>hq1 ((hlast c.id).2 h)
  rw [if_neg (show ¬(c.id<1∨24<c.id∨(0<i∧c.id≤prevId cs i)) from fun h=>by rcases h with h|h|h;exact hq3 (.inl h);exact hq2 h;exact hq3 (.inr h))] at hE
  by_cases hno:((cs.take i).map Cp.nm).any (fun m=>m==c.nm)=true∨nmB c.nm=false
  ·have h4:cmpE cs i=4:=by
    rw [hE]
    rw [hany] at hno
    rcases hno with h|h
    ·rw [h];simp
    ·rw [h];simp
   rw [fin 4 h4 (by decide)]
   have hT:=take_no X ((cs.take i).map Cp.nm) c.nm hnl hno
   generalize (cs.take i).map Cp.nm=ns at *
   (refine U4 ?_;refine K.leq O O (cL hq1) dO ?_;refine U3 ?_;refine aS O O (cL hq2) (dP O O) ?_;refine U16 ?_;refine aU [(1000000,16)] [nmBx 16 ns] (hT) O O V7 VE O O O O VB dO ?_;refine U8 ?_)
   exact V6
  have h1:((cs.take i).map Cp.nm).any (fun m=>m==c.nm)=false:=by
   cases h:((cs.take i).map Cp.nm).any (fun m=>m==c.nm) with
   | false=>rfl
   | true=>exact absurd (.inl h) hno
  have h2:nmB c.nm=true:=by
   cases h:nmB c.nm with
   | true=>rfl
   | false=>exact absurd (.inr h) hno
  rw [if_pos h2,← hany,h1,if_neg (by decide)] at hE
  have hT:=take_ok X ((cs.take i).map Cp.nm) c.nm hnl h1 h2
  rw [← hts] at hT
  have hCF:=checkFields_spec X fad fcap c.fs hF hfb hfn (fldsE c.fs) rfl
  generalize (cs.take i).map Cp.nm=ns at *
  generalize hns:(cs.take (i+1)).map Cp.nm=ns' at *
  by_cases hz:fldsE c.fs=0
  ·rw [hz] at hCF hE
   (refine U4 ?_;refine K.leq O O (cL hq1) dO ?_;refine U3 ?_;refine aS O O (cL hq2) (dP O O) ?_;refine U16 ?_;refine aU [(1000000,16)] [nmBx 16 ns'] (hT) O O V7 VE O O O O VB dO ?_;refine U22 ?_)
   subst hns
   exact ⟨_,_,by omega,Le.of V12 VF V2 V2 V0,i+1,c.id,by omega,O,(fun j h0 hj=>by
    by_cases e:j=i
    ·rw [e];exact hE
    ·exact hpre j h0 V3),(fun x=>by
    have hp:prevId cs (i+1)=c.id:=by unfold prevId;rw [Nat.add_sub_cancel,hc];rfl
    rw [hp];omega),rfl⟩
  ·rw [fin _ hE hz]
   have hne:(fldsE c.fs != 0)=true:=by rw [bne_iff_ne];exact hz
   generalize fldsE c.fs=e at *
   (refine U4 ?_;refine K.leq O O (cL hq1) dO ?_;refine U3 ?_;refine aS O O (cL hq2) (dP O O) ?_;refine U16 ?_;refine aU [(1000000,16)] [nmBx 16 ns'] (hT) O O V7 VE O O O O VB dO ?_;refine U14 ?_;refine kne O O hne ?_;refine U8 ?_)
   exact V6
 ·rw [show firstE (cmpE cs) 0 cs.length=0 from firstE_none fun j h0 hj=>hpre j h0 V3]
  refine U12 ?_
  exact V6
end Go.Proofs.YtbpdbclndfmcgaaGreatDoor
end
section
set_option maxHeartbeats 12800000
set_option maxRecDepth 100000
namespace Go.Lg.Fld
open Go Go.Lg
theorem fields_reads {X:Nat→Option Obj} {ad:Option Addr} {fs:List Fl} (h:FieldsIn X ad fs):ReadsX X ad (flV fs):=⟨fun j u hj=>by
 have hjl:=(wl hj)
 rw [flV_len] at hjl
 obtain ⟨f,hf⟩:∃ f,fs[j/3]? = some f:=wg V3
 obtain ⟨blk,off,arr,el,fr,rfl,hX,hsz,hcs⟩:=h.rows (j/3) f.vals (by rw [dI,hf];rfl)
 refine ⟨blk,off,arr,el,fr,O,hX,?_⟩
 obtain ⟨h1,h2⟩:=flV_at hf
 have h3:((flV fs).drop (j/3*3)).take 3=(arr.toList.drop (off+j/3*3)).take 3:=by rw [h2,hcs]
 have h4:(((flV fs).drop (j/3*3)).take 3)[j%3]? = ((arr.toList.drop (off+j/3*3)).take 3)[j%3]? := by rw [h3]
 rw [List.getElem?_take,List.getElem?_take,if_pos (Nat.mod_lt _ (by omega)),if_pos (Nat.mod_lt _ (by omega)),List.getElem?_drop,List.getElem?_drop,show j/3*3+j%3=j by omega,show off+j/3*3+j%3=off+j by omega,hj,Array.getElem?_toList] at h4
 exact h4.symm⟩
theorem flV_one (fs:List Fl):∀ u∈flV fs,u.oneCell'=true:=fun u hu=>by
 unfold flV at hu
 rw [List.mem_flatten] at hu
 obtain ⟨l,hl,hu⟩:=hu
 obtain ⟨f,_,rfl⟩:=List.mem_map.1 hl
 simp only [Fl.vals,List.mem_cons,List.not_mem_nil,or_false] at hu
 rcases hu with rfl|rfl|rfl<;>rfl
theorem FieldsIn.none {X:Nat→Option Obj} {fs:List Fl} (h:FieldsIn X none fs):fs=[]:=by
 cases hfs:fs with
 | nil=>rfl
 | cons f t =>
  obtain ⟨_,_,_,_,_,e,_⟩:=h.nm (k:=0) (f:=f) (by rw [hfs];rfl)
  cases e
end Go.Lg.Fld
namespace Go.Proofs.YtbpdbclndfmcgaaGreatDoor
open Go Go.Lg Go.Lg.Fld
set_option maxRecDepth 100000
abbrev SCx (c:Cp) (fad:Option Addr) (fcap:Nat):SV:=.agg [.val (.int .i64 c.id),.val (.string ⟨c.nm.toArray⟩),.val (.slice fad c.fs.length fcap)]
abbrev SC0:SV:=.agg [.val (.int .i64 0),.val (.string ⟨#[]⟩),.val (.slice none 0 0)]
abbrev SCs (c:Cp) (k:Nat):SV:=.agg [.val (.int .i64 c.id),.val (.string ⟨c.nm.toArray⟩),.slc k 0 c.fs.length 3]
abbrev fdB (k:Nat) (fs:List Fl):Nat×Option Box:=(k,some ⟨125,(flV fs).map .val,true⟩)
abbrev Lf (f:FuncId) (caps:List Value):LV:=.sv (.one (.val (.func (.func f) #[] caps.toArray)))
variable (X:Nat→Option Obj)
theorem idxC_spec (ad:Option Addr) (cap:Nat) (cs:List Cp) (hin:CompsIn X ad cs) (hbig:cs.length<4611686018427387904) (f:FuncId) (caps:List Value) (p:Cp→Bool)
  (hp:∀ c∈cs,∀ fad fcap,PSpec Tryz.prog X f ([Cx c fad fcap]++caps.map fun v=>.sv (.one (.val v))) (Lb (p c))):
  PSpec Tryz.prog X 80 [Lx ad cs.length cap,Lf f caps] (Ln .i64 (findI p cs)):=by
 refine cD Tryz.func80 rfl V5 rfl rfl ?_
 intro C
 refine U12 ?_
 refine cH (fun m σ=>∃ i:Nat,i≤cs.length∧m=cs.length-i∧(∀ (j:Nat) (y:Cp),j<i→cs[j]? = some y→p y=false)∧σ=⟨[(0,Lx ad cs.length cap),(1,Lf f caps),(7,Ln .i64 (cs.length:Nat)),(8,Ln .i64 (i:Nat))],[],X⟩) cs.length
  ⟨_,Le.of VD V15 V2 V2 V2,0,by omega,by omega,fun j y hj=>absurd hj V3,rfl⟩ ?_
 rintro m σ ⟨i,hi,rfl,hpre,rfl⟩
 by_cases hlt:i<cs.length
 ·obtain ⟨c,hc⟩:=wg hlt
  obtain ⟨blk,off,arr,el,fr,fad,fcap,rfl,hX,hsz,hcs,_,_,_,hF⟩:=hin.get hc
  have hio:=wo off i 3
  have hP:=hp c (dA hc) fad fcap
  cases hpc:p c with
  | true =>
   rw [hpc] at hP
   rw [findI_some hpre hc hpc]
   (refine U21 ?_;refine K.callF O O O hP dO ?_;refine U8 ?_)
   exact V6
  | false =>
   rw [hpc] at hP
   (refine U21 ?_;refine K.callF O O O hP dO ?_;refine U7 ?_)
   exact ⟨_,_,by omega,Le.of VD V15 V2 V2 V2,i+1,by omega,O,(fun j y hj hy=>by
    by_cases e:j=i
    ·subst e;rw [hc] at hy;cases hy;exact hpc
    ·exact hpre j y V3 hy),rfl⟩
 ·rw [findI_none fun j y hy=>hpre j y (by have:=(wl hy);omega) hy]
  refine U12 ?_
  exact V6
abbrev Vp (b:Nat):LV:=.sv (.one (.val (.pointer (some ⟨b,0,none⟩))))
theorem find1_spec (c:Cp) (fad:Option Addr) (fcap:Nat) (id:Int) {b:Nat} {arr:Array Value} {el:TypeId} {fr:Nat×Nat} (hX:X b=some (.cells arr el fr)) (h0:arr[0]? = some (.int .i64 id)):
  PSpec Tryz.prog X 132 [Cx c fad fcap,Vp b] (Lb (c.id==id)):=by
 refine cD Tryz.func132 rfl V5 rfl rfl ?_
 intro C
 (refine U10 ?_;refine keq rfl rfl rfl ?_;refine U3 ?_)
 exact V6
theorem fclone_nil (cap:Nat):PSpec Tryz.prog X 111 [Lx none 0 cap] (Lx none 0 0):=by
 refine cD Tryz.func111 rfl V5 rfl rfl ?_
 intro C
 (refine U8 ?_;refine K.slcNil (r:=true) O bZ (.inl ⟨O,O⟩) dO ?_;refine U7 ?_)
 exact V6
theorem fclone_some (fa:Addr) (cap:Nat) (fs:List Fl) (hF:FieldsIn X (some fa) fs) (hb:fs.length≤4398046511104):
  MSpec Tryz.prog X 111 [Lx (some fa) fs.length cap] [] (.sv (.one (.slc 1000001 0 fs.length 3))) [fdB 1000001 fs]:=by
 refine cE Tryz.func111 rfl V5 rfl rfl V4 rfl rfl ?_
 intro C
 (refine U8 ?_;refine K.slcNil (r:=false) O bZ (.inl ⟨O,O⟩) dO ?_;refine U5 ?_;refine aZ (zs:=[]) (sz:=3) (e:=125) V5 O O O O O O dO<|kmv O<|K.appendX (by_:=32) (e2:=125) (news:=flV fs) (nl:=fs.length) (nc:=(flV fs).map .val) O O O O (fields_reads hF) (flV_len fs) (flV_one fs) V5 V5 V3 V3 O V3 O dO ?_;refine U3 ?_)
 exact ⟨[(1000001,7)],⟨[_],⟨O,trivial⟩,O⟩,V1,O,O⟩
theorem cclone_nil (c:Cp) (cap:Nat) (h:c.fs=[]):PSpec Tryz.prog X 89 [Cx c none cap] (.sv (SCx c none 0)):=by
 refine cD Tryz.func89 rfl V5 rfl rfl ?_
 intro C
 have hq:=fclone_nil X cap
 obtain ⟨id,nm,fs⟩:=c
 simp only at h
 subst h
 (refine U11 ?_;refine bG O O O O O (nl3 O O O O) dO ?_;refine U7 ?_)
 exact V10
theorem cclone_some (c:Cp) (fa:Addr) (cap:Nat) (hF:FieldsIn X (some fa) c.fs) (hb:c.fs.length≤4398046511104):
  MSpec Tryz.prog X 89 [Cx c (some fa) cap] [] (.sv (SCs c 1000001)) [fdB 1000001 c.fs]:=by
 refine cE Tryz.func89 rfl V5 rfl rfl V4 rfl rfl ?_
 intro C
 have hq:=fclone_some X fa cap c.fs hF hb
 (refine U9 ?_;refine bE [(1000001,20)] (.sv (.one (.slc 20 0 c.fs.length 3))) [fdB 20 c.fs] (hq) O O V15 O O O O O V18 dO ?_;refine U1 ?_;refine bG O O O O O (nl3 O O O O) dO ?_;refine U7 ?_)
 exact ⟨[(1000001,20)],⟨[_],⟨⟨_,_,O,O,O,.inl ⟨AggT.h,O⟩⟩,trivial⟩,O⟩,V1,O,O⟩
section
variable (ver:Int) (ad:Option Addr) (cap:Nat) (cs:List Cp) (f:FuncId) (caps:List Value) (p:Cp→Bool)
theorem first_no (hin:CompsIn X ad cs) (hbig:cs.length<4611686018427387904) (hp:∀ c∈cs,∀ fad fcap,PSpec Tryz.prog X f ([Cx c fad fcap]++caps.map fun v=>.sv (.one (.val v))) (Lb (p c))) (hno:findI p cs = -1):
  PSpec Tryz.prog X 131 [Sx ver ad cs.length cap,Lf f caps] (.tup [SC0,Sb false]):=by
 refine cD Tryz.func131 rfl V5 rfl rfl ?_
 intro C
 have hI:=idxC_spec X ad cap cs hin hbig f caps p hp
 rw [hno] at hI
 (refine U18 ?_;refine klt O O O ?_;refine U4 ?_;refine aT O O V2 V20 dO ?_;refine U4 ?_)
 exact V17
theorem first_nil (hin:CompsIn X ad cs) (hbig:cs.length<4611686018427387904) (hp:∀ c∈cs,∀ fad fcap,PSpec Tryz.prog X f ([Cx c fad fcap]++caps.map fun v=>.sv (.one (.val v))) (Lb (p c)))
  {i:Nat} {c:Cp} (hpre:∀ (j:Nat) (y:Cp),j<i→cs[j]? = some y→p y=false) (hc:cs[i]? = some c) (he:p c=true)
  {blk off:Nat} {arr:Array Value} {el:TypeId} {fr:Nat×Nat} {fcap:Nat} (had:ad=some ⟨blk,off,none⟩) (hX:X blk=some (.cells arr el fr)) (hsz:off+i*3+3≤arr.size) (hcs:((arr.toList.drop (off+i*3)).take 3).map CV.val=[.val (.int .i64 c.id),.val (.string ⟨c.nm.toArray⟩),.val (.slice none c.fs.length fcap)]) (h0:c.fs=[]):
  PSpec Tryz.prog X 131 [Sx ver ad cs.length cap,Lf f caps] (.tup [SCx c none 0,Sb true]):=by
 subst had
 have hI:=idxC_spec X _ cap cs hin hbig f caps p hp
 rw [findI_some hpre hc he] at hI
 have hi:=(wl hc)
 have hio:=wo off i 3
 refine cD Tryz.func131 rfl V5 rfl rfl ?_
 intro C
 have hq:=cclone_nil X c fcap h0
 refine U34 ?_
 exact V17
theorem first_box (hin:CompsIn X ad cs) (hbig:cs.length<4611686018427387904) (hp:∀ c∈cs,∀ fad fcap,PSpec Tryz.prog X f ([Cx c fad fcap]++caps.map fun v=>.sv (.one (.val v))) (Lb (p c)))
  {i:Nat} {c:Cp} (hpre:∀ (j:Nat) (y:Cp),j<i→cs[j]? = some y→p y=false) (hc:cs[i]? = some c) (he:p c=true)
  {blk off:Nat} {arr:Array Value} {el:TypeId} {fr:Nat×Nat} {fcap:Nat} {fa:Addr} (had:ad=some ⟨blk,off,none⟩) (hX:X blk=some (.cells arr el fr)) (hsz:off+i*3+3≤arr.size) (hcs:((arr.toList.drop (off+i*3)).take 3).map CV.val=[.val (.int .i64 c.id),.val (.string ⟨c.nm.toArray⟩),.val (.slice (some fa) c.fs.length fcap)]) (hF:FieldsIn X (some fa) c.fs) (hfb:c.fs.length≤4398046511104):
  MSpec Tryz.prog X 131 [Sx ver ad cs.length cap,Lf f caps] [] (.tup [SCs c 1000001,Sb true]) [fdB 1000001 c.fs]:=by
 subst had
 have hI:=idxC_spec X _ cap cs hin hbig f caps p hp
 rw [findI_some hpre hc he] at hI
 have hi:=(wl hc)
 have hio:=wo off i 3
 refine cE Tryz.func131 rfl V5 rfl rfl V4 rfl rfl ?_
 intro C
 have hq:=cclone_some X c fa fcap hF hfb
 (refine U29 ?_;refine bE [(1000001,20)] (.sv (SCs c 20)) [fdB 20 c.fs] (hq) O O V15 O O O O O V18 dO ?_;refine U4 ?_)
 exact ⟨[(1000001,20)],⟨[_,_],⟨⟨_,_,O,O,O,.inl ⟨AggT.h,O⟩⟩,O,trivial⟩,O⟩,V1,O,O⟩
end
theorem at_zero {arr:Array Value} {v:Value} (h:∃ sp,arr.toList=[v]++sp):arr[0]? = some v:=by
 obtain ⟨sp,h⟩:=h
 rw [← Array.getElem?_toList,h];rfl
theorem pFind_no (ver:Int) (ad:Option Addr) (cap:Nat) (cs:List Cp) (id:Int) (hin:CompsIn X ad cs) (hbig:cs.length<4611686018427387904) (hno:∀ (j:Nat) (y:Cp),cs[j]? = some y→(y.id==id)=false):
  PSpec Tryz.prog X 118 [Sx ver ad cs.length cap,Ln .i64 id] (.tup [SC0,Sb false]):=by
 refine cD Tryz.func118 rfl V5 rfl rfl ?_
 intro C
 (refine U3 ?_;refine K.box1 O O O dO ?_;refine U4 ?_)
 refine LWP.le (σ':=⟨[(3,Lp 3),(2,Lp 2),(4,Lp 4)],[(3,some ⟨3,[Value.int .i64 id].map .val,false⟩),sxB 2 ver ad cs.length cap,(4,some ⟨86,[.val (.int .i64 0),.val (.string ⟨#[]⟩),.val (.slice none 0 0)],false⟩)],X⟩) (Le.of V9 V9 V2 V2 V0) ?_
 refine LWP.freezePtr V27 V27 V27 fun b arr0 fr0 hn _ h0 => ?_
 have hin':=hin.mono (cG (o:=.cells arr0 3 fr0) hn)
 have hp:=fun (c:Cp) (_:c∈cs) (fad:Option Addr) (fcap:Nat)=>find1_spec _ c fad fcap id (cK X b (.cells arr0 3 fr0)) (at_zero h0)
 have hq:=first_no _ ver ad cap cs 132 [.pointer (some ⟨b,0,none⟩)] (fun c=>c.id==id) hin' hbig hp (findI_none hno)
 (refine U2 ?_;refine K.makeFunc O O dO ?_;refine U7 ?_)
 exact V17
theorem pFind (ver:Int) (ad:Option Addr) (cap:Nat) (cs:List Cp) (id:Int) (hin:CompsIn X ad cs) (hbig:cs.length<4611686018427387904) (hfs:∀ c∈cs,c.fs.length≤4398046511104) {i:Nat} {c:Cp} (hpre:∀ (j:Nat) (y:Cp),j<i→cs[j]? = some y→(y.id==id)=false) (hc:cs[i]? = some c) (he:c.id=id):
  (c.fs=[]∧PSpec Tryz.prog X 118 [Sx ver ad cs.length cap,Ln .i64 id] (.tup [SCx c none 0,Sb true])) ∨
   MSpec Tryz.prog X 118 [Sx ver ad cs.length cap,Ln .i64 id] [] (.tup [SCs c 1000001,Sb true]) [fdB 1000001 c.fs]:=by
 have he':(c.id==id)=true:=by rw [beq_iff_eq];exact he
 obtain ⟨blk,off,arr,el,fr,fad,fcap,rfl,hX,hsz,hcs,_,_,_,hF⟩:=hin.get hc
 cases fad with
 | none =>
  have hnil:=hF.none
  refine .inl ⟨hnil,?_⟩
  refine cD Tryz.func118 rfl V5 rfl rfl ?_
  intro C
  (refine U3 ?_;refine K.box1 O O O dO ?_;refine U4 ?_)
  refine LWP.le (σ':=⟨[(3,Lp 3),(2,Lp 2),(4,Lp 4)],[(3,some ⟨3,[Value.int .i64 id].map .val,false⟩),sxB 2 ver (some ⟨blk,off,none⟩) cs.length cap,(4,some ⟨86,[.val (.int .i64 0),.val (.string ⟨#[]⟩),.val (.slice none 0 0)],false⟩)],X⟩) (Le.of V9 V9 V2 V2 V0) ?_
  refine LWP.freezePtr V27 V27 V27 fun b arr0 fr0 hn _ h0 => ?_
  have hin':=hin.mono (cG (o:=.cells arr0 3 fr0) hn)
  have hp:=fun (c:Cp) (_:c∈cs) (fad:Option Addr) (fcap:Nat)=>find1_spec _ c fad fcap id (cK X b (.cells arr0 3 fr0)) (at_zero h0)
  have hq:=first_nil _ ver _ cap cs 132 [.pointer (some ⟨b,0,none⟩)] (fun c=>c.id==id) hin' hbig hp hpre hc he' rfl (cG hn _ _ hX) hsz hcs hnil
  (refine U2 ?_;refine K.makeFunc O O dO ?_;refine U7 ?_)
  exact V17
 | some fa =>
  refine .inr ?_
  refine cE Tryz.func118 rfl V5 rfl rfl V4 rfl rfl ?_
  intro C
  (refine U3 ?_;refine K.box1 O O O dO ?_;refine U4 ?_)
  refine LWP.le (σ':=⟨[(3,Lp 3),(2,Lp 2),(4,Lp 4)],[(3,some ⟨3,[Value.int .i64 id].map .val,false⟩),sxB 2 ver (some ⟨blk,off,none⟩) cs.length cap,(4,some ⟨86,[.val (.int .i64 0),.val (.string ⟨#[]⟩),.val (.slice none 0 0)],false⟩)],X⟩) (Le.of V9 V9 V2 V2 V0) ?_
  refine LWP.freezePtr V27 V27 V27 fun b arr0 fr0 hn _ h0 => ?_
  have hin':=hin.mono (cG (o:=.cells arr0 3 fr0) hn)
  have hp:=fun (c:Cp) (_:c∈cs) (fad:Option Addr) (fcap:Nat)=>find1_spec _ c fad fcap id (cK X b (.cells arr0 3 fr0)) (at_zero h0)
  have hq:=first_box _ ver _ cap cs 132 [.pointer (some ⟨b,0,none⟩)] (fun c=>c.id==id) hin' hbig hp hpre hc he' rfl (cG hn _ _ hX) hsz hcs (hF.mono (cG hn)) (hfs c (dA hc))
  (refine U2 ?_;refine K.makeFunc O O dO ?_;refine bE [(1000001,20)] (.tup [SCs c 20,Sb true]) [fdB 20 c.fs] (hq) O O V15 O O O O O V18 dO ?_;refine U6 ?_)
  exact ⟨[(1000001,20)],⟨[_,_],⟨⟨_,_,O,O,O,.inl ⟨AggT.h,O⟩⟩,O,trivial⟩,O⟩,V1,O,O⟩
end Go.Proofs.YtbpdbclndfmcgaaGreatDoor
end
section
set_option maxHeartbeats 12800000
set_option maxRecDepth 100000
namespace Go.Lg.Fld
open Go Go.Lg
def idsV (cs:List Cp):List Value:=cs.map fun c=>.int .i64 c.id
end Go.Lg.Fld
namespace Go.Proofs.YtbpdbclndfmcgaaGreatDoor
open Go Go.Lg Go.Lg.Fld
set_option maxRecDepth 100000
variable (X:Nat→Option Obj)
theorem pIds (ver:Int) (ad:Option Addr) (cap:Nat) (cs:List Cp) (hin:CompsIn X ad cs) (hS:cs.length≤65536):MSpec Tryz.prog X 67 [Sx ver ad cs.length cap] [] (.sv (.one (.slc 1000001 0 cs.length))) [(1000001,some ⟨3,(idsV cs).map .val,false⟩)]:=by
 refine cE Tryz.func67 rfl V5 rfl rfl V4 rfl rfl ?_
 intro C
 have hmk:slcBuild Tryz.prog 58 cs.length=some (List.replicate cs.length (.int .i64 0),1,3):=slcBuild_one V5 V5 V3
 (refine U10 ?_;refine K.makeSlc (m:=cs.length) (bytes:=8) O O hmk V5 V3 O O dO ?_;refine U11 ?_)
 refine cH (fun m σ=>∃ i:Nat,i≤cs.length∧m=cs.length-i∧σ=⟨[(3,.sv (.one (.slc 9 0 cs.length))),(11,Lx ad cs.length cap),(12,Ln .i64 (cs.length:Nat)),(13,Ln .i64 (i:Nat))],[(9,some ⟨3,(idsV (cs.take i)++List.replicate (cs.length-i) (Value.int .i64 0)).map .val,false⟩)],X⟩) cs.length
  ⟨_,Le.of VD VF V2 V2 V0,0,by omega,by omega,rfl⟩ ?_
 rintro m σ ⟨i,hi,rfl,rfl⟩
 by_cases hlt:i<cs.length
 ·obtain ⟨c,hc⟩:=wg hlt
  obtain ⟨blk,off,arr,el,fr,fad,fcap,rfl,hX,hsz,hcs,_,_,_,hF⟩:=hin.get hc
  have hio:=wo off i 3
  have hix:0+Int.toNat (i:Int)*1=i:=by rw [dD];omega
  have hil:(idsV (cs.take i)).length=i:=by unfold idsV;rw [cU,cX];omega
  have hroom:i+1≤((idsV (cs.take i)++List.replicate (cs.length-i) (Value.int .i64 0)).map CV.val).length:=by rw [cU,cT,hil,dB];omega
  have hspl:splice ((idsV (cs.take i)++List.replicate (cs.length-i) (Value.int .i64 0)).map CV.val) i [.val (.int .i64 c.id)]=(idsV (cs.take (i+1))++List.replicate (cs.length-(i+1)) (Value.int .i64 0)).map CV.val:=by
   unfold splice
   rw [show cs.length-i=(cs.length-(i+1))+1 by omega,List.replicate_succ,take_snoc hc]
   have e:idsV (cs.take i++[c])=idsV (cs.take i)++[.int .i64 c.id]:=by unfold idsV;rw [dE];rfl
   rw [e]
   simp only [dE,dJ]
   have hml:((idsV (cs.take i)).map CV.val).length=i:=by rw [cU,hil]
   generalize (idsV (cs.take i)).map CV.val=R at *
   rw [← hml,List.take_left,List.drop_length_add_append]
   simp
  (refine U24 ?_;refine K.store O O O O V5 hroom hspl dO ?_;refine U5 ?_)
  exact ⟨_,_,by omega,Le.of VD VF V2 V2 V0,i+1,by omega,O,O⟩
 ·have e:i=cs.length:=by omega
  subst e
  rw [dC,Nat.sub_self,List.replicate_zero,dG]
  refine U13 ?_
  exact ⟨[(1000001,9)],⟨[_],⟨O,trivial⟩,O⟩,V1,O,O⟩
end Go.Proofs.YtbpdbclndfmcgaaGreatDoor
end
section
set_option maxHeartbeats 12800000
set_option maxRecDepth 100000
namespace Go.Lg.Fld
open Go Go.Lg
theorem rowsZ_app:∀ {a b:List Cp} {u v:List Value},u.length=a.length→rowsZ (a++b) (u++v)=rowsZ a u++rowsZ b v
 | [],_,[],_,_=>rfl
 | _::a,b,_::u,v,h=>by
  simp only [dF] at h
  simp only [List.cons_append,rowsZ]
  rw [rowsZ_app (a:=a) (b:=b) (u:=u) (v:=v) (by omega)]
 | [],_,_::_,_,h=>by simp at h
 | _::_,_,[],_,h=>by simp at h
theorem joinM_has {C:Ctx} {Y H:Nat→Option Obj} (hO:OwnedM C Y H) {b:Nat} {o:Obj} (h:Y b=some o):joinM Y H b=some o:=by
 cases hb:H b with
 | none=>rw [joinM_out hb];exact h
 | some o'=>have:=(hO.own b o' hb).2.2;rw [this] at h;cases h
def zer (k:Nat):List Value:=(List.replicate k [Value.int .i64 0,Value.string ⟨#[]⟩,Value.slice none 0 0]).flatten
theorem zer_succ (k:Nat):zer (k+1)=[Value.int .i64 0,Value.string ⟨#[]⟩,Value.slice none 0 0]++zer k:=by unfold zer;rw [List.replicate_succ,List.flatten_cons]
theorem zer_len (k:Nat):(zer k).length=k*3:=by
 induction k with
 | zero=>rfl
 | succ k ih=>rw [zer_succ,cT,ih];simp;omega
theorem rowsZ_snoc {cs:List Cp} {cells:List Value} {i:Nat} {c:Cp} {v:Value} (hl:cells.length=i) (hc:cs[i]? = some c):rowsZ (cs.take (i+1)) (cells++[v])=rowsZ (cs.take i) cells++[.int .i64 c.id,.string ⟨c.nm.toArray⟩,v]:=by
 rw [take_snoc hc,rowsZ_app (by rw [cX];have:=(wl hc);omega)];rfl
def idM (ns:List Int):List (Value×Value):=ns.map fun x=>(.int .i64 x,.agg #[])
theorem idM_at (ns:List Int) (x:Int):At (idM ns) (.int .i64 x) (.agg #[]) (.agg #[]):=by
 by_cases h:x∈ns
 ·exact .inl (List.mem_map.2 ⟨x,h,rfl⟩)
 ·refine .inr ⟨fun p hp e => ?_,rfl⟩
  obtain ⟨y,hy,rfl⟩:=List.mem_map.1 hp
  simp only [Value.int.injEq,true_and] at e
  exact h (e▸hy)
theorem idM_any (ns:List Int) (x:Int) (r:Bool) (hr:ns.any (fun m=>m==x)=r):r=true↔∃ p∈idM ns,p.1 = .int .i64 x:=by
 subst hr
 rw [List.any_eq_true]
 constructor
 ·rintro ⟨m,hm,he⟩
  rw [beq_iff_eq] at he
  subst he
  exact ⟨_,List.mem_map.2 ⟨m,hm,O⟩,O⟩
 ·rintro ⟨p,hp,e⟩
  obtain ⟨y,hy,rfl⟩:=List.mem_map.1 hp
  simp only [Value.int.injEq,true_and] at e
  exact ⟨y,hy,by rw [beq_iff_eq];exact e⟩
theorem idM_put {ns:List Int} {x:Int} (h:ns.any (fun m=>m==x)=false):Put (idM ns) (.int .i64 x) (.agg #[]) (idM (ns++[x])):=by
 refine .inr ⟨fun p hp e => ?_,by unfold idM;rw [dE];rfl⟩
 obtain ⟨y,hy,rfl⟩:=List.mem_map.1 hp
 simp only [Value.int.injEq,true_and] at e
 rw [List.any_eq_false] at h
 exact h y hy (by rw [beq_iff_eq];exact e)
theorem fields_none {X:Nat→Option Obj} {ad:Option Addr} {fs:List Fl} (h:fs=[]):FieldsIn X ad fs:=by
 subst h
 exact ⟨fun k r hr=>(by simp at hr),fun f hf=>(by cases hf)⟩
theorem lent_fields {S:Nat→Option (Option Box)} {Y:Nat→Option Obj} {k n:Nat} {el:TypeId} {row:Bool} {fs:List Fl} {u:Value} (hk:S k=some (some ⟨el,(flV fs).map .val,row⟩)) (hs:∀ f∈fs,(-9223372036854775808≤f.kind∧f.kind<9223372036854775808)∧(-9223372036854775808≤f.count∧f.count<9223372036854775808)) (h:LentC S Y (.slc k 0 n 3) u):
  ∃ (fa:Addr) (fcap:Nat),u = .slice (some fa) n fcap∧FieldsIn Y (some fa) fs:=by
 obtain ⟨b,blk,cap2,m,hk',rfl,hc,hfit,hB⟩:=h
 rw [hk] at hk'
 simp only [Option.some.injEq] at hk'
 subst hk'
 obtain ⟨arr,fr,us',sp,hYb,hsz,harr,hv⟩:=hB
 have:=hv _ rfl
 subst this
 exact ⟨⟨blk,0,none⟩,cap2,O,fields_block hYb harr hs⟩
end Go.Lg.Fld
namespace Go.Proofs.YtbpdbclndfmcgaaGreatDoor
open Go Go.Lg Go.Lg.Fld
set_option maxRecDepth 100000
section
variable {n:Nat} {C:Ctx} {X:Nat→Option Obj} {s:List (Nat×LV)} {bx:List (Nat×Option Box)} {k:Nat}
theorem sc_shut {Mid:St→Prop} {cs:List Cp} {H:Nat→Option Obj} {cells sp:List Value} (hO:OwnedM C X H) (G:Twigs H 125 3 [] cells (cs.map fun c=>flV c.fs)) (hb:InB cs)
  (h:Leads n C Mid ⟨s,scB k cs::bx,X⟩):Leads n C Mid ⟨s,(k,some ⟨86,(rowsZ cs cells++sp).map .val,false⟩)::bx,joinM X H⟩:=by
 refine Leads.closeRes (vals:=rowsZ cs cells++sp) hO (fun ρ fr h1 h2 h3 => ?_) h
 refine ⟨_,fr,cells,sp,cK _ _ _,?_,?_,?_,hb⟩
 ·rw [h3];simp
 ·simp
 ·rw [cut_with h1];exact G
end
variable (X:Nat→Option Obj)
abbrev kcSt (ver:Int) (ad:Option Addr) (n cap i:Nat) (rows:List Value) (Y:Nat→Option Obj):St:=
 ⟨[(1,Lp 1),(2,Lp 2),(3,.sv (.one (.slc 9 0 n 3))),(11,Lx ad n cap),(12,Ln .i64 (n:Nat)),(13,Ln .i64 (i:Nat))],[(9,some ⟨86,rows.map .val,false⟩),sxB 1 ver ad n cap,(2,some ⟨24,[.val (.int .i64 0),.val (.slice none 0 0)],false⟩)],Y⟩
set_option maxHeartbeats 6400000 in
theorem pCloneBig (ver:Int) (ad:Option Addr) (cap:Nat) (cs:List Cp) (hin:CompsIn X ad cs) (hn:cs.length≤65536) (hfb0:∀ c∈cs,c.fs.length≤4398046511104):MSpec Tryz.prog X 55 [Sx ver ad cs.length cap] [] (.sv (.agg [.val (.int .i64 ver),.slc 1000001 0 cs.length 3])) [scB 1000001 cs]:=by
 refine cE Tryz.func55 rfl V5 rfl rfl V4 rfl rfl ?_
 intro C
 have hInb:InB cs:=fun c hc=>by
  obtain ⟨i,hi⟩:=List.mem_iff_getElem?.1 hc
  obtain ⟨_,_,_,_,_,_,_,_,_,_,_,_,_,_,hF⟩:=hin.get hi
  exact ⟨hin.small c hc,hF.small⟩
 have hmk:slcBuild Tryz.prog 22 cs.length=some (zer cs.length,3,86):=slcBuild_many (z := #[.int .i64 0,.string ⟨#[]⟩,.slice none 0 0]) V5 V5 rfl V3
 refine LWP.ends ?_
 (refine U10 ?_;refine K.makeSlc (m:=cs.length) (bytes:=48) O O hmk V5 V3 O O dO ?_;refine U11 ?_)
 refine cJ (fun m σ=>∃ (i:Nat) (cells:List Value) (H:Nat→Option Obj),i≤cs.length∧m=cs.length-i∧OwnedM C X H∧Twigs H 125 3 [] cells ((cs.take i).map fun c=>flV c.fs)∧σ=kcSt ver ad cs.length cap i (rowsZ (cs.take i) cells++zer (cs.length-i)) (joinM X H)) cs.length
  (cC (σ':=kcSt ver ad cs.length cap 0 (rowsZ (cs.take 0) []++zer (cs.length-0)) X) ?_ (cA ⟨0,[],fun _=>none,by omega,by omega,OwnedM.nil _ _,Twigs.nil _ _ _ _,rfl⟩)) ?_
 ·exact Le.of VC V9 V2 V2 V0
 rintro m σ ⟨i,cells,H,hi,rfl,hO,G,rfl⟩
 have hcl:cells.length=i:=by rw [G.len,cU,cX];omega
 by_cases hlt:i<cs.length
 ·obtain ⟨c,hc⟩:=wg hlt
  obtain ⟨blk,off,arr,el,fr,fad,fcap,rfl,hX,hsz,hcs,_,_,_,hF⟩:=hin.get hc
  have hio:=wo off i 3
  have hix:0+Int.toNat (i:Int)*3=i*3:=by rw [dD];omega
  have hX1:joinM X H blk=some (.cells arr el fr):=joinM_has hO hX
  have hpl:(rowsZ (cs.take i) cells).length=i*3:=by rw [rowsZ_len (by rw [hcl,cX];omega),cX,Nat.min_eq_left V3]
  have hFY:=hF.mono (Y:=joinM X H) fun b o h=>joinM_has hO h
  have hfb:=hfb0 c (dA hc)
  have hroom:i*3+3≤((rowsZ (cs.take i) cells++zer (cs.length-i)).map CV.val).length:=by rw [cU,cT,hpl,zer_len];omega
  have hspl:∀ cv:CV,splice ((rowsZ (cs.take i) cells++zer (cs.length-i)).map CV.val) (i*3) [.val (.int .i64 c.id),.val (.string ⟨c.nm.toArray⟩),cv]=(rowsZ (cs.take i) cells++[Value.int .i64 c.id,Value.string ⟨c.nm.toArray⟩]).map CV.val++cv::(zer (cs.length-(i+1))).map .val:=fun cv=>by
   unfold splice
   rw [show cs.length-i=(cs.length-(i+1))+1 by omega,zer_succ]
   simp only [dE,dJ]
   have hml:((rowsZ (cs.take i) cells).map CV.val).length=i*3:=by rw [cU,hpl]
   generalize (rowsZ (cs.take i) cells).map CV.val=R at *
   rw [← hml,List.take_left,List.drop_length_add_append]
   simp
  cases fad with
  | none =>
   have hf0:=hF.none
   have hq:=cclone_nil (joinM X H) c fcap hf0
   have hl0:c.fs.length=0:=by rw [hf0];rfl
   have hm0:rowsZ (cs.take (i+1)) (cells++[.slice none 0 0])=rowsZ (cs.take i) cells++[.int .i64 c.id,.string ⟨c.nm.toArray⟩,.slice none 0 0]:=rowsZ_snoc hcl hc
   (refine U24 ?_;refine K.store O O O O V5 hroom (hspl (.val (.slice none c.fs.length 0))) dO ?_;refine U5 ?_)
   refine cC (σ':=kcSt ver (some ⟨blk,off,none⟩) cs.length cap (i+1) (rowsZ (cs.take (i+1)) (cells++[.slice none 0 0])++zer (cs.length-(i+1))) (joinM X H)) ?_ (cA ⟨cs.length-(i+1),by omega,i+1,cells++[.slice none 0 0],H,by omega,O,hO,?_,O⟩)
   ·have hcell:(rowsZ (cs.take i) cells++[Value.int .i64 c.id,Value.string ⟨c.nm.toArray⟩]).map CV.val ++ .val (.slice none c.fs.length 0)::(zer (cs.length-(i+1))).map .val=(rowsZ (cs.take (i+1)) (cells++[.slice none 0 0])++zer (cs.length-(i+1))).map .val:=by rw [hm0,hl0];simp
    rw [hcell]
    exact Le.of VC V9 V2 V2 V0
   ·have G2:=G.pushZ none 0
    rw [take_snoc hc,dE,List.map_cons,List.map_nil,show flV c.fs=[] by rw [hf0];rfl]
    exact G2
  | some fa =>
   have hq:=cclone_some (joinM X H) c fa fcap hFY hfb
   (refine U22 ?_;refine bE [(1000001,20)] (.sv (SCs c 20)) [fdB 20 c.fs] (hq) O O V15 O O O O O V18 dO ?_;refine U1 ?_;refine K.store O O O O V5 hroom (hspl (.slc 20 0 c.fs.length 3)) dO ?_;refine U5 ?_)
   refine cC (σ':=⟨[(1,Lp 1),(2,Lp 2),(3,.sv (.one (.slc 9 0 cs.length 3))),(11,Lx (some ⟨blk,off,none⟩) cs.length cap),(12,Ln .i64 (cs.length:Nat)),(13,Ln .i64 (i+1:Nat))],[(9,some ⟨86,(rowsZ (cs.take i) cells++[Value.int .i64 c.id,Value.string ⟨c.nm.toArray⟩]).map .val ++ .slc 20 0 c.fs.length 3::(zer (cs.length-(i+1))).map .val,false⟩),(20,some ⟨125,(flV c.fs).map .val,true⟩),sxB 1 ver (some ⟨blk,off,none⟩) cs.length cap,(2,some ⟨24,[.val (.int .i64 0),.val (.slice none 0 0)],false⟩)],joinM X H⟩) (Le.of VC VD V2 V2 V0) ?_
   refine Leads.closeCell hO (flV_len _) O bT bT O O O fun b o v g1 _ hO3 hv=>cA ⟨cs.length-(i+1),by omega,i+1,cells++[v],withBlock H b o,by omega,O,hO3,?_,?_⟩
   ·rw [take_snoc hc,dE,List.map_cons,List.map_nil]
    by_cases hf0:flV c.fs=[]
    ·rw [hf0] at hv ⊢
     obtain ⟨len,cap',arr,fr,rfl,h2,_⟩:=hv
     have e0:len=0:=by rw [dL] at h2;omega
     subst e0
     exact (G.more g1).pushZ _ _
    ·exact G.push g1 hv hf0
   ·rw [rowsZ_snoc hcl hc]
    unfold kcSt
    simp
 ·have e:i=cs.length:=by omega
  subst e
  rw [dC] at *
  (refine U12 ?_;refine aT O O V2 V1C dO ?_;refine U3 ?_)
  refine cC (σ':=⟨[(2,Lp 2)],[(9,some ⟨86,(rowsZ cs cells++[]).map .val,false⟩),(2,some ⟨24,[.val (.int .i64 ver),.slc 9 0 cs.length 3],false⟩)],joinM X H⟩) (by rw [Nat.sub_self];exact Le.of VF VA V2 V2 V0) ?_
  refine sc_shut hO G hInb (cA ?_)
  exact ⟨[(1000001,9)],⟨[_],⟨⟨_,_,O,O,O,.inl ⟨AggT.h,O⟩⟩,trivial⟩,O⟩,V1,O,O⟩
theorem fit_lent {S:Nat→Option (Option Box)} {k:Nat} {fs:List Fl} {vad:Option Addr} {vcap:Nat} {ns:List (Bool×Int)} {el:TypeId} {row:Bool} {e:Int} (hs:∀ f∈fs,(-9223372036854775808≤f.kind∧f.kind<9223372036854775808)∧(-9223372036854775808≤f.count∧f.count<9223372036854775808)) (hbig:fs.length<4611686018427387904) (hns:NumsIn X vad ns)
  (hk:S k=some (some ⟨el,(flV fs).map .val,row⟩)) (he:fitErr fs ns=e):
  ∀ (Y:Nat→Option Obj) (us:List Value),(∀ b o,X b=some o→Y b=some o)→LentLs S Y [.sv (.one (.slc k 0 fs.length 3)),Lx vad ns.length vcap] us→PSpec Tryz.prog Y 82 (us.map toLV) (Ln .i64 e):=by
 intro Y us hY hL
 obtain ⟨u1,us1,rfl,h1,u2,us2,rfl,h2,rfl⟩:=hL
 have h2:u2 = .slice vad ns.length vcap:=h2
 subst h2
 obtain ⟨fa,fcap,rfl,hF⟩:=lent_fields hk hs h1
 subst he
 exact lFit_any Y (some fa) vad fcap vcap fs ns hF hbig ⟨hns.rows.mono hY,hns.in2⟩
theorem pPartBig (ver:Int) (ad vad:Option Addr) (cap vcap:Nat) (cs:List Cp) (p:Pt) (hin:CompsIn X ad cs) (hbig:cs.length<4611686018427387904) (hfs:∀ c∈cs,c.fs.length≤4398046511104) (hns:NumsIn X vad p.val) (e:Int) (he:partE cs p=e):
  PSpec Tryz.prog X 102 [Sx ver ad cs.length cap,Px p vad vcap] (Ln .i64 e):=by
 subst he
 refine cD Tryz.func102 rfl V5 rfl rfl ?_
 intro C
 unfold partE
 rcases find_cases cs p.comp with ⟨i,c,hc,he,hpre⟩|hno
 ·rw [find_at hpre hc he]
  have hfb:=hfs c (dA hc)
  rcases pFind X ver ad cap cs p.comp hin hbig hfs hpre hc he with ⟨h0,hF⟩|hF
  ·have hR:=lFit_any X none vad 0 vcap c.fs p.val (fields_none h0) V3 hns
   simp only
   generalize fitErr c.fs p.val=e at *
   refine U37 ?_
   exact V6
  ·obtain ⟨_,_,_,_,_,_,_,_,_,_,_,_,_,_,hFs⟩:=hin.get hc
   have hR:=fun (S:Nat→Option (Option Box)) (hk:S 20=some (some ⟨125,(flV c.fs).map .val,true⟩))=>fit_lent X (S:=S) (k:=20) (vcap:=vcap) hFs.small V3 hns hk rfl
   simp only
   generalize fitErr c.fs p.val=e at *
   (refine U11 ?_;refine bE [(1000001,20)] (.tup [SCs c 20,Sb true]) [fdB 20 c.fs] (hF) O O V15 O O O O O V18 dO ?_;refine U21 ?_;refine K.callL [20] O O O (hR _ O) dO ?_;refine U3 ?_)
   exact V6
 ·rw [find_no hno]
  have hF:=pFind_no X ver ad cap cs p.comp hin hbig hno
  refine U31 ?_
  exact V6
abbrev idBx (k:Nat) (ns:List Int):Nat×Option Box:=(k,some ⟨0,[],.res (mapR Tryz.prog 3 (idM ns))⟩)
set_option maxHeartbeats 3200000 in
theorem pPartsBig (ver:Int) (ad pad:Option Addr) (cap pcap:Nat) (cs:List Cp) (ps:List Pt) (hin:CompsIn X ad cs) (hbig:cs.length<4611686018427387904) (hfs:∀ c∈cs,c.fs.length≤4398046511104) (hps:PartsIn X pad ps) (hpb:ps.length<4611686018427387904) (e:Int) (he:partsE cs ps=e):
  PSpec Tryz.prog X 79 [Sx ver ad cs.length cap,Lx pad ps.length pcap] (Ln .i64 e):=by
 subst he
 refine cD Tryz.func79 rfl V5 rfl rfl ?_
 intro C
 (refine U7 ?_;refine K.makeMap 3 O dO ?_;refine U10 ?_)
 refine cH (fun m σ=>∃ i:Nat,i≤ps.length∧m=ps.length-i∧(∀ j,0≤j→j<i→ptE cs ps j=0)∧σ=⟨[(2,Lp 2),(5,Lmp 11),(12,Lx pad ps.length pcap),(13,Ln .i64 (ps.length:Nat)),(14,Ln .i64 (i:Nat))],[sxB 2 ver ad cs.length cap,idBx 11 ((ps.take i).map Pt.comp)],X⟩) ps.length
  ⟨_,Le.of V12 VA V2 V2 V0,0,by omega,by omega,fun j _ hj=>absurd hj V3,rfl⟩ ?_
 rintro m σ ⟨i,hi,rfl,hpre,rfl⟩
 by_cases hlt:i<ps.length
 ·obtain ⟨p,hp⟩:=wg hlt
  obtain ⟨blk,off,arr,el,fr,vad,vcap,rfl,hX,hsz,hcs,_,_,hN⟩:=hps.get hp
  have hio:=wo off i 2
  have hE:=ptE_at (cs:=cs) hp
  have hsm:=hps.small p (dA hp)
  have hkey:Go.keyOf Tryz.prog 3 (.int .i64 p.comp)=some (.int .i64 p.comp):=by
   rw [keyOf_int (q:=.i64) (by kernel_rfl)]
   unfold mapKey
   rw [show Tryz.prog.underlying 3=some (.int .i64) by kernel_rfl]
   have hw:(Lit.int .i64 p.comp).wf=true:=by
    show (decide (IntKind.i64.min≤p.comp)&&decide (p.comp≤IntKind.i64.max))=true
    rw [show IntKind.i64.min = -9223372036854775808 from rfl,show IntKind.i64.max=9223372036854775807 from rfl,cM hsm.1,cM (show p.comp≤9223372036854775807 by omega)];rfl
   simp [hw]
  have hat:=idM_at ((ps.take i).map Pt.comp) p.comp
  have hP:=pPartBig X ver ad vad cap vcap cs p hin hbig hfs hN (partE cs p) rfl
  have hany:((ps.take i).map Pt.comp).any (fun m=>m==p.comp)=(ps.take i).any (fun g=>g.comp==p.comp):=by rw [List.any_map];rfl
  have hts:(ps.take (i+1)).map Pt.comp=(ps.take i).map Pt.comp++[p.comp]:=by rw [take_snoc hp,dE];rfl
  cases hin2:(ps.take i).any (fun g=>g.comp==p.comp) with
  | true =>
   rw [hin2] at hE hany
   rw [if_pos rfl] at hE
   rw [show partsE cs ps=1 from firstE_some hpre (Nat.zero_le _) (by omega) hE (by decide)]
   have hr:=idM_any _ p.comp true hany
   generalize (ps.take i).map Pt.comp=ns at *
   (refine U22 ?_;refine K.lookupOk (et:=166) (.agg []) (v:=.agg #[]) (z:=.agg #[]) O O O V5 (KL.int (q:=.i64) V5) hkey V5 hat agg0_rel hr dO ?_;refine U17 ?_)
   exact V6
  | false =>
   rw [hin2] at hE hany
   rw [if_neg (by decide)] at hE
   have hr:=idM_any _ p.comp false hany
   have hput:=idM_put hany
   rw [← hts] at hput
   generalize (ps.take i).map Pt.comp=ns at *
   generalize hns:(ps.take (i+1)).map Pt.comp=ns' at *
   by_cases he0:partE cs p=0
   ·rw [he0] at hP hE
    (refine U22 ?_;refine K.lookupOk (et:=166) (.agg []) (v:=.agg #[]) (z:=.agg #[]) O O O V5 (KL.int (q:=.i64) V5) hkey V5 hat agg0_rel hr dO ?_;refine U18 ?_;refine aT O O V2 (by exact nl0 O) dO ?_;refine K.mapPut (et:=166) (idM ns') O O O O V5 (KL.int (q:=.i64) V5) hkey hput dO ?_;refine U19 ?_)
    subst hns
    exact ⟨_,_,by omega,Le.of V12 VA V2 V2 V0,i+1,by omega,O,(fun j h0 hj=>by
     by_cases e:j=i
     ·rw [e];exact hE
     ·exact hpre j h0 V3),rfl⟩
   ·rw [show partsE cs ps=partE cs p from firstE_some hpre (Nat.zero_le _) V3 hE he0]
    have hne:(partE cs p != 0)=true:=by rw [bne_iff_ne];exact he0
    generalize partE cs p=E at *
    (refine U22 ?_;refine K.lookupOk (et:=166) (.agg []) (v:=.agg #[]) (z:=.agg #[]) O O O V5 (KL.int (q:=.i64) V5) hkey V5 hat agg0_rel hr dO ?_;refine U18 ?_;refine aT O O V2 (by exact nl0 O) dO ?_;refine K.mapPut (et:=166) (idM ns') O O O O V5 (KL.int (q:=.i64) V5) hkey hput dO ?_;refine U11 ?_;refine kne O O hne ?_;refine U8 ?_)
    exact V6
 ·rw [show partsE cs ps=0 from firstE_none fun j h0 hj=>hpre j h0 V3]
  refine U12 ?_
  exact V6
end Go.Proofs.YtbpdbclndfmcgaaGreatDoor
end
section
set_option maxHeartbeats 12800000
set_option maxRecDepth 100000
namespace Go.Lg.Fld
open Go Go.Lg
theorem any_at {α:Type} {p:α→Bool} {l:List α} {i:Nat} {x:α} (h:l[i]? = some x) (hp:p x=true):l.any p=true:=List.any_eq_true.2 ⟨x,dA h,hp⟩
theorem any_no {α:Type} {p:α→Bool} {l:List α} (h:∀ (j:Nat) (y:α),l[j]? = some y→p y=false):l.any p=false:=by
 rw [List.any_eq_false]
 intro y hy
 obtain ⟨j,hj⟩:=List.mem_iff_getElem?.1 hy
 rw [h j y hj];simp
end Go.Lg.Fld
namespace Go.Proofs.YtbpdbclndfmcgaaGreatDoor
open Go Go.Lg Go.Lg.Fld
set_option maxRecDepth 100000
variable (X:Nat→Option Obj)
def cs0:List Cp:=[⟨1,[112,111,115],[⟨[120],3,1⟩,⟨[121],3,1⟩]⟩,⟨3,[116,97,103],[]⟩]
end Go.Proofs.YtbpdbclndfmcgaaGreatDoor
end
section
set_option maxHeartbeats 12800000
set_option maxRecDepth 100000
namespace Go.Lg.Fld
open Go Go.Lg
def Scan {α:Type} (p:α→Bool) (l:List α) (k:Nat) (v:Int):Prop:=(v = -1∧∀ (m:Nat) (y:α),k≤m→l[m]? = some y→p y=false)∨∃ (i:Nat) (c:α),v=(i:Nat)∧l[i]? = some c∧p c=true∧∀ (m:Nat) (y:α),k≤m→m<i→l[m]? = some y→p y=false
end Go.Lg.Fld
namespace Go.Proofs.YtbpdbclndfmcgaaGreatDoor
open Go Go.Lg Go.Lg.Fld
set_option maxRecDepth 100000
variable (X:Nat→Option Obj)
end Go.Proofs.YtbpdbclndfmcgaaGreatDoor
end
section
set_option maxHeartbeats 12800000
set_option maxRecDepth 100000
namespace Go.Lg.Fld
open Go Go.Lg
structure Good (cs:List Cp):Prop where
 one:∀ (i:Nat) (c:Cp),cs[i]? = some c→1≤c.id∧c.id≤24∧nmB c.nm=true∧firstE (fldE c.fs) 0 c.fs.length=0∧layErr c.fs=0
 two:∀ (i j:Nat) (c d:Cp),i<j→cs[i]? = some c→cs[j]? = some d→c.id<d.id∧c.nm≠d.nm
theorem good_of {cs:List Cp} (h:firstE (cmpE cs) 0 cs.length=0):Good cs:=by
 have h0:∀ (i:Nat) (c:Cp),cs[i]? = some c→¬(c.id<1∨24<c.id∨(0<i∧c.id≤prevId cs i))∧nmB c.nm=true∧(cs.take i).any (fun g=>g.nm==c.nm)=false∧firstE (fldE c.fs) 0 c.fs.length=0∧layErr c.fs=0:=fun i c hc=>by
  have hi:=(wl hc)
  have h1:=firstE_zero h i (Nat.zero_le _) V3
  rw [cmpE_at hc] at h1
  by_cases b1:c.id<1∨24<c.id∨(0<i∧c.id≤prevId cs i)
  ·rw [if_pos b1] at h1;cases h1
  ·rw [if_neg b1] at h1
   by_cases b2:nmB c.nm=true
   ·rw [if_pos b2] at h1
    by_cases b3:(cs.take i).any (fun g=>g.nm==c.nm)=true
    ·rw [if_pos b3] at h1;cases h1
    ·rw [if_neg b3] at h1
     by_cases b4:firstE (fldE c.fs) 0 c.fs.length=0
     ·rw [if_pos b4] at h1
      exact ⟨b1,b2,by simpa using b3,b4,h1⟩
     ·rw [if_neg b4] at h1;cases h1
   ·rw [if_neg b2] at h1;cases h1
 refine ⟨fun i c hc => ?_,fun i j c d hij hc hd=>⟨?_,fun e => ?_⟩⟩
 ·obtain ⟨h1,h2,_,h4,h5⟩:=h0 i c hc
  exact ⟨by omega,by omega,h2,h4,h5⟩
 ·obtain ⟨k,rfl⟩:∃ k,j=i+1+k:=⟨j-(i+1),by omega⟩
  induction k generalizing d with
  | zero =>
   obtain ⟨h1,_⟩:=h0 _ d hd
   have hp:cs[i+1+0-1]? = some c:=hc
   have:=prev_at hp
   omega
  | succ k ih =>
   obtain ⟨d',hd'⟩:∃ d',cs[i+1+k]? = some d':=⟨_,cV (by have:=(wl hd);omega)⟩
   have h2:=ih d' V3 hd'
   obtain ⟨h1,_⟩:=h0 _ d hd
   have hp:cs[i+1+(k+1)-1]? = some d':=hd'
   have:=prev_at hp
   omega
 ·obtain ⟨_,_,h3,_⟩:=h0 j d hd
  have:=any_true (p:=fun g:Cp=>g.nm==d.nm) hij hc (by rw [beq_iff_eq];exact e)
  rw [h3] at this;cases this
end Go.Lg.Fld
end
section
set_option maxHeartbeats 12800000
set_option maxRecDepth 100000
namespace Go.Lg.Fld
open Go Go.Lg
def Less (x y:List UInt8×Bool):Prop:=y.1.length≤x.1.length∧(x.2=true→y.2=true)
end Go.Lg.Fld
namespace Go.Proofs.YtbpdbclndfmcgaaGreatDoor
open Go Go.Lg Go.Lg.Fld
set_option maxRecDepth 100000
variable (X:Nat→Option Obj)
end Go.Proofs.YtbpdbclndfmcgaaGreatDoor
end
section
set_option maxHeartbeats 12800000
set_option maxRecDepth 100000
namespace Go.Lg.Fld
open Go Go.Lg
def SmallC8 (cs:List Cp):Prop:=cs.length≤30∧∀ c∈cs,c.fs.length≤12∧c.nm.length≤300∧∀ f∈c.fs,f.nm.length≤300
end Go.Lg.Fld
namespace Go.Proofs.YtbpdbclndfmcgaaGreatDoor
open Go Go.Lg Go.Lg.Fld
set_option maxRecDepth 100000
variable (X:Nat→Option Obj)
end Go.Proofs.YtbpdbclndfmcgaaGreatDoor
end
section
set_option maxHeartbeats 12800000
set_option maxRecDepth 100000
namespace Go.Proofs.YtbpdbclndfmcgaaGreatDoor
open Go Go.Lg Go.Lg.Fld
set_option maxRecDepth 100000
def fsAt (cs:List Cp) (id:Int):List Fl:=match cs.find? (fun c=>c.id==id) with|some c=>c.fs|none=>[]
theorem partE_find {cs:List Cp} {p:Pt} (h:partE cs p=0):∃ c,cs.find? (fun c=>c.id==p.comp)=some c∧fitErr c.fs p.val=0:=by
 unfold partE at h
 cases hf:cs.find? (fun c=>c.id==p.comp) with
 | none=>rw [hf] at h;cases h
 | some c=>rw [hf] at h;exact ⟨c,rfl,h⟩
end Go.Proofs.YtbpdbclndfmcgaaGreatDoor
end
section
namespace Go.Lg.Sg
open Go Go.Lg
def nuV (l:List Int):List Value:=l.map (Value.int .i64 ·)
def NuIn (X:Nat→Option Obj) (ad:Option Addr) (l:List Int):Prop:=RowsIn X ad 1 (l.map fun n=>[.int .i64 n])
theorem NuIn.at {X:Nat→Option Obj} {ad:Option Addr} {l:List Int} (h:NuIn X ad l) {i:Nat} {x:Int} (hx:l[i]? = some x):∃ (blk off:Nat) (arr:Array Value) (el:TypeId) (fr:Nat×Nat),ad=some ⟨blk,off,none⟩∧X blk=some (.cells arr el fr)∧arr[off+i*1]? = some (.int .i64 x):=by
 obtain ⟨blk,off,arr,el,fr,h1,h2,h3,h4⟩:=h i [.int .i64 x] (by rw [List.getElem?_map,hx];rfl)
 refine ⟨blk,off,arr,el,fr,h1,h2,?_⟩
 have:=congrArg (fun l:List Value=>l[0]?) h4
 simpa [List.getElem?_take,List.getElem?_drop] using this
theorem NuIn.mono {X Y:Nat→Option Obj} {ad:Option Addr} {l:List Int} (h:NuIn X ad l) (hm:∀ b o,X b=some o→Y b=some o):NuIn Y ad l:=RowsIn.mono h hm
theorem nu_flat (l:List Int):(l.map fun n=>[Value.int .i64 n]).flatten=nuV l:=by
 unfold nuV
 induction l with
 | nil=>rfl
 | cons x t ih=>rw [List.map_cons,List.flatten_cons,ih];rfl
theorem nu_frozen {X:Nat→Option Obj} {blk:Nat} {arr:Array Value} {el:TypeId} {fr:Nat×Nat} {l:List Int} (h:∃ sp,arr.toList=nuV l++sp):NuIn (withBlock X blk (.cells arr el fr)) (some ⟨blk,0,none⟩) l:=
 rows_frozen (fun r hr=>by obtain ⟨x,_,rfl⟩:=List.mem_map.1 hr;rfl) (by rw [nu_flat];exact h)
abbrev nuB (k:Nat) (l:List Int):Nat×Option Box:=(k,some ⟨3,(nuV l).map .val,true⟩)
abbrev nuB' (k:Nat) (l:List Int) (r:Bool):Nat×Option Box:=(k,some ⟨3,(nuV l).map .val,r⟩)
end Go.Lg.Sg
end
section
set_option maxHeartbeats 12800000
set_option maxRecDepth 100000
namespace Go.Lg.Fld
open Go Go.Lg
structure Ch where
 kind:Int
 comp:Int
 fld:List UInt8
instance:DecidableEq Ch:=fun a b=>decidable_of_iff (a.kind=b.kind∧a.comp=b.comp∧a.fld=b.fld) ⟨fun ⟨h1,h2,h3⟩=>by cases a;cases b;simp_all,fun h=>by rw [h];exact ⟨rfl,rfl,rfl⟩⟩
def fldAt (fs:List Fl) (nm:List UInt8):Option Fl:=fs.find? fun f=>f.nm==nm
def fldIx (fs:List Fl) (nm:List UInt8):Int:=findI (fun f=>f.nm==nm) fs
theorem fldIx_some {fs:List Fl} {nm:List UInt8} (h:0≤fldIx fs nm):∃ (k:Nat) (g:Fl),fs[k]? = some g∧g.nm=nm∧fldIx fs nm=(k:Nat)∧fldAt fs nm=some g∧∀ (j:Nat) (y:Fl),j<k→fs[j]? = some y→y.nm≠nm:=by
 unfold fldIx findI at h
 cases hf:fs.findIdx? (fun f=>f.nm==nm) with
 | none=>rw [hf] at h;simp only at h;omega
 | some k =>
  obtain ⟨hk,h1,h2⟩:=List.findIdx?_eq_some_iff_getElem.1 hf
  refine ⟨k,fs[k],cV hk,by simpa using h1,by unfold fldIx findI;rw [hf],?_,fun j y hj hy => ?_⟩
  ·unfold fldAt
   rw [List.find?_eq_some_iff_getElem]
   exact ⟨h1,k,hk,O,fun j hj=>by simpa using h2 j hj⟩
  ·obtain ⟨hj',e⟩:=List.getElem?_eq_some_iff.1 hy
   have:=h2 j hj
   rw [e] at this
   simpa using this
end Go.Lg.Fld
end
section
set_option maxHeartbeats 12800000
set_option maxRecDepth 100000
namespace Go.Lg.Fld
open Go Go.Lg
def Apart (fs:List Fl):Prop:=fs.Pairwise fun f g=>f.nm≠g.nm
theorem sorted_eq {α:Type} (key:α→Int):∀ {l1 l2:List α},l1.Pairwise (fun x y=>key x<key y)→l2.Pairwise (fun x y=>key x<key y)→(∀ x,x∈l1↔x∈l2)→l1=l2
 | [],[],_,_,_=>rfl
 | [],y::_,_,_,h=>by have:=(h y).2 List.mem_cons_self;cases this
 | x::_,[],_,_,h=>by have:=(h x).1 List.mem_cons_self;cases this
 | x::t1,y::t2,h1,h2,h=>by
  obtain ⟨a1,b1⟩:=List.pairwise_cons.1 h1
  obtain ⟨a2,b2⟩:=List.pairwise_cons.1 h2
  have e:x=y:=by
   rcases List.mem_cons.1 ((h x).1 List.mem_cons_self) with e|hx
   ·exact e
   ·rcases List.mem_cons.1 ((h y).2 List.mem_cons_self) with e|hy
    ·exact e.symm
    ·have:=a1 y hy;have:=a2 x hx;omega
  subst e
  rw [sorted_eq key b1 b2 fun z=>⟨fun hz => ?_,fun hz => ?_⟩]
  ·rcases List.mem_cons.1 ((h z).1 (List.mem_cons_of_mem _ hz)) with e|h'
   ·have:=a1 z hz;rw [e] at this;omega
   ·exact h'
  ·rcases List.mem_cons.1 ((h z).2 (List.mem_cons_of_mem _ hz)) with e|h'
   ·have:=a2 z hz;rw [e] at this;omega
   ·exact h'
end Go.Lg.Fld
end
section
set_option maxHeartbeats 12800000
set_option maxRecDepth 100000
namespace Go.Lg.Fld
open Go Go.Lg
def Ch.vals (x:Ch):List Value:=[.int .i64 x.kind,.int .i64 x.comp,.string ⟨x.fld.toArray⟩]
end Go.Lg.Fld
namespace Go.Proofs.YtbpdbclndfmcgaaGreatDoor
open Go Go.Lg Go.Lg.Fld
set_option maxRecDepth 100000
variable (X:Nat→Option Obj)
end Go.Proofs.YtbpdbclndfmcgaaGreatDoor
end
section
set_option maxHeartbeats 12800000
set_option maxRecDepth 100000
namespace Go.Lg.Sg
open Go Go.Lg
def bl (f:Nat→Bool):List CV:=(List.range 32).map fun j=>.val (.bool (f j))
theorem bl_at {f:Nat→Bool} {i:Nat} (hi:i<32):(bl f)[i]? = some (.val (.bool (f i))):=by
 simp [bl,hi]
theorem bl_congr {f g:Nat→Bool} (h:∀ j,j<32→f j=g j):bl f=bl g:=by
 unfold bl
 exact List.map_congr_left fun j hj=>by rw [h j (List.mem_range.1 hj)]
theorem bl_set {f:Nat→Bool} {i:Nat} {b:Bool} (hi:i<32):(bl f).set i (.val (.bool b))=bl (fun j=>if j=i then b else f j):=by
 apply List.ext_getElem?
 intro j
 rw [List.getElem?_set]
 by_cases h:i=j
 ·subst h
  simp [bl,hi]
 ·rw [if_neg h]
  by_cases hj:j<32
  ·rw [bl_at hj,bl_at hj,if_neg (fun e=>h e.symm)]
  ·simp [bl,hj]
theorem bl_len (f:Nat→Bool):(bl f).length=32:=by unfold bl;rw [cU,List.length_range]
theorem bl_blt {f:Nat→Bool} {i:Nat} (hi:i<32):Nat.blt i (bl f).length=true:=by rw [bl_len];unfold Nat.blt;rw [Nat.ble_eq];exact hi
def idsTo (a n:Nat):List Int:=((List.range n).filter fun i=>a.testBit (i+1)).map fun i=>((i+1:Nat):Int)
def idsL (a:Nat):List Int:=idsTo a 24
theorem idsTo_succ (a n:Nat):idsTo a (n+1)=idsTo a n++if a.testBit (n+1)=true then [((n+1:Nat):Int)] else []:=by
 unfold idsTo
 rw [List.range_succ,List.filter_append,dE]
 congr 1
 by_cases h:a.testBit (n+1)=true<;>simp [h]
theorem idsTo_len (a n:Nat):(idsTo a n).length≤n:=by
 unfold idsTo
 rw [cU]
 exact Nat.le_trans (List.length_filter_le _ _) (by rw [List.length_range];exact dK _)
def okJ (id:Int):Bool:=decide (1≤id)&&decide (id≤24)
theorem okI_iff {id:Int}:okJ id=true↔1≤id∧id≤24:=by unfold okJ;simp
def hasB (a:Nat) (id:Int):Bool:=okJ id&&a.testBit id.toNat
theorem mem_ids {a n:Nat} {id:Int}:id∈idsTo a n↔1≤id∧id≤n∧a.testBit id.toNat=true:=by
 unfold idsTo
 rw [List.mem_map]
 constructor
 ·rintro ⟨i,hi,rfl⟩
  obtain ⟨h1,h2⟩:=List.mem_filter.1 hi
  have:=List.mem_range.1 h1
  exact ⟨by omega,by omega,by rw [show ((i+1:Nat):Int).toNat=i+1 from rfl];exact h2⟩
 ·rintro ⟨h1,h2,h3⟩
  refine ⟨id.toNat-1,List.mem_filter.2 ⟨List.mem_range.2 V3,?_⟩,by omega⟩
  rw [show id.toNat-1+1=id.toNat by omega]
  exact h3
theorem any_ids {a:Nat} {id:Int}:(idsL a).any (fun x=>x==id)=hasB a id:=by
 rw [Bool.eq_iff_iff,List.any_eq_true]
 unfold hasB
 rw [Bool.and_eq_true,okI_iff]
 constructor
 ·rintro ⟨x,hx,he⟩
  rw [beq_iff_eq.1 he] at hx
  obtain ⟨h1,h2,h3⟩:=mem_ids.1 hx
  exact ⟨⟨h1,h2⟩,h3⟩
 ·rintro ⟨⟨h1,h2⟩,h3⟩
  exact ⟨id,mem_ids.2 ⟨h1,h2,h3⟩,cS O⟩
def badI (i:Nat):Bool:=decide (i<1)||decide (24<i)
def isB (a:Nat):Bool:=(List.range 32).all fun i => !(a.testBit i&&badI i)
theorem isB_iff {a:Nat}:isB a=true↔∀ i,i<32→a.testBit i=true→1≤i∧i≤24:=by
 unfold isB badI
 rw [List.all_eq_true]
 constructor
 ·intro h i hi hb
  have:=h i (List.mem_range.2 hi)
  rw [hb] at this
  simp at this
  omega
 ·intro h i hi
  have hi:=List.mem_range.1 hi
  cases hb:a.testBit i with
  | false=>rfl
  | true =>
   obtain ⟨h1,h2⟩:=h i hi hb
   rw [cL (by omega),cL (by omega)]
   rfl
theorem half_bit (a i:Nat):(a/2^i%2==1)=a.testBit i:=by
 rw [Nat.testBit_eq_decide_div_mod_eq]
 by_cases h:a/2^i%2=1
 ·rw [cM h];exact cS h
 ·rw [cL h];exact cO h
theorem half_next (a i:Nat):a/2^i/2=a/2^(i+1):=by rw [Nat.div_div_eq_div_mul,← Nat.pow_succ]
end Go.Lg.Sg
namespace Go.Proofs.YtbpdbclndfmcgaaGreatDoor
open Go Go.Lg Go.Lg.Fld Go.Lg.Sg
set_option maxRecDepth 100000
variable (X:Nat→Option Obj)
instance:ArrB Tryz.prog 114 (List.replicate 32 (.bool false)) 1:=⟨by kernel_rfl⟩
abbrev blB (k:Nat) (f:Nat→Bool):Nat×Option Box:=(k,some ⟨114,bl f,false⟩)
theorem rBits_spec (a:Nat) (ha:a<4294967296):PSpec Tryz.prog X 57 [Ln .u32 (a:Nat)] (.sv (.agg (bl a.testBit))):=by
 refine cD Tryz.func57 rfl V5 rfl rfl ?_
 intro C
 (refine U6 ?_;refine K.buildArr O O V2 O dO ?_;refine U9 ?_)
 refine cH (fun m σ=>∃ i:Nat,i≤32∧m=32-i∧σ=⟨[(0,Ln .u32 (a/2^i:Nat)),(2,Lp 2),(3,Lp 3),(4,Ln .i64 (i:Nat))],[blB 2 fun _=>false,blB 3 fun j=>decide (j<i)&&a.testBit j],X⟩) 32
  ⟨⟨[(0,Ln .u32 (a/2^0:Nat)),(2,Lp 2),(3,Lp 3),(4,Ln .i64 (0:Nat))],[blB 2 fun _=>false,blB 3 fun j=>decide (j<0)&&a.testBit j],X⟩,by
   rw [show a/2^0=a from Nat.div_one a]
   exact Le.of VD VA V2 V2 V0,0,by omega,O,O⟩ ?_
 rintro m σ ⟨i,hi,rfl,rfl⟩
 by_cases hlt:i<32
 ·have hb:=half_bit a i
  have hmod:(((a/2^i:Nat):Int)).tmod ((2:Nat):Int)=((a/2^i%2:Nat):Int):=rfl
  have hquo:IntKind.u32.wrap ((((a/2^i:Nat):Int)).tdiv ((2:Nat):Int))=((a/2^(i+1):Nat):Int):=by
   rw [← half_next]
   refine wrap_u32 ⟨Int.natCast_nonneg _,?_⟩
   have:a/2^i/2≤a:=Nat.le_trans (Nat.div_le_self _ _) (Nat.div_le_self _ _)
   show ((a/2^i/2:Nat):Int)<_
   omega
  have heq:(((a/2^i%2:Nat):Int)==1)=a.testBit i:=by
   rw [← hb]
   by_cases h:a/2^i%2=1
   ·rw [h];rfl
   ·rw [cO h,cO V3]
  have hi0:0+Int.toNat (i:Int)*1=i:=by simp
  have hset:=(bl_set (f:=fun j=>decide (j<i)&&a.testBit j) (b:=a.testBit i) hlt).trans (bl_congr (g:=fun j=>decide (j<i+1)&&a.testBit j) fun j _=>by
   by_cases e:j=i
   ·rw [if_pos e,e,cM V3,Bool.true_and]
   ·rw [if_neg e]
    congr 1
    by_cases h:j<i
    ·rw [cM h,cM V3]
    ·rw [cL h,cL V3])
  (refine U14 ?_;refine K.rem O O V11 hmod dO<|keq O O heq<|K.indexArr O O V3 hi0 dO ?_;refine bG O O O O (bl_blt hlt) hset dO ?_;refine U3 ?_;refine K.quo O O V11 hquo dO ?_;refine U7 ?_)
  exact ⟨_,⟨[(0,Ln .u32 (a/2^(i+1):Nat)),(2,Lp 2),(3,Lp 3),(4,Ln .i64 (i+1:Nat))],[blB 2 fun _=>false,blB 3 fun j=>decide (j<i+1)&&a.testBit j],X⟩,by omega,Le.of VD VA V2 V2 V0,i+1,by omega,O,O⟩
 ·have e:i=32:=by omega
  subst e
  have h32:blB 3 (fun j=>decide (j<32)&&a.testBit j)=blB 3 a.testBit:=congrArg (fun c=>((3,some ⟨114,c,false⟩):Nat×Option Box)) (bl_congr fun j hj=>by rw [cM hj,Bool.true_and])
  rw [h32]
  (refine U4 ?_;refine klt rfl rfl (r:=false) rfl ?_;refine U9 ?_)
  exact V10
end Go.Proofs.YtbpdbclndfmcgaaGreatDoor
end
section
set_option maxHeartbeats 12800000
set_option maxRecDepth 100000
namespace Go.Lg.Sg
open Go Go.Lg
def txStep (s:List UInt8×Bool) (x:Int):List UInt8×Bool:=(s.1++(if s.2=true then [43] else [])++Lib.itoa x,true)
def txF (l:List Int):List UInt8×Bool:=l.foldl txStep ([],false)
def ofN (ids:List Int):Nat:=ids.foldl (fun n id=>n ||| 2^id.toNat) 0
theorem ofN_bit (ids:List Int) (j:Nat):(ofN ids).testBit j=ids.any fun id=>id.toNat==j:=by
 unfold ofN
 suffices H:∀ (l:List Int) (n:Nat),(l.foldl (fun n id=>n ||| 2^id.toNat) n).testBit j=(n.testBit j||l.any fun id=>id.toNat==j) by
  rw [H,Nat.zero_testBit,Bool.false_or]
 intro l
 induction l with
 | nil=>intro n;simp
 | cons x t ih =>
  intro n
  rw [List.foldl_cons,ih,Nat.testBit_or,Nat.testBit_two_pow,List.any_cons,Bool.or_assoc]
  congr 2
theorem ofN_lt {ids:List Int} (h:∀ id∈ids,okJ id=true):ofN ids<33554432:=by
 refine Nat.lt_pow_two_of_testBit (n:=25) _ fun i hi => ?_
 rw [ofN_bit,List.any_eq_false]
 intro id hid e
 have:=okI_iff.1 (h id hid)
 have:=beq_iff_eq.1 e
 omega
theorem ofN_isB {ids:List Int} (h:∀ id∈ids,okJ id=true):isB (ofN ids)=true:=by
 rw [isB_iff]
 intro i _ hb
 rw [ofN_bit,List.any_eq_true] at hb
 obtain ⟨id,hid,e⟩:=hb
 have:=okI_iff.1 (h id hid)
 have:=beq_iff_eq.1 e
 omega
def okIds (ids:List Int):Bool:=ids.all okJ
def ofA (ids:List Int):Nat:=if okIds ids=true then ofN ids else 0
end Go.Lg.Sg
namespace Go.Proofs.YtbpdbclndfmcgaaGreatDoor
open Go Go.Lg Go.Lg.Fld Go.Lg.Sg
set_option maxRecDepth 100000
variable (X:Nat→Option Obj)
theorem rIs_spec (a:Nat) (ha:a<4294967296):PSpec Tryz.prog X 42 [Ln .u32 (a:Nat)] (Lb (isB a)):=by
 have hB:=rBits_spec X a ha
 refine cD Tryz.func42 rfl V5 rfl rfl ?_
 intro C
 refine U17 ?_
 refine cH (fun m σ=>∃ i:Nat,i≤32∧m=32-i∧(∀ j,j<i→(a.testBit j&&badI j)=false)∧σ=⟨[(3,Lp 3),(4,Ln .i64 (i:Nat))],[blB 3 a.testBit],X⟩) 32
  ⟨⟨[(3,Lp 3),(4,Ln .i64 (0:Nat))],[blB 3 a.testBit],X⟩,Le.of VA VF V2 V2 V0,0,by omega,rfl,fun j h=>absurd h V3,rfl⟩ ?_
 rintro m σ ⟨i,hi,rfl,hpre,rfl⟩
 by_cases hlt:i<32
 ·have hi0:0+Int.toNat (i:Int)*1=i:=by simp
  have hat:=bl_at (f:=a.testBit) hlt
  have next:∀ (h:(a.testBit i&&badI i)=false),∀ j,j<i+1→(a.testBit j&&badI j)=false:=fun h j hj=>by
   by_cases e:j=i
   ·rw [e];exact h
   ·exact hpre j V3
  cases hb:a.testBit i with
  | false =>
   rw [hb] at hat
   (refine U13 ?_;refine K.indexArr O O V3 hi0 dO ?_;refine U17 ?_)
   exact ⟨_,⟨[(3,Lp 3),(4,Ln .i64 (i+1:Nat))],[blB 3 a.testBit],X⟩,by omega,Le.of VA VF V2 V2 V0,i+1,by omega,rfl,next (by rw [hb];rfl),rfl⟩
  | true =>
   rw [hb] at hat
   have no:badI i=true→isB a=false:=fun h=>by
    unfold isB
    rw [List.all_eq_false]
    exact ⟨i,List.mem_range.2 hlt,by rw [hb,h];decide⟩
   by_cases h1:i<1
   ·rw [no (by unfold badI;rw [cM h1];rfl)]
    (refine U13 ?_;refine K.indexArr O O V3 hi0 dO ?_;refine U3 ?_;refine bK O O (cM V3) (dP O O) ?_;refine U3 ?_;refine bF O O (dP O O) ?_;refine U8 ?_)
    exact V6
   by_cases h2:24<i
   ·rw [no (by unfold badI;rw [cM h2,Bool.or_true])]
    (refine U13 ?_;refine K.indexArr O O V3 hi0 dO ?_;refine U3 ?_;refine bK O O (cL V3) (dP O O) ?_;refine U2 ?_;refine aS O O (cM V3) (dP O O) ?_;refine bO O O (dP O O) ?_;refine U8 ?_)
    exact V6
   (refine U13 ?_;refine K.indexArr O O V3 hi0 dO ?_;refine U3 ?_;refine bK O O (cL V3) (dP O O) ?_;refine U2 ?_;refine aS O O (cL V3) (dP O O) ?_;refine bO O O (dP O O) ?_;refine U9 ?_)
   exact ⟨_,⟨[(3,Lp 3),(4,Ln .i64 (i+1:Nat))],[blB 3 a.testBit],X⟩,by omega,Le.of VA VF V2 V2 V0,i+1,by omega,rfl,next (by unfold badI;rw [cL h1,cL h2,Bool.or_false,Bool.and_false]),rfl⟩
 ·have e:i=32:=by omega
  subst e
  rw [show isB a=true by
   unfold isB
   rw [List.all_eq_true]
   intro j hj
   rw [hpre j (List.mem_range.1 hj)]
   rfl]
  (refine U4 ?_;refine klt rfl rfl (r:=false) rfl ?_;refine U8 ?_)
  exact V6
theorem rIds_spec (a:Nat) (ha:a<4294967296):MSpec Tryz.prog X 25 [Ln .u32 (a:Nat)] [] (.sv (.one (.slc 1000001 0 (idsL a).length))) [nuB 1000001 (idsL a)]:=by
 have hB:=rBits_spec X a ha
 refine cE Tryz.func25 rfl V5 rfl rfl V4 rfl rfl ?_
 intro C
 have hrl:∀ l:List Int,((nuV l).map CV.val).length=l.length*1:=fun l=>by unfold nuV;rw [cU,cU,Nat.mul_one]
 refine LWP.ends ?_
 (refine U13 ?_;refine aZ (zs:=[]) (sz:=1) (e:=3) V5 O O O O O O dO ?_;refine U8 ?_)
 refine cH (fun m σ=>∃ (i:Nat) (r:Bool),i≤24∧m=24-i∧σ=⟨[(3,Lp 3),(4,.sv (.one (.slc 500 0 (idsTo a i).length))),(5,Ln .i64 ((i+1:Nat):Int))],[blB 3 a.testBit,nuB' 500 (idsTo a i) r],X⟩) 24
  ⟨⟨[(3,Lp 3),(4,.sv (.one (.slc 500 0 (idsTo a 0).length))),(5,Ln .i64 ((0+1:Nat):Int))],[blB 3 a.testBit,nuB' 500 (idsTo a 0) false],X⟩,Le.ofR [(500,8)] V9 V1 V2 V2 V0 V2 V2,0,false,by omega,rfl,rfl⟩ ?_
 rintro m σ ⟨i,r,hi,rfl,rfl⟩
 have hlen:=idsTo_len a i
 by_cases hlt:i<24
 ·have hi0:0+Int.toNat (((i+1:Nat):Int))*1=i+1:=by simp
  have hat:=bl_at (f:=a.testBit) (i:=i+1) V3
  have hsn:=idsTo_succ a i
  have hle:((i+1:Nat):Int)≤24:=by omega
  have hin:0≤((i+1:Nat):Int)∧((i+1:Nat):Int)<(32:Nat):=by omega
  cases hb:a.testBit (i+1) with
  | false =>
   rw [hb] at hat
   rw [hb,if_neg (by decide),dG] at hsn
   (refine U4 ?_;refine K.leq O O (cM hle) dO ?_;refine U8 ?_;refine K.indexArr O O hin hi0 dO ?_;refine U9 ?_)
   exact ⟨_,⟨[(3,Lp 3),(4,.sv (.one (.slc 500 0 (idsTo a i).length))),(5,Ln .i64 ((i+1+1:Nat):Int))],[blB 3 a.testBit,nuB' 500 (idsTo a i) r],X⟩,by omega,Le.of V9 VA V2 V2 V0,i+1,r,by omega,rfl,by rw [hsn]⟩
  | true =>
   rw [hb] at hat
   rw [hb,if_pos rfl] at hsn
   generalize idsTo a i=l at *
   have hnc:(nuV l).map CV.val++[.val (.int .i64 ((i+1:Nat):Int))]=(nuV (l++[((i+1:Nat):Int)])).map CV.val:=by unfold nuV;rw [dE,dE];rfl
   have hnl:l.length+1=(l++[((i+1:Nat):Int)]).length:=by rw [cT];rfl
   (refine U4 ?_;refine K.leq O O (cM hle) dO ?_;refine U8 ?_;refine K.indexArr O O hin hi0 dO ?_;refine U6 ?_;refine aZ (zs:=[.int .i64 0]) (sz:=1) (e:=3) (cs':=[.val (.int .i64 ((i+1:Nat):Int))]) V5 O O O O O O dO<|bP (by_:=8) (e2:=3) (l2:=[.val (.int .i64 ((i+1:Nat):Int))]) (nl:=(l++[((i+1:Nat):Int)]).length) (nc:=(nuV (l++[((i+1:Nat):Int)])).map .val) O O (hrl l) O O (dK _) O O V5 V5 V3 V3 O hnl hnc dO ?_;refine U7 ?_)
   exact ⟨_,⟨[(3,Lp 3),(4,.sv (.one (.slc 500 0 (l++[((i+1:Nat):Int)]).length))),(5,Ln .i64 ((i+1+1:Nat):Int))],[blB 3 a.testBit,nuB' 500 (l++[((i+1:Nat):Int)]) true],X⟩,by omega,Le.ofR [(500,19)] V9 V1 V2 V2 V0 V2 V2,i+1,true,by omega,rfl,by rw [hsn]⟩
 ·have e:i=24:=by omega
  subst e
  rw [show idsTo a 24=idsL a from rfl]
  (refine U4 ?_;refine K.leq O O (r:=false) O dO ?_;refine U9 ?_)
  refine cC (σ':=⟨[(2,.sv (.one (.slc 500 0 (idsL a).length)))],[(500,some ⟨3,(nuV (idsL a)).map .val,r⟩)],X⟩) (Le.ofR [(500,500)] VF V1 V2 V2 V0 V2 V2) ?_
  refine cC Le.loose (cA ?_)
  exact ⟨[(1000001,500)],⟨[_],⟨O,trivial⟩,O⟩,V1,O,O⟩
end Go.Proofs.YtbpdbclndfmcgaaGreatDoor
end
section
set_option maxHeartbeats 12800000
set_option maxRecDepth 100000
namespace Go.Proofs.YtbpdbclndfmcgaaGreatDoor
open Go Go.Lg Go.Lg.Fld Go.Lg.Sg
set_option maxRecDepth 100000
structure Rw where
 e:Nat
 p:List Pt
structure Tb where
 sc:Sc
 set:Nat
 most:Nat
 kept:Nat
 l:List Rw
def hasC (cs:List Cp) (id:Int):Bool:=cs.any fun c=>c.id==id
def goodT (s:Sc) (set:Nat) (most:Int):Bool:=decide (chkE s=0)&&isB set&&decide (1≤most)&&decide (most≤256)&&(idsL set).all (hasC s.cs)
def roomT (t:Tb):Nat:=t.most-t.l.length-t.kept
def hitsP (l:List Pt) (id:Int):List Pt:=l.filter fun p=>p.comp==id
def justP (ids:List Int) (l:List Pt):Bool:=decide (l.length=ids.length)&&ids.all fun id=>decide ((hitsP l id).length=1)
def sortP (ids:List Int) (l:List Pt):List Pt:=(ids.map (hitsP l)).flatten
def addE (t:Tb) (e:Nat) (l:List Pt):Int:=
 if e=0 then 1 else if justP (idsL t.set) l=true then (if partsE t.sc.cs l=0 then (if roomT t=0 then 5 else 0) else partsE t.sc.cs l) else 4
def addT (t:Tb) (e:Nat) (l:List Pt):Tb:={ t with l:=t.l++[⟨e,sortP (idsL t.set) l⟩] }
def rowB (t:Tb) (row:Int):Bool:=decide (0≤row)&&decide (row<t.l.length)
def dropL {α:Type} (l:List α) (i:Nat):List α:=match l[l.length-1]? with|some x=>(l.set i x).take (l.length-1)|none=>l
def dropT (t:Tb) (i:Nat):Tb:={ t with l:=dropL t.l i }
def entT (t:Tb) (i:Nat):Nat:=match t.l[i]? with|some r=>r.e|none=>0
def movedT (t:Tb) (i:Nat):Nat:=if i=t.l.length-1 then 0 else entT t (t.l.length-1)
def placeT (set:Nat) (comp:Int):Option Nat:=(idsL set).findIdx? fun x=>x==comp
def tgetE (t:Tb) (row comp:Int):Int:=if rowB t row=true then (if (placeT t.set comp).isSome=true then 0 else 6) else 3
def valT (t:Tb) (i k:Nat):List (Bool×Int):=match t.l[i]? with|some r=>(match r.p[k]? with|some p=>p.val|none=>[])|none=>[]
def getV (t:Tb) (row comp:Int):List (Bool×Int):=match placeT t.set comp with|some k=>valT t row.toNat k|none=>[]
def tsetE (t:Tb) (row:Int) (p:Pt):Int:=if tgetE t row p.comp=0 then fitErr (fsAt t.sc.cs p.comp) p.val else tgetE t row p.comp
def setR (r:Rw) (k:Nat) (p:Pt):Rw:={ r with p:=r.p.set k p }
def setT (t:Tb) (i k:Nat) (p:Pt):Tb:=match t.l[i]? with|some r=>{ t with l:=t.l.set i (setR r k p) }|none=>t
def bytesT (t:Tb) (row comp:Int):List UInt8:=packB (fsAt t.sc.cs comp) (getV t row comp)
structure RwOk (cs:List Cp) (set:Nat) (r:Rw):Prop where
 e:1≤r.e∧r.e<18446744073709551616
 ids:r.p.map Pt.comp=idsL set
 fit:∀ p∈r.p,fitErr (fsAt cs p.comp) p.val=0
structure TbOk (t:Tb):Prop where
 sc:chkE t.sc=0
 set:t.set<4294967296∧isB t.set=true
 has:∀ id∈idsL t.set,hasC t.sc.cs id=true
 most:1≤t.most∧t.most≤256
 room:t.l.length+t.kept≤t.most
 rows:∀ r∈t.l,RwOk t.sc.cs t.set r
end Go.Proofs.YtbpdbclndfmcgaaGreatDoor
end
section
set_option maxHeartbeats 12800000
set_option maxRecDepth 100000
namespace Go.Proofs.YtbpdbclndfmcgaaGreatDoor
open Go Go.Lg Go.Lg.Fld Go.Lg.Sg
set_option maxRecDepth 100000
theorem hits_one {l:List Pt} {id:Int} (h:(hitsP l id).length=1):∃ p,hitsP l id=[p]∧p∈l∧p.comp=id:=by
 obtain ⟨p,hp⟩:=List.length_eq_one_iff.1 h
 have hm:p∈hitsP l id:=by rw [hp];exact List.mem_singleton.2 rfl
 unfold hitsP at hm
 rw [List.mem_filter,beq_iff_eq] at hm
 exact ⟨p,hp,hm.1,hm.2⟩
theorem sort_comps {l:List Pt}:∀ {ids:List Int},(∀ id∈ids,(hitsP l id).length=1)→(sortP ids l).map Pt.comp=ids
 | [],_=>rfl
 | id::ids,h=>by
  obtain ⟨p,hp,_,hc⟩:=hits_one (h id (List.mem_cons_self ..))
  have ih:=sort_comps (l:=l) (ids:=ids) fun x hx=>h x (List.mem_cons_of_mem _ hx)
  unfold sortP at ih ⊢
  rw [List.map_cons,List.flatten_cons,dE,ih,hp,List.map_cons,hc];rfl
theorem sort_mem {ids:List Int} {l:List Pt} {p:Pt} (h:p∈sortP ids l):p∈l:=by
 unfold sortP at h
 obtain ⟨x,hx,hp⟩:=List.mem_flatten.1 h
 obtain ⟨id,_,rfl⟩:=List.mem_map.1 hx
 exact (List.mem_filter.1 hp).1
theorem just_iff {ids:List Int} {l:List Pt}:justP ids l=true↔l.length=ids.length∧∀ id∈ids,(hitsP l id).length=1:=by
 unfold justP
 rw [Bool.and_eq_true,decide_eq_true_iff,List.all_eq_true]
 exact and_congr_right fun _=>forall_congr' fun x=>by rw [decide_eq_true_iff]
theorem sort_len {ids:List Int} {l:List Pt} (h:justP ids l=true):(sortP ids l).length=ids.length:=by
 rw [← cU (f:=Pt.comp),sort_comps (just_iff.1 h).2]
theorem parts_zero {cs:List Cp} {ps:List Pt} (h:partsE cs ps=0):∀ p∈ps,partE cs p=0:=fun p hp=>by
 obtain ⟨i,hi,rfl⟩:=List.getElem_of_mem hp
 have h1:=firstE_zero h i (Nat.zero_le _) V3
 rw [ptE_at (cV hi)] at h1
 by_cases c:(ps.take i).any (fun g=>g.comp==ps[i].comp)=true
 ·rw [if_pos c] at h1;cases h1
 ·rw [if_neg c] at h1;exact h1
theorem part_fits {cs:List Cp} {p:Pt} (h:partE cs p=0):fitErr (fsAt cs p.comp) p.val=0:=by
 obtain ⟨c,hc,hf⟩:=partE_find h
 unfold fsAt;rw [hc];exact hf
theorem ids_le (a:Nat):(idsL a).length≤24:=idsTo_len a 24
theorem TbOk.add {t:Tb} (h:TbOk t) {e:Nat} {l:List Pt} (he:e<18446744073709551616) (ha:addE t e l=0):TbOk (addT t e l)∧justP (idsL t.set) l=true∧partsE t.sc.cs l=0∧e≠0∧roomT t≠0:=by
 unfold addE at ha
 by_cases c1:e=0
 ·rw [if_pos c1] at ha;cases ha
 rw [if_neg c1] at ha
 by_cases c2:justP (idsL t.set) l=true
 case neg=>rw [if_neg c2] at ha;cases ha
 rw [if_pos c2] at ha
 by_cases c3:partsE t.sc.cs l=0
 case neg=>rw [if_neg c3] at ha;exact absurd ha c3
 rw [if_pos c3] at ha
 by_cases c4:roomT t=0
 ·rw [if_pos c4] at ha;cases ha
 refine ⟨⟨h.sc,h.set,h.has,h.most,?_,fun r hr => ?_⟩,c2,c3,c1,c4⟩
 ·have:=h.room
  unfold roomT at c4
  show (t.l++[_]).length+t.kept≤t.most
  rw [cT,cW];omega
 ·rcases List.mem_append.1 hr with hr|hr
  ·exact h.rows r hr
  ·rw [List.mem_singleton.1 hr]
   exact ⟨⟨by show 1≤e;omega,he⟩,sort_comps (just_iff.1 c2).2,fun p hp=>part_fits (parts_zero c3 p (sort_mem hp))⟩
theorem dropL_len {α:Type} {l:List α} {i:Nat} (hi:i<l.length):(dropL l i).length=l.length-1:=by
 unfold dropL
 rw [cV (show l.length-1<l.length by omega)]
 simp only [cX,List.length_set];omega
theorem dropL_mem {α:Type} {l:List α} {i:Nat} {x:α} (h:x∈dropL l i):x∈l:=by
 unfold dropL at h
 cases hl:l[l.length-1]? with
 | none=>rw [hl] at h;exact h
 | some y =>
  rw [hl] at h
  rcases List.mem_or_eq_of_mem_set (List.mem_of_mem_take h) with h|h
  ·exact h
  ·rw [h];exact dA hl
theorem dropL_at {α:Type} {l:List α} {i k:Nat} (hi:i<l.length) (hk:k<l.length-1):(dropL l i)[k]? = if k=i then l[l.length-1]? else l[k]? := by
 unfold dropL
 rw [cV (show l.length-1<l.length by omega)]
 show ((l.set i _).take (l.length-1))[k]? = _
 rw [List.getElem?_take,if_pos hk,List.getElem?_set]
 by_cases c:k=i
 ·rw [if_pos c.symm,if_pos hi,if_pos c]
 ·rw [if_neg (Ne.symm c),if_neg c]
theorem TbOk.drop {t:Tb} (h:TbOk t) {i:Nat} (hi:i<t.l.length):TbOk (dropT t i):=
 ⟨h.sc,h.set,h.has,h.most,by have:=h.room;show (dropL t.l i).length+t.kept≤t.most;rw [dropL_len hi];omega,fun r hr=>h.rows r (dropL_mem hr)⟩
theorem place_at {set:Nat} {comp:Int} {k:Nat} (h:placeT set comp=some k):(idsL set)[k]? = some comp:=by
 unfold placeT at h
 rw [List.findIdx?_eq_some_iff_getElem] at h
 obtain ⟨hk,h1,_⟩:=h
 rw [cV hk,beq_iff_eq.1 h1]
theorem RwOk.at {cs:List Cp} {set:Nat} {r:Rw} (h:RwOk cs set r) {k:Nat} {id:Int} (hk:(idsL set)[k]? = some id):∃ p,r.p[k]? = some p∧p.comp=id:=by
 rw [← h.ids,dI] at hk
 obtain ⟨p,hp,hc⟩:=Option.map_eq_some_iff.1 hk
 exact ⟨p,hp,hc⟩
theorem RwOk.len {cs:List Cp} {set:Nat} {r:Rw} (h:RwOk cs set r):r.p.length=(idsL set).length:=by rw [← h.ids,cU]
theorem RwOk.setP {cs:List Cp} {set:Nat} {r:Rw} (h:RwOk cs set r) {k:Nat} {p:Pt} (hk:(idsL set)[k]? = some p.comp) (hf:fitErr (fsAt cs p.comp) p.val=0):RwOk cs set (setR r k p):=
 ⟨h.e,by
  show (r.p.set k p).map Pt.comp=_
  rw [List.map_set,h.ids]
  refine List.ext_getElem? fun j => ?_
  rw [List.getElem?_set]
  by_cases c:k=j
  ·subst c
   rw [if_pos rfl,hk,if_pos ((wl hk))]
  ·rw [if_neg c],fun q hq=>by
  rcases List.mem_or_eq_of_mem_set hq with hq|hq
  ·exact h.fit q hq
  ·rw [hq];exact hf⟩
theorem TbOk.setV {t:Tb} (h:TbOk t) {i k:Nat} {p:Pt} (hk:placeT t.set p.comp=some k) (hf:fitErr (fsAt t.sc.cs p.comp) p.val=0):TbOk (setT t i k p):=by
 unfold setT
 cases hr:t.l[i]? with
 | none=>exact h
 | some r =>
  refine ⟨h.sc,h.set,h.has,h.most,by have:=h.room;show (t.l.set i _).length+t.kept≤t.most;rw [List.length_set];exact this,fun x hx => ?_⟩
  rcases List.mem_or_eq_of_mem_set hx with hx|hx
  ·exact h.rows x hx
  ·rw [hx];exact (h.rows r (dA hr)).setP (place_at hk) hf
theorem TbOk.kept {t:Tb} (h:TbOk t) (hr:roomT t≠0):TbOk { t with kept:=t.kept+1 }:=
 ⟨h.sc,h.set,h.has,h.most,by have:=h.room;unfold roomT at hr;show t.l.length+(t.kept+1)≤t.most;omega,h.rows⟩
theorem TbOk.yield {t:Tb} (h:TbOk t):TbOk { t with kept:=t.kept-1 }:=
 ⟨h.sc,h.set,h.has,h.most,by have:=h.room;show t.l.length+(t.kept-1)≤t.most;omega,h.rows⟩
theorem TbOk.new {s:Sc} {set most:Nat} (hs:set<4294967296) (h:goodT s set most=true):TbOk ⟨s,set,most,0,[]⟩:=by
 unfold goodT at h
 simp only [Bool.and_eq_true,decide_eq_true_eq,List.all_eq_true] at h
 obtain ⟨⟨⟨⟨h1,h2⟩,h3⟩,h4⟩,h5⟩:=h
 exact ⟨h1,⟨hs,h2⟩,h5,⟨by show 1≤most;omega,by show most≤256;omega⟩,Nat.zero_le _,fun r hr=>absurd hr V24⟩
end Go.Proofs.YtbpdbclndfmcgaaGreatDoor
end
section
set_option maxHeartbeats 12800000
set_option maxRecDepth 100000
namespace Go.Proofs.YtbpdbclndfmcgaaGreatDoor
open Go Go.Lg Go.Lg.Fld Go.Lg.Sg
set_option maxRecDepth 100000
def tbV (r:Rw) (w:Value):List Value:=[.int .u64 (r.e:Nat),w]
def tbZ (rs:List Rw) (ws:List Value):List Value:=(List.zipWith tbV rs ws).flatten
theorem zip_len {α β γ:Type} {f:α→β→γ} {l:List α} {m:List β} (h:m.length=l.length):(List.zipWith f l m).length=l.length:=by rw [List.length_zipWith,h,Nat.min_self]
theorem flat_lenN {α:Type} {n:Nat}:∀ {l:List (List α)},(∀ x∈l,x.length=n)→l.flatten.length=l.length*n
 | [],_=>by simp
 | x::l,h=>by
  rw [List.flatten_cons,cT,h x (List.mem_cons_self ..),flat_lenN fun y hy=>h y (List.mem_cons_of_mem _ hy),dF,Nat.succ_mul,Nat.add_comm]
theorem zip_twoV {α:Type} {f:α→Value→List Value} (hf:∀ a w,(f a w).length=2) {l:List α} {ws:List Value}:∀ r∈List.zipWith f l ws,r.length=2:=fun r hr=>by
 obtain ⟨i,hi,rfl⟩:=List.getElem_of_mem hr
 rw [List.getElem_zipWith];exact hf _ _
theorem tbZ_len {rs:List Rw} {ws:List Value} (h:ws.length=rs.length):(tbZ rs ws).length=rs.length*2:=by
 unfold tbZ
 rw [flat_lenN (zip_twoV fun _ _=>rfl),zip_len h]
theorem tbZ_add {rs:List Rw} {ws:List Value} {r:Rw} {w:Value} (h:ws.length=rs.length):tbZ (rs++[r]) (ws++[w])=tbZ rs ws++[.int .u64 (r.e:Nat),w]:=by
 unfold tbZ
 rw [List.zipWith_append h.symm,List.flatten_append];rfl
structure TbsH (H:Nat→Option Obj) (ws:List Value) (rs:List Rw):Prop where
 len:ws.length=rs.length
 at_:∀ (i:Nat) (w:Value) (r:Rw),ws[i]? = some w→rs[i]? = some r→∃ (pad:Option Addr) (pcap:Nat),w = .slice pad r.p.length pcap∧PartsIn H pad r.p
theorem parts_mono {X Y:Nat→Option Obj} (hXY:∀ b o,X b=some o→Y b=some o) {ad:Option Addr} {ps:List Pt} (h:PartsIn X ad ps):PartsIn Y ad ps:=⟨fun i p hp=>by
 obtain ⟨blk,off,arr,el,fr,vad,vcap,h1,h2,h3,h4,h5⟩:=h.at_ i p hp
 exact ⟨blk,off,arr,el,fr,vad,vcap,h1,hXY _ _ h2,h3,h4,⟨h5.rows.mono hXY,h5.in2⟩⟩,h.small⟩
theorem TbsH.nil {H:Nat→Option Obj}:TbsH H [] []:=⟨rfl,fun i v c h=>by simp at h⟩
theorem TbsH.mono {H H':Nat→Option Obj} (hH:∀ b o,H b=some o→H' b=some o) {ws:List Value} {rs:List Rw} (G:TbsH H ws rs):TbsH H' ws rs:=⟨G.len,fun i v c hv hc=>by
 obtain ⟨pad,pcap,h1,h2⟩:=G.at_ i v c hv hc
 exact ⟨pad,pcap,h1,parts_mono hH h2⟩⟩
theorem TbsH.push {H:Nat→Option Obj} {ws:List Value} {rs:List Rw} (G:TbsH H ws rs) {w:Value} {r:Rw} (hv:∃ (pad:Option Addr) (pcap:Nat),w = .slice pad r.p.length pcap∧PartsIn H pad r.p):TbsH H (ws++[w]) (rs++[r]):=⟨by rw [cT,cT,G.len];rfl,fun i x d hw hd=>by
 have hl:=G.len
 rcases snoc_get hw with ⟨h1,h2⟩|⟨h1,rfl⟩
 ·rcases snoc_get hd with ⟨h3,h4⟩|⟨h3,_⟩
  ·exact G.at_ i x d h2 h4
  ·omega
 ·rcases snoc_get hd with ⟨h3,_⟩|⟨_,rfl⟩
  ·omega
  ·exact hv⟩
theorem TbsH.set {H:Nat→Option Obj} {ws:List Value} {rs:List Rw} (G:TbsH H ws rs) {i:Nat} {w:Value} {r:Rw} (hv:∃ (pad:Option Addr) (pcap:Nat),w = .slice pad r.p.length pcap∧PartsIn H pad r.p):TbsH H (ws.set i w) (rs.set i r):=⟨by rw [List.length_set,List.length_set,G.len],fun j x d hw hd=>by
 rw [List.getElem?_set] at hw hd
 by_cases c:i=j
 ·rw [if_pos c] at hw hd
  by_cases c2:j<ws.length
  ·have c3:j<rs.length:=by rw [← G.len];exact c2
   rw [if_pos (by omega)] at hw hd
   cases hw;cases hd
   exact hv
  ·rw [if_neg V3] at hw;cases hw
 ·rw [if_neg c] at hw hd
  exact G.at_ j x d hw hd⟩
theorem TbsH.take {H:Nat→Option Obj} {ws:List Value} {rs:List Rw} (G:TbsH H ws rs) (n:Nat):TbsH H (ws.take n) (rs.take n):=⟨by rw [cX,cX,G.len],fun j x d hw hd=>by
 rw [List.getElem?_take] at hw hd
 split at hw
 ·rename_i c
  rw [if_pos c] at hd
  exact G.at_ j x d hw hd
 ·cases hw⟩
structure TbsIn (X:Nat→Option Obj) (ad:Option Addr) (rs:List Rw):Prop where
 ex:∃ ws,TbsH X ws rs∧Go.Lg.RowsIn X ad 2 (List.zipWith tbV rs ws)
theorem TbsIn.mono {X Y:Nat→Option Obj} (hXY:∀ b o,X b=some o→Y b=some o) {ad:Option Addr} {rs:List Rw} (h:TbsIn X ad rs):TbsIn Y ad rs:=by
 obtain ⟨ws,h1,h2⟩:=h.ex
 exact ⟨ws,h1.mono hXY,h2.mono hXY⟩
theorem rowsIn_none {X:Nat→Option Obj} {sz:Nat} {rows:List (List Value)} (h:Go.Lg.RowsIn X none sz rows):rows=[]:=by
 cases rows with
 | nil=>rfl
 | cons r l =>
  obtain ⟨_,_,_,_,_,h1,_⟩:=h 0 r rfl
  cases h1
theorem TbsIn.none_ {X:Nat→Option Obj} {rs:List Rw} (h:TbsIn X none rs):rs=[]:=by
 obtain ⟨ws,h1,h2⟩:=h.ex
 have:=congrArg List.length (rowsIn_none h2)
 rw [zip_len h1.len] at this
 exact List.eq_nil_of_length_eq_zero this
theorem TbsIn.get {X:Nat→Option Obj} {ad:Option Addr} {rs:List Rw} (h:TbsIn X ad rs) {i:Nat} {r:Rw} (hr:rs[i]? = some r):∃ (blk off:Nat) (arr:Array Value) (el:TypeId) (fr:Nat×Nat) (pad:Option Addr) (pcap:Nat),ad=some ⟨blk,off,none⟩∧X blk=some (.cells arr el fr)∧off+i*2+2≤arr.size ∧
  ((arr.toList.drop (off+i*2)).take 2).map CV.val=[.val (.int .u64 (r.e:Nat)),.val (.slice pad r.p.length pcap)]∧arr[off+i*2]? = some (.int .u64 (r.e:Nat))∧arr[off+i*2+1]? = some (.slice pad r.p.length pcap)∧PartsIn X pad r.p:=by
 obtain ⟨ws,h1,h2⟩:=h.ex
 have hi:=(wl hr)
 obtain ⟨w,hw⟩:∃ w,ws[i]? = some w:=⟨_,cV (by rw [h1.len];exact hi)⟩
 obtain ⟨pad,pcap,rfl,hP⟩:=h1.at_ i w r hw hr
 obtain ⟨blk,off,arr,el,fr,g1,g2,g3,g4⟩:=h2 i (tbV r (.slice pad r.p.length pcap)) (by rw [List.getElem?_zipWith,hr,hw])
 obtain ⟨g5,g6⟩:=two_at g4
 exact ⟨blk,off,arr,el,fr,pad,pcap,g1,g2,g3,by rw [g4];rfl,g5,g6,hP⟩
theorem TbsIn.reads {X:Nat→Option Obj} {ad:Option Addr} {rs:List Rw} (h:TbsIn X ad rs):∃ ws,TbsH X ws rs∧ReadsX X ad (tbZ rs ws):=by
 obtain ⟨ws,h1,h2⟩:=h.ex
 exact ⟨ws,h1,reads_rows V11 (zip_twoV fun _ _=>O) h2⟩
theorem flat_at {α:Type} {n:Nat}:∀ {l:List (List α)} {sp:List α} {i:Nat} {x:List α},(∀ y∈l,y.length=n)→l[i]? = some x→((l.flatten++sp).drop (i*n)).take n=x∧i*n+n≤l.flatten.length
 | [],_,_,_,_,h=>by simp at h
 | y::l,sp,0,x,hl,h=>by
  simp only [List.getElem?_cons_zero,Option.some.injEq] at h
  subst h
  have hy:=hl y (List.mem_cons_self ..)
  exact ⟨by rw [List.flatten_cons,dJ,Nat.zero_mul,List.drop_zero,List.take_left' hy],by rw [List.flatten_cons,cT,hy];omega⟩
 | y::l,sp,i+1,x,hl,h=>by
  have hy:=hl y (List.mem_cons_self ..)
  simp only [List.getElem?_cons_succ] at h
  obtain ⟨h1,h2⟩:=flat_at (sp:=sp) (fun z hz=>hl z (List.mem_cons_of_mem _ hz)) h
  refine ⟨?_,?_⟩
  ·rw [List.flatten_cons,dJ,show (i+1)*n=y.length+i*n by rw [hy,Nat.succ_mul];omega,← List.drop_drop,List.drop_left,h1]
  ·rw [List.flatten_cons,cT,hy,Nat.succ_mul];omega
theorem tbZ_at {rs:List Rw} {ws sp:List Value} {i:Nat} {x:List Value} (hx:(List.zipWith tbV rs ws)[i]? = some x):((tbZ rs ws++sp).drop (i*2)).take 2=x∧i*2+2≤(tbZ rs ws).length:=
 flat_at (zip_twoV fun _ _=>rfl) hx
theorem tbs_block {Y:Nat→Option Obj} {blk:Nat} {arr:Array Value} {el:TypeId} {fr:Nat×Nat} {ws sp:List Value} {rs:List Rw} (hY:Y blk=some (.cells arr el fr)) (h:arr.toList=tbZ rs ws++sp) (G:TbsH Y ws rs):TbsIn Y (some ⟨blk,0,none⟩) rs:=⟨ws,G,fun i x hx=>by
 obtain ⟨h1,h2⟩:=tbZ_at (sp:=sp) hx
 refine ⟨blk,0,arr,el,fr,O,hY,?_,?_⟩
 ·rw [← Array.length_toList,h,cT];omega
 ·rw [h,Nat.zero_add];exact h1⟩
def tbsR (X:Nat→Option Obj) (rs:List Rw):Rsc:=⟨fun ρ H=>(∃ (arr:Array Value) (fr:Nat×Nat),H ρ.1=some (.cells arr 120 fr)∧arr.size=ρ.2)∧TbsIn (joinM X H) (some ⟨ρ.1,0,none⟩) rs⟩
abbrev tbsB (X:Nat→Option Obj) (k:Nat) (rs:List Rw):Nat×Option Box:=(k,some ⟨0,[],.res (tbsR X rs)⟩)
section
variable {n:Nat} {C:Ctx} {X:Nat→Option Obj} {s:List (Nat×LV)} {bx:List (Nat×Option Box)} {k:Nat}
theorem tbs_shut {Mid:St→Prop} {rs:List Rw} {H:Nat→Option Obj} {ws sp:List Value} (hO:OwnedM C X H) (G:TbsH (joinM X H) ws rs)
  (h:Leads n C Mid ⟨s,(k,some ⟨0,[],.res (tbsR X rs)⟩)::bx,X⟩):Leads n C Mid ⟨s,(k,some ⟨120,(tbZ rs ws++sp).map .val,false⟩)::bx,joinM X H⟩:=by
 refine Leads.closeRes (vals:=tbZ rs ws++sp) hO (fun ρ fr h1 h2 h3 => ?_) h
 refine ⟨⟨_,fr,cK _ _ _,by rw [h3];simp⟩,?_⟩
 rw [← joinM_with]
 exact tbs_block (cK _ _ _) (by simp;rfl) (G.mono (cG (by rw [joinM_out h1];exact h2)))
end
theorem ptZ_zip:∀ {ps:List Pt} {ws:List Value},ptZ ps ws=(List.zipWith (fun (p:Pt) w=>[Value.int .i64 p.comp,w]) ps ws).flatten
 | [],_=>by simp [ptZ]
 | _::_,[]=>by simp [ptZ]
 | p::ps,w::ws=>by
  rw [List.zipWith_cons_cons,List.flatten_cons,← ptZ_zip];rfl
theorem parts_reads {X:Nat→Option Obj} {ad:Option Addr} {ps:List Pt} (h:PartsIn X ad ps):∃ ws,PartsH X ws ps∧ReadsX X ad (ptZ ps ws)∧(ad=none→ps=[]):=by
 have hx:∀ i:Nat,∃ w:Value,∀ p,ps[i]? = some p→∃ (blk off:Nat) (arr:Array Value) (el:TypeId) (fr:Nat×Nat) (vad:Option Addr) (vcap:Nat),ad=some ⟨blk,off,none⟩∧X blk=some (.cells arr el fr)∧off+i*2+2≤arr.size∧(arr.toList.drop (off+i*2)).take 2=[.int .i64 p.comp,w]∧w = .slice vad p.val.length vcap∧NumsIn X vad p.val:=fun i=>by
  cases hp:ps[i]? with
  | none=>exact ⟨.bool false,fun p h=>by cases h⟩
  | some p =>
   obtain ⟨blk,off,arr,el,fr,vad,vcap,h1,h2,h3,h4,h5⟩:=h.at_ i p hp
   exact ⟨_,fun q hq=>by cases hq;exact ⟨blk,off,arr,el,fr,vad,vcap,h1,h2,h3,h4,rfl,h5⟩⟩
 let f:=fun i=>Classical.choose (hx i)
 have hf:=fun i=>Classical.choose_spec (hx i)
 have hat:∀ {i:Nat} {w:Value},((List.range ps.length).map f)[i]? = some w→f i=w:=fun {i w} hw=>by
  rw [dI] at hw
  obtain ⟨j,hj,rfl⟩:=Option.map_eq_some_iff.1 hw
  obtain ⟨_,rfl⟩:=List.getElem?_eq_some_iff.1 hj
  rw [List.getElem_range]
 refine ⟨(List.range ps.length).map f,⟨by simp,fun i w p hw hp => ?_⟩,?_,fun e => ?_⟩
 ·obtain ⟨blk,off,arr,el,fr,vad,vcap,_,_,_,_,h5,h6⟩:=hf i p hp
  exact ⟨vad,vcap,(hat hw).symm.trans h5,h6⟩
 ·rw [ptZ_zip]
  refine reads_rows (sz:=2) V11 (zip_twoV fun _ _=>O) fun i x hx => ?_
  rw [List.getElem?_zipWith] at hx
  cases hp:ps[i]? with
  | none=>rw [hp] at hx;cases hx
  | some p =>
   cases hw:((List.range ps.length).map f)[i]? with
   | none=>rw [hp,hw] at hx;cases hx
   | some w =>
    rw [hp,hw] at hx
    cases hx
    obtain ⟨blk,off,arr,el,fr,vad,vcap,h1,h2,h3,h4,_,_⟩:=hf i p hp
    exact ⟨blk,off,arr,el,fr,h1,h2,h3,by rw [h4,← hat hw]⟩
 ·cases ps with
  | nil=>rfl
  | cons p l =>
   obtain ⟨_,_,_,_,_,_,_,h1,_⟩:=h.at_ 0 p rfl
   rw [e] at h1;cases h1
end Go.Proofs.YtbpdbclndfmcgaaGreatDoor
end
section
set_option maxHeartbeats 12800000
set_option maxRecDepth 100000
namespace Go.Proofs.YtbpdbclndfmcgaaGreatDoor
open Go Go.Lg Go.Lg.Fld Go.Lg.Sg
set_option maxRecDepth 100000
variable (X:Nat→Option Obj)
abbrev Vn (ad:Option Addr) (n cap:Nat):LV:=.sv (.one (.val (.slice ad n cap)))
end Go.Proofs.YtbpdbclndfmcgaaGreatDoor
end
