/- A piece of a proof over this program: contracts of its functions, and a logic to prove them by. -/
import Derived.Test.YtbpdbclndfmcgaaGreatDoorS3
import Derived.Test.YtbpdbclndfmcgaaGreatDoorS4
import Derived.Test.YtbpdbclndfmcgaaGreatDoorS5
import Derived.Test.YtbpdbclndfmcgaaGreatDoorS6
import Derived.Lib.ItoaLen
import Derived.Lib.SmallJoins
section
set_option maxHeartbeats 12800000
set_option maxRecDepth 100000
namespace Go.Proofs.YtbpdbclndfmcgaaGreatDoor
open Go Go.Lg Go.Lg.Fld Go.Lg.Sg Go.Lg.Col
set_option maxRecDepth 100000
variable (X:Nat→Option Obj)
theorem tSet_nil (row:Int) (p:Pt) (vad:Option Addr) (vcap:Nat):PSpec Tryz.prog X 15 [LnilT,Ln .i64 row,Px p vad vcap] (Ln .i64 2):=by
 refine cD Tryz.func15 rfl V5 rfl rfl ?_
 intro C
 have hs:=find0_nil X row p.comp
 refine U31 ?_
 exact V6
theorem tSet_no (t:Tb) (hk:TbOk t) (row:Int) (p:Pt) (vad:Option Addr) (vcap:Nat) (hN:NumsIn X vad p.val) (hn:p.val.length<4611686018427387904) (hc:p.val.length≤vcap) (h:tsetE t row p≠0):MSpec Tryz.prog X 15 [Lp 1000000,Ln .i64 row,Px p vad vcap] [tB 1000000 t] (Ln .i64 (tsetE t row p)) [tB 1000000 t]:=by
 have _:=hc
 have h24:=t_len24 hk
 refine cE Tryz.func15 rfl V5 rfl rfl V4 rfl rfl ?_
 intro C
 refine LWP.ends (tab_open fun Hs He Hr vE vC vP ps h1 h2 h3 hI => ?_)
 obtain ⟨ad,cap,rfl⟩:=hI.ents.slice
 obtain ⟨cb,cc,rfl,hin⟩:=hI.sc
 rw [cU] at hI ⊢
 unfold tsetE at h ⊢
 by_cases hg:tgetE t row p.comp=0
 case neg =>
  rw [if_neg hg]
  have hs:=find0_no (tH X Hs He Hr) t hk ad cap vP row p.comp (.slice (some ⟨cb,0,none⟩) (onlyC t.sc.cs t.set).length cc) hg
  have hsm:=tget_small t row p.comp
  generalize tgetE t row p.comp=e at *
  (refine U11 ?_;refine K.callR [(1000000,1000000)] (hs) O O V7 V8 O O O O dO ?_;refine U10 ?_;refine kne O O (r:=true) (cR hg) ?_;refine U8 ?_)
  refine cC (σ':=⟨[(6,Ln .i64 e)],[tS 1000000 t (vS ad t.l.length cap) (.slice (some ⟨cb,0,none⟩) (onlyC t.sc.cs t.set).length cc) vP],tH X Hs He Hr⟩) (Le.of VF VF V2 V2 V0) ?_
  refine tab_shut h1 h2 h3 hI (cA ?_)
  exact ⟨[],⟨[_],⟨O,trivial⟩,O⟩,V1,O,O⟩
 rw [if_pos hg] at h ⊢
 obtain ⟨i,k,c,r,q,rfl,hi,hp,hcc,hid,hr,hp1,hf,hL,_,_⟩:=tget_ok hk hg
 have hfs:fsAt t.sc.cs p.comp=c.fs:=by
  obtain ⟨d,hd,_,h5,_⟩:=t_at hk hp
  rw [hcc] at hd;cases hd
  exact h5
 rw [hfs] at h ⊢
 have hs:=find0 (tH X Hs He Hr) t hk ad cap vP p.comp i k (some ⟨cb,0,none⟩) cc (hin.mono (tH_s h2 h3)) hi hp
 obtain ⟨blk,off,arr,el,fr,fad,fcap,hq,hX,hsz,hcs,_,_,g3,hF⟩:=(hin.mono (tH_s (X:=X) h2 h3)).get hcc
 simp only [Option.some.injEq,Addr.mk.injEq] at hq
 obtain ⟨rfl,rfl,_⟩:=hq
 have hfit:=fitErr_small c.fs p.val
 have hP:=lPack_spec (tH X Hs He Hr) fad vad fcap vcap c.fs p.val hF (by have:=(t_size hk hcc).1;omega) ⟨hN.rows.mono (tH_x h1 h2 h3),hN.in2⟩ hn
 have hkc:=(wl hcc)
 have hio2:=wo 0 k 3
 generalize packR c.fs p.val=B at *
 generalize fitErr c.fs p.val=e at *
 (refine U11 ?_;refine K.callR [(1000000,1000000)] (hs) O O V7 V8 O O O O dO ?_;refine U15 ?_;refine rgD mixed ?_;refine U23 ?_;refine kne O O (r:=true) (cR h) ?_;refine U8 ?_)
 refine cC (σ':=⟨[(6,Ln .i64 e)],[tS 1000000 t (vS ad t.l.length cap) (.slice (some ⟨cb,0,none⟩) (onlyC t.sc.cs t.set).length cc) vP],tH X Hs He Hr⟩) (Le.of VF VF V2 V2 V0) ?_
 refine tab_shut h1 h2 h3 hI (cA ?_)
 exact ⟨[],⟨[_],⟨O,trivial⟩,O⟩,V1,O,O⟩
theorem colL_set {l:List Rw} {i k:Nat} {r:Rw} {c:Cp} {p q:Pt} (hr:l[i]? = some r) (hq:r.p[k]? = some q):colL (l.set i (setR r k p)) k c=(colL l k c).set i (packB c.fs p.val):=by
 unfold colL
 rw [List.map_set]
 congr 2
 unfold valR setR
 simp only
 rw [List.getElem?_set_self (wl hq)]
theorem colL_other {l:List Rw} {i k j:Nat} {r:Rw} {c:Cp} {p:Pt} (hr:l[i]? = some r) (hj:j≠k):colL (l.set i (setR r k p)) j c=colL l j c:=by
 unfold colL
 rw [List.map_set]
 have h1:valR (setR r k p) j=valR r j:=by
  unfold valR setR
  simp only
  rw [List.getElem?_set_ne (fun e=>hj e.symm)]
 rw [h1]
 refine List.ext_getElem? fun x => ?_
 by_cases e:x=i
 ·subst e
  rw [List.getElem?_set_self (by rw [cU];exact (wl hr)),dI,hr];rfl
 ·rw [List.getElem?_set_ne (fun e'=>e e'.symm)]
set_option maxHeartbeats 3200000 in
theorem tSet (t:Tb) (hk:TbOk t) (i k:Nat) (p:Pt) (vad:Option Addr) (vcap:Nat) (hN:NumsIn X vad p.val) (hn:p.val.length<4611686018427387904) (hc:p.val.length≤vcap) (hi:i<t.l.length) (hpl:placeT t.set p.comp=some k) (h:fitErr (fsAt t.sc.cs p.comp) p.val=0):MSpec Tryz.prog X 15 [Lp 1000000,Ln .i64 (i:Nat),Px p vad vcap] [tB 1000000 t] (Ln .i64 0) [tB 1000000 (setT t i k p)]:=by
 have _:=hc
 have h24:=t_len24 hk
 obtain ⟨c,hcc,hid,hfs,_⟩:=t_at hk hpl
 rw [hfs] at h
 obtain ⟨r,hr⟩:=wg hi
 obtain ⟨q,hq1,_,_,_⟩:=t_row hk hcc hr
 have hset:setT t i k p={ t with l:=t.l.set i (setR r k p) }:=by unfold setT;rw [hr]
 rw [hset]
 have hsz:=t_size hk hcc
 refine cE Tryz.func15 rfl V5 rfl rfl V4 rfl rfl ?_
 intro C
 refine LWP.ends (tab_open fun Hs He Hr vE vC vP ps h1 h2 h3 hI => ?_)
 obtain ⟨ad,cap,rfl⟩:=hI.ents.slice
 obtain ⟨cb,cc,rfl,hin⟩:=hI.sc
 rw [cU] at hI ⊢
 have hs:=find0 (tH X Hs He Hr) t hk ad cap vP p.comp i k (some ⟨cb,0,none⟩) cc (hin.mono (tH_s h2 h3)) hi hpl
 obtain ⟨blk,off,arr,el,fr,fad,fcap,hq,hX,hsz2,hcs,_,_,g3,hF⟩:=(hin.mono (tH_s (X:=X) h2 h3)).get hcc
 simp only [Option.some.injEq,Addr.mk.injEq] at hq
 obtain ⟨rfl,rfl,_⟩:=hq
 have hP:=lPack_spec (tH X Hs He Hr) fad vad fcap vcap c.fs p.val hF V3 ⟨hN.rows.mono (tH_x h1 h2 h3),hN.in2⟩ hn
 rw [h,show packR c.fs p.val=packB c.fs p.val from if_pos h] at hP
 have hkc:=(wl hcc)
 have hio2:=wo 0 k 3
 have hBl:=hsz.2.2 p.val
 have hcol:=colL_set (c:=c) (p:=p) hr hq1
 have hcl:(colL t.l k c).length=t.l.length:=cU _
 generalize packB c.fs p.val=B at *
 (refine U11 ?_;refine K.callR [(1000000,1000000)] (hs) O O V7 V8 O O O O dO ?_;refine U15 ?_;refine rgD mixed ?_;refine U28 ?_)
 refine LWP.le (σ':=⟨[(0,Lp 1000000),(1,Ln .i64 (i:Nat)),(7,Ln .i64 (k:Nat)),(9,Ls B)],[tS 1000000 t (vS ad t.l.length cap) (.slice (some ⟨cb,0,none⟩) (onlyC t.sc.cs t.set).length cc) vP],tH X Hs He Hr⟩) (Le.of VD VF V2 V2 V0) ?_
 refine tcol_open (kk:=501) h3 hI.refs (colsG_at hcc) O O O V3 fun b H0 hb hO0 hback => ?_
 have hg:=(cSet_ok (joinM (joinM (joinM X Hs) He) H0) (rowSize c.fs) t.most (colL t.l k c) i B V3 hBl).at (b:=b)
 have hroot:=colR_root (rowSize c.fs) t.most ((colL t.l k c).set i B)
 obtain ⟨pad,pcap,rfl,hPt⟩:=hI.ptrs.mono (tH_s h2 hO0)
 have hkl:=(wl hb)
 obtain ⟨pblk,parr,pel,pfr,rfl,hPX,hPa⟩:=hPt k b hb
 have hio:0+Int.toNat (k:Int)*1=k:=by simp
 (refine U10 ?_;refine aU [(1000000,501)] [atB 501 b (rowSize c.fs) t.most ((colL t.l k c).set i B)] (hg) O O V7 VE O O O O VB dO ?_;refine U3 ?_)
 refine cC (σ':=⟨[(6,Ln .i64 0)],[atB 501 b (rowSize c.fs) t.most ((colL t.l k c).set i B),tS 1000000 t (vS ad t.l.length cap) (.slice (some ⟨cb,0,none⟩) (onlyC t.sc.cs t.set).length cc) (.slice (some ⟨pblk,0,none⟩) ps.length pcap)],joinM (joinM (joinM X Hs) He) H0⟩) (Le.of VF VA V2 V2 V0) ?_
 refine tcol_shut hO0 hroot O O O fun m' Hc' g1 g2 g3 g4 => ?_
 have hB:=hback _ m' Hc' g1 g2 g3
 rw [← hcol,show (colsT t).set k (colR (rowSize c.fs) t.most (colL (t.l.set i (setR r k p)) k c))=colsT { t with l:=t.l.set i (setR r k p) } from colsG_set hcc fun j d hj _=>colL_other hr hj] at hB
 have hents:(t.l.set i (setR r k p)).map Rw.e=t.l.map Rw.e:=by
  rw [List.map_set]
  refine List.ext_getElem? fun x => ?_
  by_cases e:x=i
  ·subst e
   rw [List.getElem?_set_self (by rw [cU];exact hi),dI,hr];rfl
  ·rw [List.getElem?_set_ne (fun e'=>e e'.symm)]
 refine tab_shut (t:={ t with l:=t.l.set i (setR r k p) }) h1 h2 g4 ⟨⟨cb,cc,rfl,hin⟩,hI.ptrs,hB,by rw [hents];exact hI.ents,fun r' hr' p' hp' => ?_⟩ (cA ?_)
 ·rcases List.mem_or_eq_of_mem_set hr' with hr'|rfl
  ·exact hI.two r' hr' p' hp'
  ·rcases List.mem_or_eq_of_mem_set hp' with hp'|rfl
   ·exact hI.two r (dA hr) p' hp'
   ·exact hN.in2
 exact ⟨[],⟨[_],⟨O,trivial⟩,O⟩,V1,O,O⟩
end Go.Proofs.YtbpdbclndfmcgaaGreatDoor
end
section
set_option maxHeartbeats 12800000
set_option maxRecDepth 100000
namespace Go.Proofs.YtbpdbclndfmcgaaGreatDoor
open Go Go.Lg Go.Lg.Fld Go.Lg.Sg Go.Lg.Col
set_option maxRecDepth 100000
theorem dropL_map {α β:Type} (f:α→β) (l:List α) (i:Nat):(dropL l i).map f=dropL (l.map f) i:=by
 unfold dropL
 rw [cU,dI]
 cases l[l.length-1]? with
 | none=>rfl
 | some x=>simp only [Option.map_some,List.map_take,List.map_set]
theorem swapL_drop (L:List (List UInt8)) (i:Nat):swapL L i=dropL L i:=by
 unfold swapL dropL
 cases L[L.length-1]? <;> rfl
def dropF (l:List Rw) (row i:Nat) (k:Nat) (c:Cp):List (List UInt8):=if k<i then swapL (colL l k c) row else colL l k c
theorem entV_set {l:List Nat} {i x:Nat}:(entV l).set i (.int .u64 (x:Nat))=entV (l.set i x):=by unfold entV;rw [List.map_set]
theorem entV_cut {l:List Nat} {i x:Nat} (hi:i<l.length) (hx:l[l.length-1]? = some x):entV (l.set i x)=entV (dropL l i)++[.int .u64 (x:Nat)]:=by
 unfold dropL
 rw [hx]
 unfold entV
 have h1:(l.set i x)[l.length-1]? = some x:=by
  by_cases e:i=l.length-1
  ·rw [← e,List.getElem?_set_self hi]
  ·rw [List.getElem?_set_ne e];exact hx
 have h2:l.set i x=(l.set i x).take (l.length-1)++[x]:=by
  have hl:(l.set i x).length=l.length:=List.length_set ..
  conv=>lhs;rw [← List.take_append_drop (l.length-1) (l.set i x)]
  congr 1
  rw [List.drop_eq_getElem_cons (by omega)]
  have:(l.set i x)[l.length-1]=x:=by
   have:=cV (l:=l.set i x) (i:=l.length-1) V3
   rw [h1] at this;exact (Option.some.inj this).symm
  rw [this,List.drop_eq_nil_of_le (by omega)]
 conv=>lhs;rw [h2]
 rw [dE];rfl
variable (X:Nat→Option Obj)
theorem tDrop_nil (row:Int):PSpec Tryz.prog X 11 [LnilT,Ln .i64 row] (.tup [Sn .u64 0,Sn .i64 2]):=by
 refine cD Tryz.func11 rfl V5 rfl rfl ?_
 intro C
 have hs:=seek0_nil X row
 refine U26 ?_
 exact V1A
theorem tDrop_no (t:Tb) (hk:TbOk t) (row:Int) (h:rowB t row=false):MSpec Tryz.prog X 11 [Lp 1000000,Ln .i64 row] [tB 1000000 t] (.tup [Sn .u64 0,Sn .i64 3]) [tB 1000000 t]:=by
 have _:=hk
 refine cE Tryz.func11 rfl V5 rfl rfl V4 rfl rfl ?_
 intro C
 refine LWP.ends (tab_open fun Hs He Hr vE vC vP ps h1 h2 h3 hI => ?_)
 obtain ⟨ad,cap,rfl⟩:=hI.ents.slice
 rw [cU] at hI ⊢
 have hs:=seek0_no (tH X Hs He Hr) t ad t.l.length cap vC vP row (by unfold rowB at h;rw [Bool.and_eq_false_iff,decide_eq_false_iff_not,decide_eq_false_iff_not] at h;omega)
 (refine U10 ?_;refine K.callR [(1000000,1000000)] (hs) O O V7 V8 O O O O dO ?_;refine U15 ?_)
 refine tab_shut h1 h2 h3 hI (cA ?_)
 exact ⟨[],⟨[_,_],⟨O,O,trivial⟩,O⟩,V1,O,O⟩
theorem moved_eq (t:Tb) {i:Nat} (hi:i<t.l.length):(if 0≤((i:Nat):Int)∧((i:Nat):Int)<(dropL (t.l.map Rw.e) i).length then (dropL (t.l.map Rw.e) i).getD (((i:Nat):Int)).toNat 0 else 0)=movedT t i:=by
 have hl:(t.l.map Rw.e).length=t.l.length:=cU _
 rw [dropL_len (by omega),hl,dD]
 unfold movedT
 by_cases e:i=t.l.length-1
 ·rw [if_pos e,if_neg V3]
 ·rw [if_neg e,if_pos V3,List.getD_eq_getElem?_getD,dropL_at V3 V3,if_pos rfl,hl,dI]
  unfold entT
  cases t.l[t.l.length-1]? <;> rfl
set_option maxHeartbeats 6400000 in
theorem tDrop (t:Tb) (hk:TbOk t) (i:Nat) (h:i<t.l.length):MSpec Tryz.prog X 11 [Lp 1000000,Ln .i64 (i:Nat)] [tB 1000000 t] (.tup [Sn .u64 (movedT t i:Nat),Sn .i64 0]) [tB 1000000 (dropT t i)]:=by
 have h24:=t_len24 hk
 have hroom:=hk.room
 have hmost:=hk.most
 refine cE Tryz.func11 rfl V5 rfl rfl V4 rfl rfl ?_
 intro C
 refine LWP.ends (tab_open fun Hs He Hr vE vC vP ps h1 h2 h3 hI => ?_)
 obtain ⟨ad,cap,rfl⟩:=hI.ents.slice
 have hll:(t.l.map Rw.e).length=t.l.length:=cU _
 obtain ⟨pad,pcap,rfl,hPt⟩:=hI.ptrs
 have hps:ps.length=(onlyC t.sc.cs t.set).length:=by rw [hI.refs.len];exact colsG_len _ _ _
 have hs:=seek0 (tH X Hs He Hr) t ad (t.l.map Rw.e).length cap vC (.slice pad ps.length pcap) i V3
 (refine U10 ?_;refine K.callR [(1000000,1000000)] (hs) O O V7 V8 O O O O dO ?_;refine U20 ?_)
 refine cJ (fun m σ=>∃ (j:Nat) (H:Nat→Option Obj),j≤ps.length∧m=ps.length-j∧OwnedM C (joinM (joinM X Hs) He) H∧Refs H ps (colsG (dropF t.l i j) t.most (onlyC t.sc.cs t.set))∧σ=⟨[(0,Lp 1000000),(1,Ln .i64 (i:Nat)),(19,.sv (.one (vS pad ps.length pcap))),(20,Ln .i64 (ps.length:Nat)),(21,Ln .i64 (j:Nat))],[tS 1000000 t (vS ad (t.l.map Rw.e).length cap) vC (.slice pad ps.length pcap)],joinM (joinM (joinM X Hs) He) H⟩) ps.length
  (cC (σ':=⟨[(0,Lp 1000000),(1,Ln .i64 (i:Nat)),(19,.sv (.one (vS pad ps.length pcap))),(20,Ln .i64 (ps.length:Nat)),(21,Ln .i64 (0:Nat))],[tS 1000000 t (vS ad (t.l.map Rw.e).length cap) vC (.slice pad ps.length pcap)],tH X Hs He Hr⟩) (Le.of V12 VF V2 V2 V0) (cA ⟨0,Hr,by omega,by omega,h3,by
   rw [show colsG (dropF t.l i 0) t.most (onlyC t.sc.cs t.set)=colsT t from colsG_congr fun k d _=>by unfold dropF;rw [if_neg (by omega)]]
   exact hI.refs,O⟩)) ?_
 rintro m σ ⟨j,H,hj,rfl,hO,hR,rfl⟩
 by_cases hlt:j<ps.length
 ·obtain ⟨c,hc⟩:∃ c,(onlyC t.sc.cs t.set)[j]? = some c:=wg V3
  obtain ⟨b,hb⟩:=wg hlt
  obtain ⟨pblk,parr,pel,pfr,rfl,hPX,hPa⟩:=hPt j b hb
  have hPX2:joinM (joinM (joinM X Hs) He) H pblk=some (.cells parr pel pfr):=tH_s h2 hO _ _ hPX
  have hio:0+Int.toNat (j:Int)*1=j:=by simp
  have hadd:=wi j V3
  refine U15 ?_
  refine LWP.le (σ':=⟨[(8,Vp b),(0,Lp 1000000),(1,Ln .i64 (i:Nat)),(19,.sv (.one (vS (some ⟨pblk,0,none⟩) ps.length pcap))),(20,Ln .i64 (ps.length:Nat)),(21,Ln .i64 (j:Nat))],[tS 1000000 t (vS ad (t.l.map Rw.e).length cap) vC (.slice (some ⟨pblk,0,none⟩) ps.length pcap)],joinM (joinM (joinM X Hs) He) H⟩) (Le.of VC VF V2 V2 V0) ?_
  refine tcol_open (kk:=501) hO hR (colsG_at hc) O O O V3 fun b' H0 hb' hO0 hback => ?_
  rw [hb] at hb'
  cases hb'
  have hf:dropF t.l i j j c=colL t.l j c:=if_neg V3
  have hcl:(colL t.l j c).length=t.l.length:=cU _
  have hnew:dropF t.l i (j+1) j c=swapL (colL t.l j c) i:=if_pos V3
  have hg:=(cSwap_ok (joinM (joinM (joinM X Hs) He) H0) (rowSize c.fs) t.most (colL t.l j c) i V3 rfl).at (b:=b)
  have hroot:=colR_root (rowSize c.fs) t.most (swapL (colL t.l j c) i)
  rw [hf]
  (refine U3 ?_;refine aU [(1000000,501)] [atB 501 b (rowSize c.fs) t.most (swapL (colL t.l j c) i)] (hg) O O V7 VE O O O O VB dO ?_;refine U5 ?_)
  refine cC (σ':=⟨[(0,Lp 1000000),(1,Ln .i64 (i:Nat)),(19,.sv (.one (vS (some ⟨pblk,0,none⟩) ps.length pcap))),(20,Ln .i64 (ps.length:Nat)),(21,Ln .i64 (j+1:Nat))],[atB 501 b (rowSize c.fs) t.most (swapL (colL t.l j c) i),tS 1000000 t (vS ad (t.l.map Rw.e).length cap) vC (.slice (some ⟨pblk,0,none⟩) ps.length pcap)],joinM (joinM (joinM X Hs) He) H0⟩) (Le.of V12 VA V2 V2 V0) ?_
  refine tcol_shut hO0 hroot O O O fun m' Hc' g1 g2 g3 g4 => ?_
  have hB:=hback _ m' Hc' g1 g2 g3
  rw [← hnew,colsG_set hc (g:=dropF t.l i (j+1)) fun k d hk' _=>by
   unfold dropF
   by_cases e:k<j
   ·rw [if_pos e,if_pos V3]
   ·rw [if_neg e,if_neg V3]] at hB
  exact cA ⟨ps.length-(j+1),by omega,j+1,_,by omega,O,g4,hB,O⟩
 ·have e:j=ps.length:=by omega
  subst e
  have hRn:Refs H ps (colsT (dropT t i)):=by
   have:colsT (dropT t i)=colsG (dropF t.l i ps.length) t.most (onlyC t.sc.cs t.set):=by
    show colsG (colL (dropL t.l i)) t.most (onlyC t.sc.cs t.set)=_
    refine colsG_congr fun k d hd => ?_
    have:=(wl hd)
    unfold dropF colL
    rw [if_pos (by omega),swapL_drop,dropL_map]
   rw [this];exact hR
  obtain ⟨x,hx⟩:∃ x,(t.l.map Rw.e)[(t.l.map Rw.e).length-1]? = some x:=wg V3
  have hid:i<(t.l.map Rw.e).length:=by omega
  have hmv:=moved_eq t h
  have hents:(dropT t i).l.map Rw.e=dropL (t.l.map Rw.e) i:=dropL_map Rw.e t.l i
  have hdl:(dropL (t.l.map Rw.e) i).length=(t.l.map Rw.e).length-1:=dropL_len hid
  have hb256:(t.l.map Rw.e).length≤256:=by omega
  obtain ⟨hsw1,hsw2,hsw3⟩:=OwnedM.swap h2 hO
  have hE:=hI.ents
  rw [hsw3]
  generalize t.l.map Rw.e=L at *
  have hsub:IntKind.i64.wrap (((L.length:Nat):Int)-1)=((L.length-1:Nat):Int):=by rw [cF V3];omega
  refine U18 ?_
  refine LWP.le (σ':=⟨[(0,Lp 1000000),(1,Ln .i64 (i:Nat)),(9,Ln .i64 (L.length-1:Nat))],[tS 1000000 t (vS ad L.length cap) vC (.slice pad ps.length pcap)],joinM (joinM (joinM X Hs) H) He⟩) (Le.of V9 VF V2 V2 V0) ?_
  obtain ⟨db,hd⟩:∃ db,LeadsTo He db (.slice ad L.length cap) 37 1 (entV L):=by
   rcases hE with ⟨_,e⟩|hd
   ·rw [e] at hid;cases hid
   ·exact hd
  have hel:(entV L).length=L.length*1:=by unfold entV;rw [cU];omega
  refine LWP.openCell (A:=[.val (.int .u32 (t.set:Nat)),.val (.int .i64 (t.most:Nat)),.val (.int .i64 (t.kept:Nat))]) (B:=[.val (.int .i64 t.sc.ver),.val vC,.val (.slice pad ps.length pcap)]) (k:=501) (sz:=1) (len:=L.length) hsw2 hd hel V3 O O O O O ?_
  have hix1:0+Int.toNat ((L.length-1:Nat):Int)*1=L.length-1:=by rw [dD];omega
  have hix2:0+Int.toNat ((i:Nat):Int)*1=i:=by rw [dD];omega
  have hcell:((entV L).map CV.val)[L.length-1]? = some (.val (.int .u64 (x:Nat))):=by unfold entV;rw [dI,dI,hx];rfl
  have hblt:Nat.blt i ((entV L).map CV.val).length=true:=by rw [Nat.blt_eq,cU];omega
  have hput:((entV L).map CV.val).set i (.val (.int .u64 (x:Nat)))=(entV (dropL L i)).map CV.val ++ .val (.int .u64 (x:Nat))::([]:List Value).map CV.val:=by rw [← List.map_set,entV_set,entV_cut hid hx,dE];rfl
  (refine rgD mixed ?_;refine U13 ?_;refine bG O O O O hblt hput dO ?_;refine U10 ?_;refine K.cutSlc O O bZ V3 dO ?_;refine U2 ?_;refine bG O O O O O (nl7 O O O O O O O O) dO ?_;refine U2 ?_)
  refine LWP.le (σ':=⟨[(0,Lp 1000000),(1,Ln .i64 (i:Nat))],[(501,some ⟨37,(entV (dropL L i)).map CV.val ++ .val (.int .u64 (x:Nat))::([]:List Value).map CV.val,true⟩),tS 1000000 t (.slc 501 0 (L.length-1) 1) vC (.slice pad ps.length pcap)],joinM (joinM (joinM X Hs) H) (cutM He db)⟩) (Le.of VA VA V2 V2 V0) ?_
  refine LWP.le Le.trim ?_
  refine LWP.le (σ':=⟨[(0,Lp 1000000),(1,Ln .i64 (i:Nat))],[(1000000,some ⟨92,[.val (.int .u32 (t.set:Nat)),.val (.int .i64 (t.most:Nat)),.val (.int .i64 (t.kept:Nat))] ++ .slc 501 0 (L.length-1) 1::[.val (.int .i64 t.sc.ver),.val vC,.val (.slice pad ps.length pcap)],false⟩),(501,some ⟨37,(entV (dropL L i)).map CV.val,true⟩)],joinM (joinM (joinM X Hs) H) (cutM He db)⟩) (Le.of VA VA V2 V2 V0) ?_
  have hdl2:(entV (dropL L i)).length=(L.length-1)*1:=by unfold entV;rw [cU,hdl];omega
  refine LWP.closeCell (hsw2.cut db) hdl2 O O O O O O fun b o v g1 g2 g3 g4 => ?_
  have hE2:EntsAt (withBlock (cutM He db) b o) v (dropL L i):=.inr ⟨b,g4⟩
  have hent:=ent0 (joinM (joinM (joinM X Hs) H) (withBlock (cutM He db) b o)) t v vC (.slice pad ps.length pcap) (dropL L i) (i:Nat) (hE2.mono fun x o hx=>joinM_in hx) V3
  rw [hmv] at hent
  generalize movedT t i=mv at *
  (refine U3 ?_;refine K.callR [(1000000,1000000)] (hent) O O V7 V8 O O O O dO ?_;refine U4 ?_)
  obtain ⟨k1,k2,k3⟩:=OwnedM.swap hsw1 g3
  refine cC (σ':=⟨[(4,Ln .u64 (mv:Nat)),(5,Ln .i64 0)],[tS 1000000 (dropT t i) (.val v) vC (.slice pad ps.length pcap)],tH X Hs (withBlock (cutM He db) b o) H⟩) (by unfold tH;rw [← k3];exact Le.of VA VF V2 V2 V0) ?_
  refine tab_shut h1 k1 k2 ⟨hI.sc,⟨pad,pcap,rfl,hPt⟩,hRn,by rw [hents];exact hE2,fun r hr=>hI.two r (dropL_mem hr)⟩ (cA ?_)
  exact ⟨[],⟨[_,_],⟨O,O,trivial⟩,O⟩,V1,O,O⟩
end Go.Proofs.YtbpdbclndfmcgaaGreatDoor
end
section
set_option maxHeartbeats 12800000
set_option maxRecDepth 100000
namespace Go.Proofs.YtbpdbclndfmcgaaGreatDoor
open Go Go.Lg Go.Lg.Fld Go.Lg.Sg Go.Lg.Col
set_option maxRecDepth 100000
theorem filter_or {α:Type} {a b:α→Bool} (h:∀ x,a x=true→b x=true→False):∀ l:List α,(l.filter fun x=>a x||b x).length=(l.filter a).length+(l.filter b).length
 | []=>rfl
 | x::t=>by
  have ih:=filter_or h t
  rw [List.filter_cons,List.filter_cons,List.filter_cons]
  cases ha:a x<;>cases hb:b x
  ·simpa using ih
  ·simp only [Bool.false_or,if_true,dF];simp only [Bool.false_eq_true,if_false];omega
  ·simp only [Bool.true_or,if_true,dF];simp only [Bool.false_eq_true,if_false];omega
  ·exact (h x ha hb).elim
theorem hits_sum (l:List Pt):∀ {ids:List Int},ids.Pairwise (· < ·)→(sortP ids l).length=(l.filter fun p=>ids.any fun x=>x==p.comp).length
 | [],_=>by
  show 0=_
  rw [show (l.filter fun p=>([]:List Int).any fun x=>x==p.comp)=[] from List.filter_eq_nil_iff.2 fun x _=>by simp];rfl
 | id::ids,h=>by
  obtain ⟨h1,h2⟩:=List.pairwise_cons.1 h
  have ih:=hits_sum l h2
  have:=filter_or (a:=fun p:Pt=>id==p.comp) (b:=fun p=>ids.any fun x=>x==p.comp) (fun p ha hb=>by
   rw [beq_iff_eq] at ha
   obtain ⟨y,hy,e⟩:=List.any_eq_true.1 hb
   rw [beq_iff_eq] at e
   have:=h1 y hy
   omega) l
  simp only [List.any_cons]
  rw [this,← ih]
  unfold sortP
  rw [List.map_cons,List.flatten_cons,cT]
  congr 2
  unfold hitsP
  exact List.filter_congr fun p _=>by rw [Bool.eq_iff_iff,beq_iff_eq,beq_iff_eq];exact eq_comm
theorem hits_more (l:List Pt):∀ {ids:List Int},(∀ id∈ids,1≤(hitsP l id).length)→ids.length≤(sortP ids l).length
 | [],_=>Nat.zero_le _
 | id::ids,h=>by
  have h1:=h id (List.mem_cons_self ..)
  have ih:=hits_more l (ids:=ids) fun x hx=>h x (List.mem_cons_of_mem _ hx)
  unfold sortP at ih ⊢
  rw [List.map_cons,List.flatten_cons,cT,dF];omega
theorem hits_ones (l:List Pt):∀ {ids:List Int},(∀ id∈ids,1≤(hitsP l id).length)→(sortP ids l).length≤ids.length→∀ id∈ids,(hitsP l id).length=1
 | [],_,_=>fun _ h=>by cases h
 | id::ids,h,hs=>by
  have h1:=h id (List.mem_cons_self ..)
  have hr:∀ x∈ids,1≤(hitsP l x).length:=fun x hx=>h x (List.mem_cons_of_mem _ hx)
  have h2:=hits_more l hr
  unfold sortP at hs h2
  rw [List.map_cons,List.flatten_cons,cT,dF] at hs
  intro x hx
  rcases List.mem_cons.1 hx with rfl|hx
  ·omega
  ·exact hits_ones l hr (by unfold sortP;omega) x hx
theorem just_sig {set:Nat} (hs:set<4294967296) (hb:isB set=true) (l:List Pt):(prE (l.map fun p=>p.comp)=0∧prN (l.map fun p=>p.comp)=set)↔justP (idsL set) l=true:=by
 have hll:(l.map fun p=>p.comp).length=l.length:=cU _
 rw [just_iff]
 constructor
 ·rintro ⟨h1,h2⟩
  unfold prN at h2
  rw [if_pos h1] at h2
  unfold prE at h1
  by_cases ho:okIds (l.map fun p=>p.comp)=true
  case neg=>rw [if_neg ho] at h1;cases h1
  rw [if_pos ho] at h1
  have ht:twiceTo (l.map fun p=>p.comp) (l.map fun p=>p.comp).length=false:=by
   cases hc:twiceTo (l.map fun p=>p.comp) (l.map fun p=>p.comp).length with
   | false=>rfl
   | true=>rw [hc] at h1;cases h1
  have htw:=twice_len ho
  rw [ht,h2,bne_eq_false_iff_eq,hll] at htw
  have hlen:l.length=(idsL set).length:=by omega
  refine ⟨hlen,hits_ones l (fun id hid => ?_) ?_⟩
  ·rw [← h2] at hid
   obtain ⟨p,hp,he⟩:=List.mem_map.1 ((mem_ofN ho id).1 hid)
   exact List.length_pos_of_mem (List.mem_filter.2 ⟨hp,by rw [beq_iff_eq];exact he⟩)
  ·rw [hits_sum l (idsL_sorted set),← hlen]
   exact List.length_filter_le _ _
 ·rintro ⟨h1,h2⟩
  have hsum:=sort_len (ids:=idsL set) (l:=l) (just_iff.2 ⟨h1,h2⟩)
  rw [hits_sum l (idsL_sorted set)] at hsum
  have hall:∀ p∈l,p.comp∈idsL set:=fun p hp=>by
   have:=List.filter_eq_self.1 (List.filter_sublist.eq_of_length (by rw [hsum,h1]:(l.filter fun p=>(idsL set).any fun x=>x==p.comp).length=l.length)) p hp
   obtain ⟨y,hy,e⟩:=List.any_eq_true.1 this
   rw [← beq_iff_eq.1 e];exact hy
  have ho:okIds (l.map fun p=>p.comp)=true:=List.all_eq_true.2 fun x hx=>by
   obtain ⟨p,hp,rfl⟩:=List.mem_map.1 hx
   obtain ⟨g1,g2,_⟩:=mem_ids.1 (hall p hp)
   exact okI_iff.2 ⟨g1,by omega⟩
  have hids:idsL (ofN (l.map fun p=>p.comp))=idsL set:=sorted_ext (idsL_sorted _) (idsL_sorted _) fun x=>by
   rw [mem_ofN ho]
   constructor
   ·intro hx
    obtain ⟨p,hp,rfl⟩:=List.mem_map.1 hx
    exact hall p hp
   ·intro hx
    obtain ⟨p,_,hp,he⟩:=hits_one (h2 x hx)
    exact List.mem_map.2 ⟨p,hp,he⟩
  have hof:ofN (l.map fun p=>p.comp)=set:=by
   have hok:∀ id∈(l.map fun p=>p.comp),okJ id=true:=List.all_eq_true.1 ho
   rw [← ofN_ids (ofN_isB hok) (by have:=ofN_lt hok;omega),hids,ofN_ids hb hs]
  have htw:=twice_len ho
  rw [hids,hll,cP (by omega)] at htw
  have hE:prE (l.map fun p=>p.comp)=0:=by unfold prE;rw [if_pos ho,hll,← htw];rfl
  exact ⟨hE,by unfold prN;rw [if_pos hE];exact hof⟩
theorem just_in {set:Nat} {l:List Pt} (h:justP (idsL set) l=true):∀ p∈l,p.comp∈idsL set:=fun p hp=>by
 obtain ⟨h1,h2⟩:=just_iff.1 h
 have hsum:=sort_len h
 rw [hits_sum l (idsL_sorted set)] at hsum
 have:=List.filter_eq_self.1 (List.filter_sublist.eq_of_length (by rw [hsum,h1]:(l.filter fun p=>(idsL set).any fun x=>x==p.comp).length=l.length)) p hp
 obtain ⟨y,hy,e⟩:=List.any_eq_true.1 this
 rw [← beq_iff_eq.1 e];exact hy
theorem find_only {cs:List Cp} {set:Nat} {x:Int} (h:hasB set x=true):(onlyC cs set).find? (fun c=>c.id==x)=cs.find? (fun c=>c.id==x):=by
 unfold onlyC
 rw [List.find?_filter]
 congr 1
 funext c
 by_cases e:c.id=x
 ·rw [e,h];simp
 ·rw [cO e];simp
theorem parts_only {cs:List Cp} {set:Nat} {l:List Pt} (h:justP (idsL set) l=true):partsE (onlyC cs set) l=partsE cs l:=by
 unfold partsE
 congr 1
 funext i
 unfold ptE
 cases hp:l[i]? with
 | none=>rfl
 | some p =>
  have hm:=just_in h p (dA hp)
  have hb:hasB set p.comp=true:=by rw [← any_ids,List.any_eq_true];exact ⟨_,hm,cS rfl⟩
  simp only
  have:partE (onlyC cs set) p=partE cs p:=by unfold partE;rw [find_only hb]
  rw [this]
theorem just_one {set:Nat} {l:List Pt} (h:justP (idsL set) l=true) {j:Nat} {p:Pt} (hj:l[j]? = some p):(l.take j).find? (fun q=>q.comp==p.comp)=none:=by
 have h1:=(just_iff.1 h).2 _ (just_in h p (dA hj))
 rw [List.find?_eq_none]
 intro q hq he
 have hsp:l=l.take j++p::l.drop (j+1):=mid_of hj
 unfold hitsP at h1
 rw [hsp,List.filter_append,List.filter_cons,if_pos (by simp),cT,dF] at h1
 have:0<((l.take j).filter fun x=>x.comp==p.comp).length:=List.length_pos_of_mem (List.mem_filter.2 ⟨hq,he⟩)
 omega
theorem sort_at {l:List Pt}:∀ {ids:List Int} {k:Nat} {id:Int},(∀ x∈ids,(hitsP l x).length=1)→ids[k]? = some id→∃ p,(sortP ids l)[k]? = some p∧hitsP l id=[p]
 | x::ids,0,id,h,hk=>by
  simp only [List.getElem?_cons_zero,Option.some.injEq] at hk
  subst hk
  obtain ⟨p,hp,_,_⟩:=hits_one (h x (List.mem_cons_self ..))
  refine ⟨p,?_,hp⟩
  unfold sortP
  rw [List.map_cons,List.flatten_cons,hp];rfl
 | x::ids,k+1,id,h,hk=>by
  simp only [List.getElem?_cons_succ] at hk
  obtain ⟨p,hp,h2⟩:=sort_at (l:=l) (fun y hy=>h y (List.mem_cons_of_mem _ hy)) hk
  obtain ⟨q,hq,_,_⟩:=hits_one (h x (List.mem_cons_self ..))
  refine ⟨p,?_,h2⟩
  unfold sortP at hp ⊢
  rw [List.map_cons,List.flatten_cons,hq]
  exact hp
 | [],_,_,_,hk=>by simp at hk
def addF (l:List Rw) (ps:List Pt) (j:Nat) (k:Nat) (c:Cp):List (List UInt8):=colL l k c++match (ps.take j).find? (fun p=>p.comp==c.id) with|some p=>[packB c.fs p.val]|none=>[]
theorem addF_zero (l:List Rw) (ps:List Pt) (k:Nat) (c:Cp):addF l ps 0 k c=colL l k c:=by unfold addF;simp
theorem addF_here {set:Nat} {l:List Rw} {ps:List Pt} (h:justP (idsL set) ps=true) {j k:Nat} {p:Pt} {c:Cp} (hj:ps[j]? = some p) (hc:c.id=p.comp):addF l ps j k c=colL l k c∧addF l ps (j+1) k c=colL l k c++[packB c.fs p.val]:=by
 have h1:=just_one h hj
 unfold addF
 rw [hc,h1]
 refine ⟨dG _,?_⟩
 rw [take_snoc hj,List.find?_append,h1]
 simp
theorem addF_there {l:List Rw} {ps:List Pt} {j k:Nat} {p:Pt} {c:Cp} (hj:ps[j]? = some p) (hc:c.id≠p.comp):addF l ps (j+1) k c=addF l ps j k c:=by
 unfold addF
 rw [take_snoc hj,List.find?_append,show ([p].find? fun q=>q.comp==c.id)=none by simp [cO (Ne.symm hc)]]
 simp
theorem addF_all {t:Tb} (hk:TbOk t) {ps:List Pt} (h:justP (idsL t.set) ps=true) (e:Nat) {k:Nat} {c:Cp} (hc:(onlyC t.sc.cs t.set)[k]? = some c):addF t.l ps ps.length k c=colL (t.l++[⟨e,sortP (idsL t.set) ps⟩]) k c:=by
 obtain ⟨p,hp,hh⟩:=sort_at (l:=ps) (just_iff.1 h).2 (k:=k) (id:=c.id) (by rw [← t_ids hk,dI,hc];rfl)
 unfold addF colL
 rw [dC,dE,List.map_cons,List.map_nil]
 congr 1
 have hf:ps.find? (fun q=>q.comp==c.id)=some p:=by rw [← List.head?_filter];unfold hitsP at hh;rw [hh];rfl
 rw [hf]
 unfold valR
 simp only
 rw [hp]
end Go.Proofs.YtbpdbclndfmcgaaGreatDoor
end
section
set_option maxHeartbeats 12800000
set_option maxRecDepth 100000
namespace Go.Proofs.YtbpdbclndfmcgaaGreatDoor
open Go Go.Lg Go.Lg.Fld Go.Lg.Sg Go.Lg.Col
set_option maxRecDepth 100000
variable (X:Nat→Option Obj)
theorem checkAdd_nil (e:Nat) (pad:Option Addr) (n pcap:Nat):PSpec Tryz.prog X 44 [LnilT,Ln .u64 (e:Nat),Lx pad n pcap] (Ln .i64 2):=by
 refine cD Tryz.func44 rfl V5 rfl rfl ?_
 intro C
 (refine U9 ?_;refine K.nilNil O V5 (.inl ⟨O,O⟩) dO ?_;refine U8 ?_)
 exact V6
theorem tAdd_nil (e:Nat) (pad:Option Addr) (n pcap:Nat):PSpec Tryz.prog X 10 [LnilT,Ln .u64 (e:Nat),Lx pad n pcap] (.tup [Sn .i64 0,Sn .i64 2]):=by
 refine cD Tryz.func10 rfl V5 rfl rfl ?_
 intro C
 have hc:=checkAdd_nil X e pad n pcap
 refine U27 ?_
 exact V1A
set_option maxHeartbeats 3200000 in
theorem checkAdd0 (t:Tb) (hk:TbOk t) (ad pad cad:Option Addr) (cap pcap cc:Nat) (vP:Value) (e:Nat) (l:List Pt) (hin:CompsIn X cad (onlyC t.sc.cs t.set)) (hP:PartsIn X pad l) (hl:l.length≤12) (he:e<18446744073709551616):
  MSpec Tryz.prog X 44 [Lp 1000000,Ln .u64 (e:Nat),Lx pad l.length pcap] [tS 1000000 t (vS ad t.l.length cap) (.slice cad (onlyC t.sc.cs t.set).length cc) vP] (Ln .i64 (addE t e l)) [tS 1000000 t (vS ad t.l.length cap) (.slice cad (onlyC t.sc.cs t.set).length cc) vP]:=by
 have _:=he
 have hG:=gParts X l pad pcap hP V3
 have hj:=just_sig hk.set.1 hk.set.2 l
 have hpo:=parts_only (cs:=t.sc.cs) (set:=t.set) (l:=l)
 have h24:=t_len24 hk
 have hPs:=pPartsBig X t.sc.ver cad pad cc pcap (onlyC t.sc.cs t.set) l hin V3 (fun c hc=>by
  obtain ⟨i,hi⟩:=List.mem_iff_getElem?.1 hc
  have:=(t_size hk hi).1
  omega) hP (by omega) _ rfl
 have hR:=room0 X t ad t.l.length cap (.slice cad (onlyC t.sc.cs t.set).length cc) vP hk.room hk.most.2
 rw [show t.most-t.l.length-t.kept=roomT t from rfl] at hR
 have hset:=hk.set.1
 refine cE Tryz.func44 rfl V5 rfl rfl V4 rfl rfl ?_
 intro C
 unfold addE
 generalize prE (l.map fun p=>p.comp)=pe at *
 generalize prN (l.map fun p=>p.comp)=pn at *
 by_cases h1:e=0
 ·rw [if_pos h1]
  subst h1
  (refine U9 ?_;refine K.ptrNil O V5 (.inl ⟨O,O⟩) dO ?_;refine U6 ?_;refine keq O O (r:=true) O ?_;refine U8 ?_)
  exact ⟨[],⟨[_],⟨O,trivial⟩,O⟩,V1,O,O⟩
 rw [if_neg h1]
 have he0:((((e:Nat):Int))==0)=false:=cO V3
 by_cases h2:justP (idsL t.set) l=true
 case neg =>
  rw [if_neg h2]
  by_cases hpe:pe=0
  ·subst hpe
   have hne:((((pn:Nat):Int)) != (t.set:Nat))=true:=cR fun e=>h2 (hj.1 ⟨rfl,by omega⟩)
   (refine U9 ?_;refine K.ptrNil O V5 (.inl ⟨O,O⟩) dO ?_;refine U6 ?_;refine keq O O he0 ?_;refine U22 ?_;refine bI O (dP O O) ?_;refine U2 ?_;refine aX O O hne (dP O O) ?_;refine U8 ?_)
   exact ⟨[],⟨[_],⟨O,trivial⟩,O⟩,V1,O,O⟩
  ·(refine U9 ?_;refine K.ptrNil O V5 (.inl ⟨O,O⟩) dO ?_;refine U6 ?_;refine keq O O he0 ?_;refine U18 ?_;refine kne O O (r:=true) (cR hpe) ?_;refine U15 ?_)
   exact ⟨[],⟨[_],⟨O,trivial⟩,O⟩,V1,O,O⟩
 rw [if_pos h2]
 obtain ⟨rfl,rfl⟩:=hj.2 h2
 rw [hpo h2] at hPs
 have hne:((((t.set:Nat):Int)) != (t.set:Nat))=false:=cP rfl
 by_cases h3:partsE t.sc.cs l=0
 case neg =>
  rw [if_neg h3]
  generalize partsE t.sc.cs l=q at *
  (refine U9 ?_;refine K.ptrNil O V5 (.inl ⟨O,O⟩) dO ?_;refine U6 ?_;refine keq O O he0 ?_;refine U22 ?_;refine bI O (dP O O) ?_;refine U2 ?_;refine aX O O hne (dP O O) ?_;refine U10 ?_;refine bJ O O O V1C dO ?_;refine U7 ?_;refine kne O O (r:=true) (cR h3) ?_;refine U8 ?_)
  exact ⟨[],⟨[_],⟨O,trivial⟩,O⟩,V1,O,O⟩
 rw [if_pos h3]
 rw [h3] at hPs
 by_cases h4:roomT t=0
 ·rw [if_pos h4]
  rw [h4] at hR
  (refine U9 ?_;refine K.ptrNil O V5 (.inl ⟨O,O⟩) dO ?_;refine U6 ?_;refine keq O O he0 ?_;refine U22 ?_;refine bI O (dP O O) ?_;refine U2 ?_;refine aX O O hne (dP O O) ?_;refine U10 ?_;refine bJ O O O V1C dO ?_;refine U15 ?_;refine K.callR [(1000000,1000000)] (hR) O O V7 V8 O O O O dO<|keq O O (r:=true) O ?_;refine U7 ?_)
  exact ⟨[],⟨[_],⟨O,trivial⟩,O⟩,V1,O,O⟩
 ·rw [if_neg h4]
  generalize roomT t=rm at *
  (refine U9 ?_;refine K.ptrNil O V5 (.inl ⟨O,O⟩) dO ?_;refine U6 ?_;refine keq O O he0 ?_;refine U22 ?_;refine bI O (dP O O) ?_;refine U2 ?_;refine aX O O hne (dP O O) ?_;refine U10 ?_;refine bJ O O O V1C dO ?_;refine U15 ?_;refine K.callR [(1000000,1000000)] (hR) O O V7 V8 O O O O dO<|keq O O (r:=false) (cO V3) ?_;refine U8 ?_)
  exact ⟨[],⟨[_],⟨O,trivial⟩,O⟩,V1,O,O⟩
theorem tAdd_no (t:Tb) (hk:TbOk t) (e:Nat) (he:e<18446744073709551616) (l:List Pt) (pad:Option Addr) (pcap:Nat) (hP:PartsC X pad l) (hl:l.length≤12∧∀ x∈l,x.val.length<4611686018427387904) (h:addE t e l≠0):MSpec Tryz.prog X 10 [Lp 1000000,Ln .u64 (e:Nat),Lx pad l.length pcap] [tB 1000000 t] (.tup [Sn .i64 0,Sn .i64 (addE t e l)]) [tB 1000000 t]:=by
 refine cE Tryz.func10 rfl V5 rfl rfl V4 rfl rfl ?_
 intro C
 refine LWP.ends (tab_open fun Hs He Hr vE vC vP ps h1 h2 h3 hI => ?_)
 obtain ⟨ad,cap,rfl⟩:=hI.ents.slice
 obtain ⟨cb,cc,rfl,hin⟩:=hI.sc
 rw [cU] at hI ⊢
 have hC:=checkAdd0 (tH X Hs He Hr) t hk ad pad (some ⟨cb,0,none⟩) cap pcap cc vP e l (hin.mono (tH_s h2 h3)) (hP.mono (tH_x h1 h2 h3)).parts hl.1 he
 generalize addE t e l=q at *
 (refine U11 ?_;refine K.callR [(1000000,1000000)] (hC) O O V7 V8 O O O O dO ?_;refine U5 ?_;refine kne O O (r:=true) (cR h) ?_;refine U9 ?_)
 refine tab_shut h1 h2 h3 hI (cA ?_)
 exact ⟨[],⟨[_,_],⟨O,O,trivial⟩,O⟩,V1,O,O⟩
set_option maxHeartbeats 6400000 in
theorem tAdd (t:Tb) (hk:TbOk t) (e:Nat) (he:e<18446744073709551616) (l:List Pt) (pad:Option Addr) (pcap:Nat) (hP:PartsC X pad l) (hl:l.length≤12∧∀ x∈l,x.val.length<4611686018427387904) (h:addE t e l=0):MSpec Tryz.prog X 10 [Lp 1000000,Ln .u64 (e:Nat),Lx pad l.length pcap] [tB 1000000 t] (.tup [Sn .i64 (t.l.length:Nat),Sn .i64 0]) [tB 1000000 (addT t e l)]:=by
 have h24:=t_len24 hk
 have hroom:=hk.room
 have hmost:=hk.most
 obtain ⟨_,hjust,hparts,_,hrm⟩:=TbOk.add hk he h
 refine cE Tryz.func10 rfl V5 rfl rfl V4 rfl rfl ?_
 intro C
 refine LWP.ends (tab_open fun Hs He Hr vE vC vP ps h1 h2 h3 hI => ?_)
 obtain ⟨ad,cap,rfl⟩:=hI.ents.slice
 obtain ⟨cb,cc,rfl,hin⟩:=hI.sc
 have hll:(t.l.map Rw.e).length=t.l.length:=cU _
 obtain ⟨ptad,ptcap,rfl,hPt⟩:=hI.ptrs
 have hps:ps.length=(onlyC t.sc.cs t.set).length:=by rw [hI.refs.len];exact colsG_len _ _ _
 rw [hll]
 have hC:=checkAdd0 (tH X Hs He Hr) t hk ad pad (some ⟨cb,0,none⟩) cap pcap cc (.slice ptad ps.length ptcap) e l (hin.mono (tH_s h2 h3)) (hP.mono (tH_x h1 h2 h3)).parts hl.1 he
 rw [h] at hC
 generalize hnc:(onlyC t.sc.cs t.set).length=nc at *
 (refine U11 ?_;refine K.callR [(1000000,1000000)] (hC) O O V7 V8 O O O O dO ?_;refine U17 ?_)
 refine cJ (fun m σ=>∃ (j:Nat) (H:Nat→Option Obj),j≤l.length∧m=l.length-j∧OwnedM C (joinM (joinM X Hs) He) H∧Refs H ps (colsG (addF t.l l j) t.most (onlyC t.sc.cs t.set))∧σ=⟨[(0,Lp 1000000),(1,Ln .u64 (e:Nat)),(21,Lx pad l.length pcap),(22,Ln .i64 (l.length:Nat)),(23,Ln .i64 (j:Nat))],[tS 1000000 t (vS ad t.l.length cap) (.slice (some ⟨cb,0,none⟩) nc cc) (.slice ptad ps.length ptcap)],joinM (joinM (joinM X Hs) He) H⟩) l.length
  (cC (σ':=⟨[(0,Lp 1000000),(1,Ln .u64 (e:Nat)),(21,Lx pad l.length pcap),(22,Ln .i64 (l.length:Nat)),(23,Ln .i64 (0:Nat))],[tS 1000000 t (vS ad t.l.length cap) (.slice (some ⟨cb,0,none⟩) nc cc) (.slice ptad ps.length ptcap)],tH X Hs He Hr⟩) (Le.of V12 VF V2 V2 V0) (cA ⟨0,Hr,by omega,by omega,h3,by
   rw [show colsG (addF t.l l 0) t.most (onlyC t.sc.cs t.set)=colsT t from colsG_congr fun k d _=>addF_zero t.l l k d]
   exact hI.refs,O⟩)) ?_
 rintro m σ ⟨j,H,hj,rfl,hO,hR,rfl⟩
 by_cases hlt:j<l.length
 ·obtain ⟨p,hp⟩:=wg hlt
  have hpm:=dA hp
  have hidm:=just_in hjust p hpm
  obtain ⟨k,hpl⟩:∃ k,placeT t.set p.comp=some k:=by
   have:(placeT t.set p.comp).isSome=true:=by rw [← t_has,← any_ids,List.any_eq_true];exact ⟨_,hidm,cS rfl⟩
   exact Option.isSome_iff_exists.1 this
  obtain ⟨c,hc,hid,hfs,_⟩:=t_at hk hpl
  have hfit:fitErr c.fs p.val=0:=by have:=part_fits (parts_zero hparts p hpm);rw [hfs] at this;exact this
  have hsz:=t_size hk hc
  have hXm:∀ b o,X b=some o→joinM (joinM (joinM X Hs) He) H b=some o:=tH_x h1 h2 hO
  obtain ⟨blk,off,arr,el,fr,vad,vcap,rfl,hX,hps2,hpc,_,_,hN,_⟩:=(hP.mono hXm).get hp
  have hio:=wo off j 2
  have hpl0:=place0 (joinM (joinM (joinM X Hs) He) H) t (.slice ad t.l.length cap) (.slice ptad ps.length ptcap) (onlyC t.sc.cs t.set) (some ⟨cb,0,none⟩) cc p.comp (hin.mono (tH_s h2 hO)) V3
  rw [t_place hk,hpl,hnc] at hpl0
  replace hpl0:=(show MSpec _ _ _ [Lp 1000000,Ln .i64 p.comp] _ (Ln .i64 (k:Nat)) _ from hpl0)
  obtain ⟨cblk,coff,carr,cel,cfr,fad,fcap,hq,hcX,hcsz,hccs,_,_,g3,hF⟩:=(hin.mono (tH_s (X:=X) h2 hO)).get hc
  simp only [Option.some.injEq,Addr.mk.injEq] at hq
  obtain ⟨rfl,rfl,_⟩:=hq
  have hPk:=lPack_spec (joinM (joinM (joinM X Hs) He) H) fad vad fcap vcap c.fs p.val hF V3 hN (hl.2 p hpm)
  rw [hfit,show packR c.fs p.val=packB c.fs p.val from if_pos hfit] at hPk
  have hkc:=(wl hc)
  have hio2:=wo 0 k 3
  have hBl:=hsz.2.2 p.val
  obtain ⟨hf1,hf2⟩:=addF_here (l:=t.l) (k:=k) hjust hp hid
  have hothers:∀ k' d,k'≠k→(onlyC t.sc.cs t.set)[k']? = some d→addF t.l l (j+1) k' d=addF t.l l j k' d:=fun k' d hne hd=>addF_there hp fun e'=>by
   have hpw:=(pair16 (goodC16 hk.sc)).filter (fun c=>hasB t.set c.id)
   rw [List.pairwise_iff_getElem] at hpw
   obtain ⟨hk1,rfl⟩:=List.getElem?_eq_some_iff.1 hd
   obtain ⟨hk2,rfl⟩:=List.getElem?_eq_some_iff.1 hc
   rcases Nat.lt_or_gt_of_ne hne with hlt'|hlt'
   ·have:=hpw k' k hk1 hk2 hlt'
    unfold onlyC at e' hid
    omega
   ·have:=hpw k k' hk2 hk1 hlt'
    unfold onlyC at e' hid
    omega
  generalize hBB:packB c.fs p.val=B at *
  (refine U21 ?_;refine K.callR [(1000000,1000000)] (hpl0) O O V7 V8 O O O O dO ?_;refine U3 ?_;refine rgD mixed ?_;refine U19 ?_)
  refine LWP.le (σ':=⟨[(11,Ln .i64 (k:Nat)),(12,Ls B),(0,Lp 1000000),(1,Ln .u64 (e:Nat)),(21,Lx (some ⟨blk,off,none⟩) l.length pcap),(22,Ln .i64 (l.length:Nat)),(23,Ln .i64 (j:Nat))],[tS 1000000 t (vS ad t.l.length cap) (.slice (some ⟨cb,0,none⟩) nc cc) (.slice ptad ps.length ptcap)],joinM (joinM (joinM X Hs) He) H⟩) (Le.of V1D VF V2 V2 V0) ?_
  refine tcol_open (kk:=501) hO hR (colsG_at hc) O O O V3 fun b H0 hb hO0 hback => ?_
  obtain ⟨pblk,parr,pel,pfr,rfl,hPX,hPa⟩:=hPt k b hb
  have hPX2:joinM (joinM (joinM X Hs) He) H0 pblk=some (.cells parr pel pfr):=tH_s h2 hO0 _ _ hPX
  have hkl:=(wl hb)
  have hio3:0+Int.toNat (k:Int)*1=k:=by simp
  have hcl:(colL t.l k c).length=t.l.length:=cU _
  have happ:appE (rowSize c.fs) t.most (colL t.l k c).length B=0:=by
   unfold appE
   unfold roomT at hrm
   rw [if_neg (fun hn=>hn hBl),if_neg (by omega)]
  have hg:=(cAppend_ok (joinM (joinM (joinM X Hs) He) H0) (rowSize c.fs) t.most (colL t.l k c) B happ).at (b:=b)
  have hroot:=colR_root (rowSize c.fs) t.most (colL t.l k c++[B])
  have hadd:=wi j V3
  rw [hf1]
  (refine U9 ?_;refine aU [(1000000,501)] [atB 501 b (rowSize c.fs) t.most (colL t.l k c++[B])] (hg) O O V7 VE O O O O VB dO ?_;refine U5 ?_)
  refine cC (σ':=⟨[(0,Lp 1000000),(1,Ln .u64 (e:Nat)),(21,Lx (some ⟨blk,off,none⟩) l.length pcap),(22,Ln .i64 (l.length:Nat)),(23,Ln .i64 (j+1:Nat))],[atB 501 b (rowSize c.fs) t.most (colL t.l k c++[B]),tS 1000000 t (vS ad t.l.length cap) (.slice (some ⟨cb,0,none⟩) nc cc) (.slice (some ⟨pblk,0,none⟩) ps.length ptcap)],joinM (joinM (joinM X Hs) He) H0⟩) (Le.of V12 VA V2 V2 V0) ?_
  refine tcol_shut hO0 hroot O O O fun m' Hc' g1 g2 g3 g4 => ?_
  have hB:=hback _ m' Hc' g1 g2 g3
  rw [← hf2,colsG_set hc (g:=addF t.l l (j+1)) hothers] at hB
  exact cA ⟨l.length-(j+1),by omega,j+1,_,by omega,O,g4,hB,O⟩
 ·have e':j=l.length:=by omega
  subst e'
  have hRn:Refs H ps (colsT (addT t e l)):=by
   have:colsT (addT t e l)=colsG (addF t.l l l.length) t.most (onlyC t.sc.cs t.set):=by
    show colsG (colL (t.l++[⟨e,sortP (idsL t.set) l⟩])) t.most (onlyC t.sc.cs t.set)=_
    exact colsG_congr fun k d hd=>(addF_all hk hjust e hd).symm
   rw [this];exact hR
  have hents:(addT t e l).l.map Rw.e=t.l.map Rw.e++[e]:=by
   show (t.l++[_]).map Rw.e=_
   rw [dE];rfl
  have hb256:t.l.length<256:=by unfold roomT at hrm;omega
  obtain ⟨hsw1,hsw2,hsw3⟩:=OwnedM.swap h2 hO
  have hE:=hI.ents
  have htwo:∀ r∈(addT t e l).l,∀ p∈r.p,∀ u∈p.val,In2 u.2:=fun r hr p hp=>by
   rcases List.mem_append.1 hr with hr|hr
   ·exact hI.two r hr p hp
   ·rw [List.mem_singleton.1 hr] at hp
    obtain ⟨i,hi⟩:=List.mem_iff_getElem?.1 (sort_mem hp)
    obtain ⟨_,_,_,_,_,_,_,_,_,_,_,_,_,hN,_⟩:=hP.get hi
    exact hN.in2
  rw [hsw3]
  rw [hll] at hE
  have hnew:entV (t.l.map Rw.e++[e])=entV (t.l.map Rw.e)++[.int .u64 (e:Nat)]:=by unfold entV;rw [dE];rfl
  have hsub:IntKind.i64.wrap (((t.l.length+1:Nat):Int)-1)=((t.l.length:Nat):Int):=by rw [cF V3];omega
  have hlen1:(entV (t.l.map Rw.e++[e])).length=(t.l.length+1)*1:=by unfold entV;rw [cU,cT,hll];simp
  have hfin:∀ (He':Nat→Option Obj) (Mid:St→Prop),OwnedM C (joinM (joinM X Hs) H) He'→(∀ v HE,OwnedM C (joinM (joinM X Hs) H) HE→EntsAt HE v (t.l.map Rw.e++[e])→Leads _ C Mid ⟨[(6,Ln .i64 (t.l.length:Nat)),(7,Ln .i64 0)],[tS 1000000 t (.val v) (.slice (some ⟨cb,0,none⟩) nc cc) (.slice ptad ps.length ptcap)],joinM (joinM (joinM X Hs) H) HE⟩) →
    Leads (Tryz.f10).ntmps C Mid ⟨[(6,Ln .i64 (t.l.length:Nat)),(7,Ln .i64 0)],[(1000000,some ⟨92,[.val (.int .u32 (t.set:Nat)),.val (.int .i64 (t.most:Nat)),.val (.int .i64 (t.kept:Nat))] ++ .slc 501 0 (t.l.length+1) 1::[.val (.int .i64 t.sc.ver),.val (.slice (some ⟨cb,0,none⟩) nc cc),.val (.slice ptad ps.length ptcap)],false⟩),(501,some ⟨37,(entV (t.l.map Rw.e++[e])).map CV.val,true⟩)],joinM (joinM (joinM X Hs) H) He'⟩:=fun He' Mid hO' hm =>
   Leads.closeCell hO' hlen1 rfl rfl rfl rfl rfl rfl fun b o v g1 g2 g3 g4=>hm v _ g3 (.inr ⟨b,g4⟩)
  have hlast:∀ v HE,OwnedM C (joinM (joinM X Hs) H) HE→EntsAt HE v (t.l.map Rw.e++[e])→Leads (Tryz.f10).ntmps C (retM Tryz.prog Tryz.f10 [tB 1000000 t] (.tup [Sn .i64 (t.l.length:Nat),Sn .i64 0]) [tB 1000000 (addT t e l)] .ret) ⟨[(6,Ln .i64 (t.l.length:Nat)),(7,Ln .i64 0)],[tS 1000000 t (.val v) (.slice (some ⟨cb,0,none⟩) nc cc) (.slice ptad ps.length ptcap)],joinM (joinM (joinM X Hs) H) HE⟩:=fun v HE k0 kE=>by
   obtain ⟨k1,k2,k3⟩:=OwnedM.swap hsw1 k0
   rw [k3]
   refine tab_shut (t:=addT t e l) h1 k1 k2 ⟨⟨cb,cc,by rw [← hnc];rfl,hin⟩,⟨ptad,ptcap,rfl,hPt⟩,hRn,by rw [hents];exact kE,htwo⟩ (cA ?_)
   exact ⟨[],⟨[_,_],⟨O,O,trivial⟩,O⟩,V1,O,O⟩
  rcases hE with ⟨hv,hz⟩|⟨db,hd⟩
  ·have hz0:t.l.length=0:=by rw [← hll,hz];rfl
   simp only [nilSlc,Value.slice.injEq] at hv
   obtain ⟨rfl,_,rfl⟩:=hv
   rw [hz] at hfin hlast
   rw [hz0] at hfin hlast ⊢
   have hsub1:IntKind.i64.wrap (((1:Nat):Int)-1)=((0:Nat):Int):=by rw [cF V3];rfl
   (refine U15 ?_;refine aZ (zs:=[.int .u64 0]) (sz:=1) (e:=37) (cs':=[.val (.int .u64 (e:Nat))]) V5 O O O O O O dO<|K.appendNil (by_:=8) (e:=37) (e2:=37) (l2:=[.val (.int .u64 (e:Nat))]) O O O (dK _) O O V11 V5 V5 V3 V3 O dO ?_;refine U2 ?_;refine bG O O O O O (nl7 O O O O O O O O) dO ?_;refine U13 ?_)
   refine cC (σ':=⟨[(6,Ln .i64 (0:Nat)),(7,Ln .i64 0)],[(1000000,some ⟨92,[.val (.int .u32 (t.set:Nat)),.val (.int .i64 (t.most:Nat)),.val (.int .i64 (t.kept:Nat))] ++ .slc 501 0 (0+1) 1::[.val (.int .i64 t.sc.ver),.val (.slice (some ⟨cb,0,none⟩) nc cc),.val (.slice ptad ps.length ptcap)],false⟩),(501,some ⟨37,(entV ([]++[e])).map CV.val,true⟩)],joinM (joinM (joinM X Hs) H) He⟩) (Le.ofR [(501,63)] VA V1 V2 V2 V0 V2 V2) ?_
   exact hfin _ _ hsw2 hlast
  ·have hel:(entV (t.l.map Rw.e)).length=t.l.length*1:=by unfold entV;rw [cU,hll];omega
   have hcl1:((entV (t.l.map Rw.e)).map CV.val).length=t.l.length*1:=by rw [cU];exact hel
   refine U8 ?_
   refine LWP.le (σ':=⟨[(0,Lp 1000000),(1,Ln .u64 (e:Nat))],[tS 1000000 t (vS ad t.l.length cap) (.slice (some ⟨cb,0,none⟩) nc cc) (.slice ptad ps.length ptcap)],joinM (joinM (joinM X Hs) H) He⟩) (Le.of VA VF V2 V2 V0) ?_
   refine LWP.openCell (A:=[.val (.int .u32 (t.set:Nat)),.val (.int .i64 (t.most:Nat)),.val (.int .i64 (t.kept:Nat))]) (B:=[.val (.int .i64 t.sc.ver),.val (.slice (some ⟨cb,0,none⟩) nc cc),.val (.slice ptad ps.length ptcap)]) (k:=502) (sz:=1) (len:=t.l.length) hsw2 hd hel V3 O O O O O ?_
   (refine U7 ?_;refine aZ (zs:=[.int .u64 0]) (sz:=1) (e:=37) (cs':=[.val (.int .u64 (e:Nat))]) V5 O O O O O O dO<|bP (by_:=8) (e2:=37) (l2:=[.val (.int .u64 (e:Nat))]) (nl:=t.l.length+1) (nc:=(entV (t.l.map Rw.e++[e])).map .val) O O hcl1 O O (dK _) O O V5 V5 V3 V3 O O (by rw [hnew,dE];rfl) dO ?_;refine U2 ?_;refine bG O O O O O (nl7 O O O O O O O O) dO ?_;refine U13 ?_)
   refine cC (σ':=⟨[(6,Ln .i64 (t.l.length:Nat)),(7,Ln .i64 0)],[(1000000,some ⟨92,[.val (.int .u32 (t.set:Nat)),.val (.int .i64 (t.most:Nat)),.val (.int .i64 (t.kept:Nat))] ++ .slc 501 0 (t.l.length+1) 1::[.val (.int .i64 t.sc.ver),.val (.slice (some ⟨cb,0,none⟩) nc cc),.val (.slice ptad ps.length ptcap)],false⟩),(501,some ⟨37,(entV (t.l.map Rw.e++[e])).map CV.val,true⟩)],joinM (joinM (joinM X Hs) H) (cutM He db)⟩) (Le.ofR [(501,63)] VA V1 V2 V2 V0 V2 V2) ?_
   exact hfin _ _ (hsw2.cut db) hlast
end Go.Proofs.YtbpdbclndfmcgaaGreatDoor
end
section
set_option maxHeartbeats 12800000
set_option maxRecDepth 100000
namespace Go.Proofs.YtbpdbclndfmcgaaGreatDoor
open Go Go.Lg Go.Lg.Fld Go.Lg.Sg Go.Lg.Col
set_option maxRecDepth 100000
def zerP (k:Nat):List Value:=(List.replicate k [Value.int .i64 0,Value.slice none 0 0]).flatten
theorem zerP_succ (k:Nat):zerP (k+1)=[Value.int .i64 0,Value.slice none 0 0]++zerP k:=by unfold zerP;rw [List.replicate_succ,List.flatten_cons]
theorem zerP_len (k:Nat):(zerP k).length=k*2:=by
 induction k with
 | zero=>rfl
 | succ k ih=>rw [zerP_succ,cT,ih];simp;omega
variable (X:Nat→Option Obj)
theorem tParts_nil (row:Int):PSpec Tryz.prog X 13 [LnilT,Ln .i64 row] (.tup [Vnil,Sn .i64 2]):=by
 refine cD Tryz.func13 rfl V5 rfl rfl ?_
 intro C
 have hs:=seek0_nil X row
 refine U26 ?_
 exact V1A
set_option maxHeartbeats 6400000 in
theorem tPartsM (t:Tb) (hk:TbOk t) (i:Nat) (r:Rw) (h:t.l[i]? = some r):MSpec Tryz.prog X 13 [Lp 1000000,Ln .i64 (i:Nat)] [tB 1000000 t] (.tup [.one (.slc 1000001 0 r.p.length 2),Sn .i64 0]) [tB 1000000 t,prtB 1000001 r.p]:=by
 have h24:=t_len24 hk
 have hi:=(wl h)
 have hrl:r.p.length=(onlyC t.sc.cs t.set).length:=by rw [(hk.rows r (dA h)).len,t_len hk]
 have hsm:∀ p∈r.p,smallP p:=fun p hp=>by
  have hmem:p.comp∈idsL t.set:=by rw [← (hk.rows r (dA h)).ids];exact List.mem_map.2 ⟨p,hp,rfl⟩
  obtain ⟨g1,g2,_⟩:=mem_ids.1 hmem
  unfold smallP;omega
 refine cE Tryz.func13 rfl V5 rfl rfl V4 rfl rfl ?_
 intro C
 refine LWP.ends (tab_open fun Hs He Hr vE vC vP ps h1 h2 h3 hI => ?_)
 obtain ⟨ad,cap,rfl⟩:=hI.ents.slice
 obtain ⟨cb,cc,rfl,hin⟩:=hI.sc
 obtain ⟨ptad,ptcap,hvP,hPt⟩:=hI.ptrs
 have hptr:=hI.ptrs
 subst hvP
 have hps:ps.length=(onlyC t.sc.cs t.set).length:=by rw [hI.refs.len];exact colsG_len _ _ _
 rw [cU] at hI ⊢
 have hs:=seek0 (tH X Hs He Hr) t ad t.l.length cap (.slice (some ⟨cb,0,none⟩) (onlyC t.sc.cs t.set).length cc) (.slice ptad ps.length ptcap) i hi
 have hmk:slcBuild Tryz.prog 43 ps.length=some (zerP ps.length,2,50):=slcBuild_many (z := #[.int .i64 0,.slice none 0 0]) V5 V5 rfl V3
 generalize hnc:(onlyC t.sc.cs t.set).length=nc at *
 (refine U10 ?_;refine K.callR [(1000000,1000000)] (hs) O O V7 V8 O O O O dO ?_;refine U16 ?_;refine K.makeSlc (m:=ps.length) (bytes:=32) O O hmk V5 V3 O O dO ?_;refine U14 ?_)
 refine cJ (fun m σ=>∃ (j:Nat) (ws:List Value) (Hv H:Nat→Option Obj),j≤nc∧m=nc-j∧OwnedM C (joinM (joinM X Hs) He) Hv∧OwnedM C (joinM (joinM (joinM X Hs) He) Hv) H∧Refs H ps (colsT t)∧PartsH Hv ws (r.p.take j)∧σ=⟨[(0,Lp 1000000),(1,Ln .i64 (i:Nat)),(7,.sv (.one (.slc 500 0 ps.length 2))),(28,.sv (.one (vS (some ⟨cb,0,none⟩) nc cc))),(29,Ln .i64 (nc:Nat)),(30,Ln .i64 (j:Nat))],[(500,some ⟨50,(ptZ (r.p.take j) ws++zerP (ps.length-j)).map .val,false⟩),tS 1000000 t (vS ad t.l.length cap) (.slice (some ⟨cb,0,none⟩) nc cc) (.slice ptad ps.length ptcap)],joinM (joinM (joinM (joinM X Hs) He) Hv) H⟩) nc
  (cC (σ':=⟨[(0,Lp 1000000),(1,Ln .i64 (i:Nat)),(7,.sv (.one (.slc 500 0 ps.length 2))),(28,.sv (.one (vS (some ⟨cb,0,none⟩) nc cc))),(29,Ln .i64 (nc:Nat)),(30,Ln .i64 (0:Nat))],[(500,some ⟨50,(ptZ (r.p.take 0) []++zerP (ps.length-0)).map .val,false⟩),tS 1000000 t (vS ad t.l.length cap) (.slice (some ⟨cb,0,none⟩) nc cc) (.slice ptad ps.length ptcap)],tH X Hs He Hr⟩) (Le.ofR [(500,23)] VC V1 V2 V2 V0 V2 V2) (cA ⟨0,[],fun _=>none,Hr,by omega,by omega,OwnedM.nil _ _,by rw [joinM_nil];exact h3,hI.refs,PartsH.nil,by rw [joinM_nil]⟩)) ?_
 rintro m σ ⟨j,ws,Hv,H,hj,rfl,hOv,hO,hR,G,rfl⟩
 have hwl:ws.length=j:=by rw [G.len,cX];omega
 by_cases hlt:j<nc
 case neg =>
  have e:j=nc:=by omega
  subst e
  rw [List.take_of_length_le (by omega:r.p.length≤j)] at G ⊢
  obtain ⟨k1,k2,k3⟩:=OwnedM.swap hOv hO
  rw [k3]
  refine U14 ?_
  refine cC (σ':=⟨[(4,.sv (.one (.slc 500 0 r.p.length 2))),(5,Ln .i64 0)],[(500,some ⟨50,(ptZ r.p ws++zerP (ps.length-j)).map .val,false⟩),tS 1000000 t (vS ad t.l.length cap) (.slice (some ⟨cb,0,none⟩) j cc) (.slice ptad ps.length ptcap)],joinM (joinM (joinM (joinM X Hs) He) H) Hv⟩) (by rw [show r.p.length=ps.length by omega];exact Le.of VA VA V2 V2 V0) ?_
  refine prt_shut k2 G hsm ?_
  refine cC (σ':=⟨[(4,.sv (.one (.slc 500 0 r.p.length 2))),(5,Ln .i64 0)],[tS 1000000 t (vS ad t.l.length cap) (.slice (some ⟨cb,0,none⟩) j cc) (.slice ptad ps.length ptcap),prtB 500 r.p],tH X Hs He H⟩) (Le.of VA VA V2 V2 V0) ?_
  refine tab_shut h1 h2 k1 ⟨⟨cb,cc,by rw [← hnc],hin⟩,⟨ptad,ptcap,rfl,hPt⟩,hR,hI.ents,hI.two⟩ (cA ?_)
  exact ⟨[(1000001,500)],⟨[_,_],⟨O,O,trivial⟩,O⟩,V1,O,O⟩
 obtain ⟨c,hc⟩:∃ c,(onlyC t.sc.cs t.set)[j]? = some c:=wg V3
 obtain ⟨p,hp,hpc,hpf,hcol⟩:=t_row hk hc h
 have hsz:=t_size hk hc
 have hYs:∀ b o,Hs b=some o→joinM (joinM X Hs) He b=some o:=fun b o hb=>joinM_has h2 (joinM_in hb)
 have hM1:∀ b o,Hs b=some o→joinM (joinM (joinM (joinM X Hs) He) Hv) H b=some o:=fun b o hb=>joinM_has hO (joinM_has hOv (hYs b o hb))
 obtain ⟨cblk,coff,carr,cel,cfr,fad,fcap,hq,hcX,hcsz,hccs,_,_,_,_⟩:=(hin.mono hM1).get hc
 simp only [Option.some.injEq,Addr.mk.injEq] at hq
 obtain ⟨rfl,rfl,_⟩:=hq
 have hio:=wo 0 j 3
 refine U19 ?_
 refine LWP.le (σ':=⟨[(8,Ln .i64 (j:Nat)),(9,Lp 9),(0,Lp 1000000),(1,Ln .i64 (i:Nat)),(7,.sv (.one (.slc 500 0 ps.length 2))),(28,.sv (.one (vS (some ⟨cb,0,none⟩) nc cc))),(29,Ln .i64 (nc:Nat)),(30,Ln .i64 (j:Nat))],[(9,some ⟨86,[.val (.int .i64 c.id),.val (.string ⟨c.nm.toArray⟩),.val (.slice fad c.fs.length fcap)],false⟩),(500,some ⟨50,(ptZ (r.p.take j) ws++zerP (ps.length-j)).map .val,false⟩),tS 1000000 t (vS ad t.l.length cap) (.slice (some ⟨cb,0,none⟩) nc cc) (.slice ptad ps.length ptcap)],joinM (joinM (joinM (joinM X Hs) He) Hv) H⟩) (Le.of (by exact ⟨O,O,O,O,O,O,O,O,trivial⟩) V9 V2 V2 V0) ?_
 refine tcol_open (kk:=501) hO hR (colsG_at hc) O V16 O V3 fun b H0 hb hO0 hback => ?_
 have hM0:∀ b o,Hs b=some o→joinM (joinM (joinM (joinM X Hs) He) Hv) H0 b=some o:=fun b o hb=>joinM_has hO0 (joinM_has hOv (hYs b o hb))
 have hq:=value0 (joinM (joinM (joinM (joinM X Hs) He) Hv) H0) t (.slice ad t.l.length cap) (onlyC t.sc.cs t.set) (some ⟨cb,0,none⟩) cc (.slice ptad ps.length ptcap) ps i j b (rowSize c.fs) t.most (colL t.l j c) c p.val (hin.mono hM0) (hptr.mono hM0) hb hc hcol hpf (hI.two r (dA h) p (dA hp)) hsz.1 V3
 rw [hnc] at hq
 have hroot:=colR_root (rowSize c.fs) t.most (colL t.l j c)
 have hset:(colsT t).set j (colR (rowSize c.fs) t.most (colL t.l j c))=colsT t:=colsG_set hc fun _ _ _ _=>rfl
 have hv2:=hI.two r (dA h) p (dA hp)
 have hlz:(ptZ (r.p.take j) ws).length=j*2:=by rw [ptZ_len (by rw [hwl,cX];omega),cX];omega
 have hix:0+Int.toNat (j:Int)*2=j*2:=by rw [dD];omega
 have hroom:j*2+2≤((ptZ (r.p.take j) ws++zerP (ps.length-j)).map CV.val).length:=by rw [cU,cT,hlz,zerP_len];omega
 have hspl:splice ((ptZ (r.p.take j) ws++zerP (ps.length-j)).map CV.val) (j*2) [.val (.int .i64 c.id),.slc 601 0 p.val.length 3]=(ptZ (r.p.take j) ws++[Value.int .i64 c.id]).map CV.val ++ .slc 601 0 p.val.length 3::(zerP (ps.length-(j+1))).map .val:=by
  unfold splice
  rw [show ps.length-j=(ps.length-(j+1))+1 by omega,zerP_succ]
  simp only [dE,dJ]
  have hml:((ptZ (r.p.take j) ws).map CV.val).length=j*2:=by rw [cU,hlz]
  generalize (ptZ (r.p.take j) ws).map CV.val=R at *
  rw [← hml,List.take_left,List.drop_length_add_append]
  simp
 have hadd:=wi j V3
 (refine U4 ?_;refine bE [(1000000,1000000),(1000001,501),(1000002,601)] (.tup [.one (.slc 601 0 p.val.length 3),Sn .i64 0]) [tS 1000000 t (vS ad t.l.length cap) (.slice (some ⟨cb,0,none⟩) nc cc) (.slice ptad ps.length ptcap),atB 501 b (rowSize c.fs) t.most (colL t.l j c),nmsB 601 p.val true] (hq) O O (by exact (cN ⟨_,O,O⟩ (cN ⟨_,O,O⟩ trivial))) (by exact (bS (bS O (bS O (bS O (bS O (bS O (bS O (bS O O))))))) (bS O O))) O O O O (by exact (.box O O (.box O O (.box O (bX _ _ _ _) .nil)))) dO ?_;refine U20 ?_;refine aT O O V2 V1C dO ?_;refine U1 ?_;refine K.store O O O O V5 hroom hspl dO ?_;refine U5 ?_)
 refine cC (σ':=⟨[(0,Lp 1000000),(1,Ln .i64 (i:Nat)),(7,.sv (.one (.slc 500 0 ps.length 2))),(28,.sv (.one (vS (some ⟨cb,0,none⟩) nc cc))),(29,Ln .i64 (nc:Nat)),(30,Ln .i64 (j+1:Nat))],[atB 501 b (rowSize c.fs) t.most (colL t.l j c),(500,some ⟨50,(ptZ (r.p.take j) ws++[Value.int .i64 c.id]).map CV.val ++ .slc 601 0 p.val.length 3::(zerP (ps.length-(j+1))).map .val,false⟩),nmsB 601 p.val true,tS 1000000 t (vS ad t.l.length cap) (.slice (some ⟨cb,0,none⟩) nc cc) (.slice ptad ps.length ptcap)],joinM (joinM (joinM (joinM X Hs) He) Hv) H0⟩) (Le.of VC VD V2 V2 V0) ?_
 refine tcol_shut hO0 hroot O (by repeat' (first|refine bS ?_ ?_|rfl|exact bT|exact bV O)) O fun m' Hc' g1 g2 g3 g4 => ?_
 have hB:=hback _ m' Hc' g1 g2 g3
 rw [hset] at hB
 obtain ⟨k1,k2,k3⟩:=OwnedM.swap hOv g4
 rw [k3]
 refine Leads.closeCell k2 (by have:=nmsV_len p.val;rw [cU] at this;exact this) rfl bT bT V16 rfl rfl fun bk ob v g1 _ hO3 hv => ?_
 obtain ⟨q1,q2,q3⟩:=OwnedM.swap k1 hO3
 have hsn:r.p.take (j+1)=r.p.take j++[p]:=take_snoc hp
 refine cA ⟨nc-(j+1),by omega,j+1,ws++[v],withBlock Hv bk ob,_,by omega,rfl,q1,q2,hB,by rw [hsn];exact (G.mono (cG g1)).push (nms_leads hv hv2),?_⟩
 rw [q3,hsn,ptZ_add (by rw [hwl,cX];omega),hpc]
 simp only [dE,List.map_cons,List.map_nil,dJ,List.cons_append,List.nil_append]
end Go.Proofs.YtbpdbclndfmcgaaGreatDoor
end
section
set_option maxHeartbeats 12800000
set_option maxRecDepth 100000
namespace Go.Proofs.YtbpdbclndfmcgaaGreatDoor
open Go Go.Lg Go.Lg.Fld Go.Lg.Sg Go.Lg.Col
set_option maxRecDepth 100000
def pvs (ps:List Nat):List Value:=ps.map fun b=>.pointer (some ⟨b,0,none⟩)
theorem pvs_len (ps:List Nat):(pvs ps).length=ps.length:=cU _
theorem ptrs_leads {H:Nat→Option Obj} {b:Nat} {v:Value} {el:TypeId} {ps:List Nat} (h:LeadsTo H b v el 1 (pvs ps)):PtrsIn H v ps:=by
 obtain ⟨len,cap,arr,fr,rfl,h2,_,_,h5,sp,h6⟩:=h
 rw [pvs_len] at h2
 have e:len=ps.length:=by omega
 refine ⟨some ⟨b,0,none⟩,cap,by rw [e],fun i x hx=>⟨b,arr,el,fr,rfl,h5,?_⟩⟩
 rw [← Array.getElem?_toList,h6,dN (by rw [pvs_len];exact (wl hx))]
 unfold pvs
 rw [dI,hx];rfl
abbrev npt (k:Nat):List Value:=List.replicate k (Value.pointer none)
variable (X:Nat→Option Obj)
theorem tClone_nil:PSpec Tryz.prog X 24 [LnilT] LnilT:=by
 refine cD Tryz.func24 rfl V5 rfl rfl ?_
 intro C
 (refine U8 ?_;refine K.nilNil O V5 (.inl ⟨O,O⟩) dO ?_;refine U7 ?_)
 exact V6
abbrev arB (k:Nat) (l:List CV):Nat×Option Box:=(k,some ⟨97,l,false⟩)
abbrev tO (k:Nat) (t:Tb) (vE vC vP:CV):Nat×Option Box:=(k,some ⟨92,[.val (.int .u32 (t.set:Nat)),.val (.int .i64 (t.most:Nat)),.val (.int .i64 (t.kept:Nat)),vE,.val (.int .i64 t.sc.ver),vC,vP],false⟩)
set_option maxHeartbeats 12800000 in
theorem tClone (t:Tb) (hk:TbOk t):MSpec Tryz.prog X 24 [Lp 1000000] [tB 1000000 t] (Lp 1000001) [tB 1000000 t,tB 1000001 t]:=by
 have h24:=t_len24 hk
 have hroom:=hk.room
 have hmost:=hk.most
 refine cE Tryz.func24 rfl V5 rfl rfl V4 rfl rfl ?_
 intro C
 refine LWP.ends (tab_open fun Hs He Hr vE vC vP ps h1 h2 h3 hI => ?_)
 obtain ⟨cb,cc,rfl,hin⟩:=hI.sc
 obtain ⟨ptad,ptcap,hvP,hPt⟩:=hI.ptrs
 have hptr:=hI.ptrs
 subst hvP
 have hps:ps.length=(onlyC t.sc.cs t.set).length:=by rw [hI.refs.len];exact colsG_len _ _ _
 have hll:(t.l.map Rw.e).length=t.l.length:=cU _
 generalize hnc:(onlyC t.sc.cs t.set).length=nc at *
 have hE:=hI.ents
 have hone:vE.oneCell'=true:=by
  obtain ⟨ad,cap,e⟩:=hE.slice
  rw [e];rfl
 have hso:[CV.val (.int .u32 (t.set:Nat)),.val (.int .i64 (t.most:Nat)),.val (.int .i64 (t.kept:Nat)),.val vE,.val (.int .i64 t.sc.ver),.val (.slice (some ⟨cb,0,none⟩) nc cc),.val (.slice ptad ps.length ptcap)].all CV.solid=true:=by
  refine bS O (bS O (bS O (bS hone O)))
 (refine U8 ?_;refine K.ptrNil O V5 (.inl ⟨O,O⟩) dO ?_;refine U9 ?_;refine K.storeAll O O O hso O O dO ?_;refine U2 ?_)
 refine LWP.le (σ':=⟨[(0,Lp 1000000),(3,Lp 3)],[tS 3 t (.val vE) (.slice (some ⟨cb,0,none⟩) nc cc) (.slice ptad ps.length ptcap),tS 1000000 t (.val vE) (.slice (some ⟨cb,0,none⟩) nc cc) (.slice ptad ps.length ptcap)],tH X Hs He Hr⟩) (Le.of VA VA V2 V2 V0) ?_
 repeat refine aA ?_
 refine LWP.meetL (fun σ=>∃ (v2:Value) (HE:Nat→Option Obj),OwnedM C (tH X Hs He Hr) HE∧EntsAt HE v2 (t.l.map Rw.e)∧σ=⟨[(0,Lp 1000000),(3,Lp 3)],[tS 3 t (.val v2) (.slice (some ⟨cb,0,none⟩) nc cc) (.slice ptad ps.length ptcap),tS 1000000 t (.val vE) (.slice (some ⟨cb,0,none⟩) nc cc) (.slice ptad ps.length ptcap)],joinM (tH X Hs He Hr) HE⟩) ?_ ?_
 ·by_cases hv:vE=nilSlc
  ·have hz:t.l.map Rw.e=[]:=by
    rcases hE with ⟨_,h⟩|⟨db,len,cap,arr,fr,e,_⟩
    ·exact h
    ·rw [e] at hv;cases hv
   subst hv
   clear hso hone
   have hC:=kClEn_nil (tH X Hs He Hr) 0
   unfold nilSlc at *
   (refine U7 ?_;refine bG O O O O O (nl7 O O O O O O O O) dO ?_;refine U1 ?_)
   exact cC (σ':=⟨[(0,Lp 1000000),(3,Lp 3)],[tS 3 t (.val nilSlc) (.slice (some ⟨cb,0,none⟩) nc cc) (.slice ptad ps.length ptcap),tS 1000000 t (.val nilSlc) (.slice (some ⟨cb,0,none⟩) nc cc) (.slice ptad ps.length ptcap)],tH X Hs He Hr⟩) (Le.of VA VA V2 V2 V0) (cA ⟨nilSlc,fun _=>none,OwnedM.nil _ _,.inl ⟨rfl,hz⟩,by rw [joinM_nil];rfl⟩)
  ·obtain ⟨db,cap,hve,hR⟩:=entV_reads (Y:=tH X Hs He Hr) hE hv (tH_e h3)
   have hC:=kClEn (tH X Hs He Hr) db cap (t.l.map Rw.e) hR V3
   subst hve
   have hel:(entV (t.l.map Rw.e)).length=(t.l.map Rw.e).length*1:=by unfold entV;rw [cU];omega
   generalize t.l.map Rw.e=L at *
   (refine U5 ?_;refine bE [(1000001,601)] (.sv (.one (.slc 601 0 L.length 1))) [enB 601 L] (hC) O O V15 O O O O O V18 dO ?_;refine U1 ?_;refine bG O O O O O (nl7 O O O O O O O O) dO ?_;refine U1 ?_)
   refine cC (σ':=⟨[(0,Lp 1000000),(3,Lp 3)],[(3,some ⟨92,[.val (.int .u32 (t.set:Nat)),.val (.int .i64 (t.most:Nat)),.val (.int .i64 (t.kept:Nat))] ++ .slc 601 0 L.length 1::[.val (.int .i64 t.sc.ver),.val (.slice (some ⟨cb,0,none⟩) nc cc),.val (.slice ptad ps.length ptcap)],false⟩),(601,some ⟨37,(entV L).map .val,true⟩),tS 1000000 t (vS (some ⟨db,0,none⟩) L.length cap) (.slice (some ⟨cb,0,none⟩) nc cc) (.slice ptad ps.length ptcap)],joinM (tH X Hs He Hr) (fun _=>none)⟩) (by rw [joinM_nil];exact Le.of VA V9 V2 V2 V0) ?_
   exact Leads.closeCell (OwnedM.nil _ _) hel O O O O O O fun b o v g1 _ g3 g4=>cA ⟨v,_,g3,.inr ⟨b,g4⟩,O⟩
 rintro σ ⟨v2,HE,hOE,hE2,rfl⟩
 obtain ⟨a1,a2,a3⟩:=OwnedM.swap h3 hOE
 rw [a3]
 have hYs:∀ b o,Hs b=some o→joinM (joinM X Hs) He b=some o:=fun b o hb=>joinM_has h2 (joinM_in hb)
 have hM1:∀ b o,Hs b=some o→joinM (joinM (joinM (joinM X Hs) He) HE) Hr b=some o:=fun b o hb=>joinM_has a2 (joinM_has a1 (hYs b o hb))
 have hCl:=pCloneBig (joinM (joinM (joinM (joinM X Hs) He) HE) Hr) t.sc.ver (some ⟨cb,0,none⟩) cc (onlyC t.sc.cs t.set) (hin.mono hM1) V3 (fun c hc=>by
  obtain ⟨i,hi⟩:=List.mem_iff_getElem?.1 hc
  have:=(t_size hk hi).1
  omega)
 rw [hnc] at hCl
 (refine U5 ?_;refine bJ O O O V1C dO ?_;refine bE [(1000001,602)] (.sv (.agg [.val (.int .i64 t.sc.ver),.slc 602 0 nc 3])) [scB 602 (onlyC t.sc.cs t.set)] (hCl) O O V15 O O O O O VB dO ?_;refine U1 ?_;refine K.store O O O O V5 (Nat.le_of_ble_eq_true O) O dO ?_;refine U2 ?_)
 refine LWP.le (σ':=⟨[(0,Lp 1000000),(3,Lp 3)],[(3,some ⟨92,[.val (.int .u32 (t.set:Nat)),.val (.int .i64 (t.most:Nat)),.val (.int .i64 (t.kept:Nat)),.val v2,.val (.int .i64 t.sc.ver)] ++ .slc 602 0 nc 3::[.val (.slice ptad ps.length ptcap)],false⟩),scB 602 (onlyC t.sc.cs t.set),tS 1000000 t (.val vE) (.slice (some ⟨cb,0,none⟩) nc cc) (.slice ptad ps.length ptcap)],joinM (joinM (joinM (joinM X Hs) He) HE) Hr⟩) (Le.of VA V9 V2 V2 V0) ?_
 refine LWP.fixCell O O O O O O fun ρ H2 cc2 hsc hO2 hcc2 _ => ?_
 obtain ⟨cb2,cm2⟩:=ρ
 have hin2:CompsIn H2 (some ⟨cb2,0,none⟩) (onlyC t.sc.cs t.set):=scR_in hsc fun _ _ h=>h
 obtain ⟨b1,b2,b3⟩:=OwnedM.swap a2 hO2
 rw [b3]
 have hmk:slcBuild Tryz.prog 90 ps.length=some (npt ps.length,1,97):=slcBuild_one V5 V5 V3
 (refine U6 ?_;refine K.makeSlc (m:=ps.length) (bytes:=8) O O hmk V5 V3 O O dO ?_;refine U1 ?_;refine bG O O O O O (nl7 O O O O O O O O) dO ?_;refine U12 ?_)
 refine cJ (fun m σ=>∃ (j:Nat) (qs:List Nat) (Hn H:Nat→Option Obj),j≤ps.length∧m=ps.length-j∧OwnedM C (joinM (joinM (joinM (joinM X Hs) He) HE) H2) Hn∧OwnedM C (joinM (joinM (joinM (joinM (joinM X Hs) He) HE) H2) Hn) H∧Refs H ps (colsT t)∧Refs Hn qs ((colsT t).take j)∧σ=⟨[(0,Lp 1000000),(3,Lp 3),(33,.sv (.one (vS ptad ps.length ptcap))),(34,Ln .i64 (ps.length:Nat)),(35,Ln .i64 (j:Nat))],[arB 603 ((pvs qs++npt (ps.length-j)).map .val),tO 3 t (.val v2) (.val (.slice (some ⟨cb2,0,none⟩) nc cc2)) (.slc 603 0 ps.length 1),tS 1000000 t (.val vE) (.slice (some ⟨cb,0,none⟩) nc cc) (.slice ptad ps.length ptcap)],joinM (joinM (joinM (joinM (joinM (joinM X Hs) He) HE) H2) Hn) H⟩) ps.length
  (cC (σ':=⟨[(0,Lp 1000000),(3,Lp 3),(33,.sv (.one (vS ptad ps.length ptcap))),(34,Ln .i64 (ps.length:Nat)),(35,Ln .i64 (0:Nat))],[arB 603 ((pvs []++npt (ps.length-0)).map .val),tO 3 t (.val v2) (.val (.slice (some ⟨cb2,0,none⟩) nc cc2)) (.slc 603 0 ps.length 1),tS 1000000 t (.val vE) (.slice (some ⟨cb,0,none⟩) nc cc) (.slice ptad ps.length ptcap)],joinM (joinM (joinM (joinM (joinM X Hs) He) HE) H2) Hr⟩) (Le.ofR [(603,28)] V12 V1 V2 V2 V0 V2 V2) (cA ⟨0,[],fun _=>none,Hr,by omega,by omega,OwnedM.nil _ _,by rw [joinM_nil];exact b2,hI.refs,Refs.nil _,by rw [joinM_nil]⟩)) ?_
 rintro m σ ⟨j,qs,Hn,H,hj,rfl,hOn,hO,hR,hRn,rfl⟩
 have hqs:qs.length=j:=by rw [hRn.len,cX];have:=hR.len;omega
 by_cases hlt:j<ps.length
 ·obtain ⟨c,hc⟩:∃ c,(onlyC t.sc.cs t.set)[j]? = some c:=wg V3
  obtain ⟨b,hb⟩:=wg hlt
  obtain ⟨pblk,parr,pel,pfr,rfl,hPX,hPa⟩:=hPt j b hb
  have hPX2:joinM (joinM (joinM (joinM (joinM (joinM X Hs) He) HE) H2) Hn) H pblk=some (.cells parr pel pfr):=joinM_has hO (joinM_has hOn (joinM_has b1 (joinM_has a1 (hYs _ _ hPX))))
  have hio:0+Int.toNat (j:Int)*1=j:=by simp
  have hadd:=wi j V3
  refine U17 ?_
  refine LWP.le (σ':=⟨[(4,Ln .i64 (j:Nat)),(5,Vp b),(0,Lp 1000000),(3,Lp 3),(33,.sv (.one (vS (some ⟨pblk,0,none⟩) ps.length ptcap))),(34,Ln .i64 (ps.length:Nat)),(35,Ln .i64 (j:Nat))],[arB 603 ((pvs qs++npt (ps.length-j)).map .val),tO 3 t (.val v2) (.val (.slice (some ⟨cb2,0,none⟩) nc cc2)) (.slc 603 0 ps.length 1),tS 1000000 t (.val vE) (.slice (some ⟨cb,0,none⟩) nc cc) (.slice (some ⟨pblk,0,none⟩) ps.length ptcap)],joinM (joinM (joinM (joinM (joinM (joinM X Hs) He) HE) H2) Hn) H⟩) (Le.of V1D V9 V2 V2 V0) ?_
  refine tcol_open (kk:=501) hO hR (colsG_at hc) O V16 O V3 fun b' H0 hb' hO0 hback => ?_
  rw [hb] at hb'
  cases hb'
  have hg:=(cClone_spec (joinM (joinM (joinM (joinM (joinM (joinM X Hs) He) HE) H2) Hn) H0) (rowSize c.fs) t.most (colL t.l j c)).at (b:=b)
  have hroot:=colR_root (rowSize c.fs) t.most (colL t.l j c)
  have hset:(colsT t).set j (colR (rowSize c.fs) t.most (colL t.l j c))=colsT t:=colsG_set hc fun _ _ _ _=>rfl
  have hblt:Nat.blt j ((pvs qs++npt (ps.length-j)).map CV.val).length=true:=by rw [Nat.blt_eq,cU,cT,pvs_len,dB];omega
  have hput:((pvs qs++npt (ps.length-j)).map CV.val).set j (.ptr 601 0)=(pvs qs).map .val ++ .ptr 601 0::(npt (ps.length-(j+1))).map .val:=by
   rw [dE,List.map_replicate,List.map_replicate]
   exact fill_put (by rw [cU,pvs_len];exact hqs) hlt
  (refine rgD mixed ?_;refine U4 ?_;refine bE [(1000000,501),(1000001,601)] (Lp 601) [atB 501 b (rowSize c.fs) t.most (colL t.l j c),cB 601 (rowSize c.fs) t.most (colL t.l j c)] (hg) O O V7 VE O O O O (by exact (.box O O (.box O O .nil))) dO ?_;refine U1 ?_;refine bG O O O O hblt hput dO ?_;refine U6 ?_)
  refine cC (σ':=⟨[(0,Lp 1000000),(3,Lp 3),(33,.sv (.one (vS (some ⟨pblk,0,none⟩) ps.length ptcap))),(34,Ln .i64 (ps.length:Nat)),(35,Ln .i64 (j+1:Nat))],[atB 501 b (rowSize c.fs) t.most (colL t.l j c),arB 603 ((pvs qs).map .val ++ .ptr 601 0::(npt (ps.length-(j+1))).map .val),cB 601 (rowSize c.fs) t.most (colL t.l j c),tO 3 t (.val v2) (.val (.slice (some ⟨cb2,0,none⟩) nc cc2)) (.slc 603 0 ps.length 1),tS 1000000 t (.val vE) (.slice (some ⟨cb,0,none⟩) nc cc) (.slice (some ⟨pblk,0,none⟩) ps.length ptcap)],joinM (joinM (joinM (joinM (joinM (joinM X Hs) He) HE) H2) Hn) H0⟩) (Le.of V12 V12 V2 V2 V0) ?_
  refine tcol_shut hO0 hroot O (by repeat' (first|refine bS ?_ ?_|rfl|exact bT|exact bV O)) O fun m' Hc' g1 g2 g3 g4 => ?_
  have hB:=hback _ m' Hc' g1 g2 g3
  rw [hset] at hB
  refine Leads.fixRsc (k:=601) (s:=[(0,Lp 1000000),(3,Lp 3),(33,.sv (.one (vS (some ⟨pblk,0,none⟩) ps.length ptcap))),(34,Ln .i64 (ps.length:Nat)),(35,Ln .i64 (j+1:Nat))]) (bx:=[tO 3 t (.val v2) (.val (.slice (some ⟨cb2,0,none⟩) nc cc2)) (.slc 603 0 ps.length 1),tS 1000000 t (.val vE) (.slice (some ⟨cb,0,none⟩) nc cc) (.slice (some ⟨pblk,0,none⟩) ps.length ptcap)]) (s0:=[]) (b0:=[arB 603 ((pvs qs).map .val ++ .ptr 601 0::(npt (ps.length-(j+1))).map .val)]) V27 V27 V27 V27 (by refine bS ?_ rfl;exact fixIn_mid _ _) fun ρ Hc2 k1 k2 => ?_
  obtain ⟨bn,mn⟩:=ρ
  obtain ⟨q1,q2,q3⟩:=OwnedM.swap g4 k2
  have hpush:=hRn.push k1 (hroot _ _ k1) fun x hx=>own_far q1 hx
  have htk:(colsT t).take (j+1)=(colsT t).take j++[colR (rowSize c.fs) t.most (colL t.l j c)]:=take_snoc (colsG_at hc)
  rw [q3,joinM_join _ Hn Hc2]
  refine cA ⟨ps.length-(j+1),by omega,j+1,qs++[bn],joinM Hn Hc2,_,by omega,rfl,hOn.join q1,by rw [← joinM_join];exact q2,hB,by rw [htk];exact hpush,?_⟩
  have hcells:((pvs qs).map CV.val ++ .ptr 601 0::(npt (ps.length-(j+1))).map CV.val).map (CV.fix 601 bn)=(pvs (qs++[bn])++npt (ps.length-(j+1))).map CV.val:=by
   rw [fix_mid]
   unfold pvs
   simp
  show (⟨[]++_,[arB 603 (((pvs qs).map CV.val ++ .ptr 601 0::(npt (ps.length-(j+1))).map CV.val).map (CV.fix 601 bn))]++_,_⟩:St)=_
  rw [hcells];rfl
 ·have e:j=ps.length:=by omega
  subst e
  rw [List.take_of_length_le (by rw [hR.len];exact dK _)] at hRn
  refine U12 ?_
  refine cC (σ':=⟨[(2,Lp 3)],[(3,some ⟨92,[.val (.int .u32 (t.set:Nat)),.val (.int .i64 (t.most:Nat)),.val (.int .i64 (t.kept:Nat)),.val v2,.val (.int .i64 t.sc.ver),.val (.slice (some ⟨cb2,0,none⟩) nc cc2)] ++ .slc 603 0 qs.length 1::[],false⟩),(603,some ⟨97,(pvs qs).map .val,false⟩),tS 1000000 t (.val vE) (.slice (some ⟨cb,0,none⟩) nc cc) (.slice ptad ps.length ptcap)],joinM (joinM (joinM (joinM (joinM (joinM (joinM X Hs) He) HE) H2) Hn) H) (fun _=>none)⟩) (by
   rw [joinM_nil,hqs]
   rw [Nat.sub_self,show npt 0=[] from rfl,dG]
   exact Le.of VF V9 V2 V2 V0) ?_
  refine Leads.closeCell (OwnedM.nil _ _) (by rw [pvs_len];omega) rfl rfl rfl rfl rfl rfl fun ba oa va _ _ hOa hva => ?_
  generalize withBlock (fun _=>none) ba oa=HA at *
  obtain ⟨⟨p1,p2,p3,p4,p5,_⟩,pe⟩:=ownL_perm (C:=C) (l:=[HE,H2,Hn,H,HA]) (l':=[H,H2,HA,HE,Hn]) ((by decide:[0,1,2,3,4].Perm [3,1,4,0,2]).map fun i:Nat=>[HE,H2,Hn,H,HA].getD i HE) (joinM (joinM X Hs) He) ⟨a1,b1,hOn,hO,hOa,trivial⟩
  rw [show joinM (joinM (joinM (joinM (joinM (joinM (joinM X Hs) He) HE) H2) Hn) H) HA=joinL (joinM (joinM X Hs) He) [HE,H2,Hn,H,HA] from rfl,pe]
  refine cC (σ':=⟨[(2,Lp 3)],[tS 3 t (.val v2) (.slice (some ⟨cb2,0,none⟩) nc cc2) va,tS 1000000 t (.val vE) (.slice (some ⟨cb,0,none⟩) nc cc) (.slice ptad ps.length ptcap)],tH (tH X Hs He H) (joinM H2 HA) HE Hn⟩) (by
   unfold tH
   rw [← joinM_join]
   exact Le.of VF VA V2 V2 V0) ?_
  have p4':OwnedM C (joinM (joinM (joinM (joinM X Hs) He) H) (joinM H2 HA)) HE:=by rw [← joinM_join];exact p4
  have p5':OwnedM C (joinM (joinM (joinM (joinM (joinM X Hs) He) H) (joinM H2 HA)) HE) Hn:=by rw [← joinM_join];exact p5
  refine tab_shut (t:=t) (p2.join p3) p4' p5' ⟨⟨cb2,cc2,by rw [hnc],hin2.mono (Go.Lg.joinM_keeps p3)⟩,(ptrs_leads hva).mono fun b o h=>joinM_in h,hRn,hE2,hI.two⟩ ?_
  refine cC (σ':=⟨[(2,Lp 3)],[tS 1000000 t (.val vE) (.slice (some ⟨cb,0,none⟩) nc cc) (.slice ptad ps.length ptcap),tB 3 t],tH X Hs He H⟩) (Le.of VF VA V2 V2 V0) ?_
  refine tab_shut (t:=t) h1 h2 p1 ⟨⟨cb,cc,by rw [hnc],hin⟩,hptr,hR,hE,hI.two⟩ (cA ?_)
  exact ⟨[(1000001,3)],⟨[_],⟨O,trivial⟩,O⟩,V1,O,O⟩
end Go.Proofs.YtbpdbclndfmcgaaGreatDoor
end
section
set_option maxHeartbeats 12800000
set_option maxRecDepth 100000
namespace Go.Proofs.YtbpdbclndfmcgaaGreatDoor
open Go Go.Lg Go.Lg.Fld Go.Lg.Sg Go.Lg.Col
set_option maxRecDepth 100000
abbrev Zp:=Cp×Value
def rowsP (zs:List Zp):List Value:=rowsZ (zs.map (·.1)) (zs.map (·.2))
theorem rowsP_len (zs:List Zp):(rowsP zs).length=zs.length*3:=by
 unfold rowsP
 rw [rowsZ_len (by rw [cU,cU]),cU]
theorem rowsP_app (a b:List Zp):rowsP (a++b)=rowsP a++rowsP b:=by
 unfold rowsP
 rw [dE,dE,rowsZ_app (by rw [cU,cU])]
theorem rowsP_cons (z:Zp) (l:List Zp):rowsP (z::l)=[.int .i64 z.1.id,.string ⟨z.1.nm.toArray⟩,z.2]++rowsP l:=rfl
theorem rowsZ_zip {cs:List Cp} {cells:List Value} (h:cells.length=cs.length):rowsZ cs cells=rowsP (cs.zip cells):=by
 unfold rowsP
 rw [List.map_fst_zip (by omega),List.map_snd_zip (by omega)]
abbrev kept (keep:Cp→Bool) (zs:List Zp):List Zp:=zs.filter fun z=>keep z.1
variable (X:Nat→Option Obj)
theorem idxP_lent {S:Nat→Option (Option Box)} {el fel:TypeId} {row:Bool} {zs:List Zp} {k:Nat} (hk:S k=some (some ⟨el,(rowsP zs).map .val,row⟩)) (hG:∀ z∈zs,SliceZ X z.2 fel 3 (flV z.1.fs)) (hb:InB (zs.map (·.1))) (hn:zs.length≤65536) (f:FuncId) (caps:List Value) (p:Cp→Bool)
  (hp:∀ Y:Nat→Option Obj,(∀ b o,X b=some o→Y b=some o)→∀ (c:Cp) fad fcap,PSpec Tryz.prog Y f ([Cx c fad fcap]++caps.map fun v=>.sv (.one (.val v))) (Lb (p c))):
  ∀ (Y:Nat→Option Obj) (us:List Value),(∀ b o,X b=some o→Y b=some o)→LentLs S Y [.sv (.one (.slc k 0 zs.length 3)),Lf f caps] us→PSpec Tryz.prog Y 80 (us.map toLV) (Ln .i64 (findI p (zs.map (·.1)))):=by
 intro Y us hY hL
 obtain ⟨u1,us1,rfl,⟨b,blk,cap2,m,hk',rfl,hc,hfit,hB⟩,u2,us2,rfl,h2,rfl⟩:=hL
 rw [hk] at hk'
 simp only [Option.some.injEq] at hk'
 subst hk'
 obtain ⟨arr,fr,us',sp,hYb,hsz,harr,hv⟩:=hB
 have:=hv _ rfl
 subst this
 have h2:u2 = .func (.func f) #[] caps.toArray:=h2
 subst h2
 have hin:CompsIn Y (some ⟨blk,0,none⟩) (zs.map (·.1)):=comps_block (fel:=fel) hYb harr (by rw [cU,cU]) hb fun i c v hc hv=>by
  rw [dI] at hc hv
  obtain ⟨z,hz,rfl⟩:=Option.map_eq_some_iff.1 hc
  rw [hz] at hv
  simp only [Option.map_some,Option.some.injEq] at hv
  subst hv
  have hs:=hG z (dA hz)
  refine hs.mono fun b hb' => ?_
  have hne:=hs.some_of hb'
  cases hx:X b with
  | none=>exact absurd hx hne
  | some o=>exact hY b o hx
 have:=idxC_spec Y (some ⟨blk,0,none⟩) cap2 (zs.map (·.1)) hin V26 f caps p fun c _=>hp Y hY c
 rw [cU] at this
 exact this
set_option maxHeartbeats 6400000 in
theorem delC (zs:List Zp) {fel:TypeId} (hG:∀ z∈zs,SliceZ X z.2 fel 3 (flV z.1.fs)) (hb:InB (zs.map (·.1))) (hn:zs.length≤65536) (rw_:Bool) (f:FuncId) (caps:List Value) (keep:Cp→Bool)
  (hp:∀ Y:Nat→Option Obj,(∀ b o,X b=some o→Y b=some o)→∀ (c:Cp) fad fcap,PSpec Tryz.prog Y f ([Cx c fad fcap]++caps.map fun v=>.sv (.one (.val v))) (Lb (!keep c))):
  MSpec Tryz.prog X 70 [.sv (.one (.slc 1000000 0 zs.length 3)),Lf f caps] [(1000000,some ⟨86,(rowsP zs).map .val,rw_⟩)] (.sv (.one (.slc 1000000 0 (kept keep zs).length 3)))
   [(1000000,some ⟨86,(rowsP (kept keep zs)++zer (zs.length-(kept keep zs).length)).map .val,rw_⟩)]:=by
 have hidx:∀ {S:Nat→Option (Option Box)} {row:Bool},S 1000000=some (some ⟨86,(rowsP zs).map .val,row⟩)→_:=fun {S row} hk=>idxP_lent X (S:=S) (row:=row) hk hG hb hn f caps (fun c => !keep c) hp
 refine cE Tryz.func70 rfl V5 rfl rfl V4 rfl rfl ?_
 intro C
 cases hfi:(zs.map (·.1)).findIdx? (fun c => !keep c) with
 | none =>
  have hall:kept keep zs=zs:=List.filter_eq_self.2 fun z hz=>by
   have:=List.findIdx?_eq_none_iff.1 hfi z.1 (List.mem_map.2 ⟨z,hz,rfl⟩)
   simpa using this
  rw [hall,Nat.sub_self,show zer 0=[] from rfl,dG]
  have hI:findI (fun c => !keep c) (zs.map (·.1)) = -1:=by unfold findI;rw [hfi]
  rw [hI] at hidx
  (refine U8 ?_;refine K.callL [1000000] O O O (hidx O) dO ?_;refine U6 ?_;refine keq O O (r:=true) O ?_;refine U8 ?_)
  exact ⟨[],⟨[_],⟨O,trivial⟩,O⟩,V1,O,O⟩
 | some i0 =>
  obtain ⟨hi0,h1,h2⟩:=List.findIdx?_eq_some_iff_getElem.1 hfi
  rw [cU] at hi0
  have hI:findI (fun c => !keep c) (zs.map (·.1))=(i0:Nat):=by unfold findI;rw [hfi]
  rw [hI] at hidx
  have hadd:=wi i0 V3
  obtain ⟨z0,hz0⟩:=wg hi0
  have hk0:keep z0.1=false:=by
   have e:z0=zs[i0]:=by rw [cV hi0] at hz0;exact (Option.some.inj hz0).symm
   rw [List.getElem_map] at h1
   rw [e];simpa using h1
  have hpre:kept keep (zs.take i0)=zs.take i0:=List.filter_eq_self.2 fun z hz=>by
   obtain ⟨j,hj,e⟩:=List.mem_take_iff_getElem.1 hz
   have:=h2 j V3
   rw [List.getElem_map] at this
   rw [← e];simpa using this
  have hF0:kept keep (zs.take (i0+1))=zs.take i0:=by
   rw [take_snoc hz0]
   show (zs.take i0++[z0]).filter _=_
   rw [List.filter_append,show (zs.take i0).filter (fun z=>keep z.1)=zs.take i0 from hpre,List.filter_cons,if_neg (by rw [hk0];decide)]
   simp
  have hlt0:(zs.take i0).length=i0:=by rw [cX];omega
  (refine U8 ?_;refine K.callL [1000000] O O O (hidx O) dO ?_;refine U6 ?_;refine keq O O (r:=false) (cO V3) ?_;refine U11 ?_)
  refine cH (fun m σ=>∃ (j:Nat) (mid:List Value),j≤zs.length∧m=zs.length-j∧(kept keep (zs.take j)).length<j∧mid.length=(j-(kept keep (zs.take j)).length)*3∧σ=⟨[(0,.sv (.one (.slc 1000000 0 zs.length 3))),(1,Lf f caps),(5,Ln .i64 ((kept keep (zs.take j)).length:Nat)),(6,Ln .i64 (j:Nat))],[(1000000,some ⟨86,(rowsP (kept keep (zs.take j))++(mid++rowsP (zs.drop j))).map .val,rw_⟩)],X⟩) (zs.length-(i0+1))
   ⟨⟨[(0,.sv (.one (.slc 1000000 0 zs.length 3))),(1,Lf f caps),(5,Ln .i64 (i0:Nat)),(6,Ln .i64 (i0+1:Nat))],[(1000000,some ⟨86,(rowsP zs).map .val,rw_⟩)],X⟩,Le.of VD VF V2 V2 V0,i0+1,[.int .i64 z0.1.id,.string ⟨z0.1.nm.toArray⟩,z0.2],by omega,by omega,by rw [hF0,hlt0];omega,by rw [hF0,hlt0,Nat.add_sub_cancel_left];rfl,by
    rw [hF0,hlt0,← rowsP_cons,← rowsP_app,← mid_of hz0]⟩ ?_
  rintro m σ ⟨j,mid,hj,rfl,hij,hmid,rfl⟩
  by_cases hlt:j<zs.length
  ·obtain ⟨z,hz⟩:=wg hlt
   obtain ⟨c,v⟩:=z
   obtain ⟨fad,fcap,hv,_⟩:=leaf_in (hG _ (dA hz)) (hb c (List.mem_map.2 ⟨_,dA hz,rfl⟩)).2
   have hv:v = .slice fad c.fs.length fcap:=hv
   subst hv
   have hP:=hp X (fun _ _ h=>h) c fad fcap
   have hdrop:zs.drop j=(c,.slice fad c.fs.length fcap)::zs.drop (j+1):=(drop_at hz)
   have hsn:=take_snoc hz
   have hadd2:=wi j V3
   have hix:0+Int.toNat ((j:Nat):Int)*3=j*3:=by rw [dD];omega
   have hfl:(rowsP (kept keep (zs.take j))++mid).length=j*3:=by rw [cT,rowsP_len,hmid];omega
   have hlen:(rowsP (kept keep (zs.take j))++(mid++rowsP (zs.drop j))).length=zs.length*3:=by rw [← dJ,cT,hfl,rowsP_len,cY];omega
   have hbl:Nat.ble (j*3+3) ((rowsP (kept keep (zs.take j))++(mid++rowsP (zs.drop j))).map CV.val).length=true:=by rw [Nat.ble_eq,cU,hlen];omega
   have hcs:(((rowsP (kept keep (zs.take j))++(mid++rowsP (zs.drop j))).map CV.val).drop (j*3)).take 3=[.val (.int .i64 c.id),.val (.string ⟨c.nm.toArray⟩),.val (.slice fad c.fs.length fcap)]:=by
    rw [← List.map_drop,← dJ,← hfl,List.drop_left,hdrop,rowsP_cons,← List.map_take];rfl
   cases hkp:keep c with
   | true =>
    rw [hkp] at hP
    have hF1:kept keep (zs.take (j+1))=kept keep (zs.take j)++[(c,.slice fad c.fs.length fcap)]:=by
     rw [hsn]
     show (zs.take j++[_]).filter _=_
     rw [List.filter_append,List.filter_cons,if_pos hkp];rfl
    obtain ⟨m0,m1,m2,mid',rfl⟩:∃ m0 m1 m2 mid',mid=m0::m1::m2::mid':=by
     match mid,hmid with
     | m0::m1::m2::mid',_=>exact ⟨m0,m1,m2,mid',rfl⟩
     | [],h=>simp at h;omega
     | [_],h=>simp at h;omega
     | [_,_],h=>simp at h;omega
    have hixi:0+Int.toNat (((kept keep (zs.take j)).length:Nat):Int)*3=(kept keep (zs.take j)).length*3:=by rw [dD];omega
    have hroom:(kept keep (zs.take j)).length*3+3≤((rowsP (kept keep (zs.take j))++(m0::m1::m2::mid'++rowsP (zs.drop j))).map CV.val).length:=by rw [cU,hlen];omega
    have hspl:splice ((rowsP (kept keep (zs.take j))++(m0::m1::m2::mid'++rowsP (zs.drop j))).map CV.val) ((kept keep (zs.take j)).length*3) [.val (.int .i64 c.id),.val (.string ⟨c.nm.toArray⟩),.val (.slice fad c.fs.length fcap)]=(rowsP (kept keep (zs.take (j+1)))++((mid'++[Value.int .i64 c.id,Value.string ⟨c.nm.toArray⟩,Value.slice fad c.fs.length fcap])++rowsP (zs.drop (j+1)))).map CV.val:=by
     rw [hF1,rowsP_app,hdrop,rowsP_cons,rowsP_cons,show rowsP []=[] from rfl]
     have hml:((rowsP (kept keep (zs.take j))).map CV.val).length=(kept keep (zs.take j)).length*3:=by rw [cU,rowsP_len]
     unfold splice
     simp only [dE,List.map_cons,List.map_nil,dJ,List.cons_append,List.nil_append]
     generalize (rowsP (kept keep (zs.take j))).map CV.val=R at *
     rw [← hml,List.take_left,List.drop_length_add_append]
     simp
    have haddi:IntKind.i64.wrap ((((kept keep (zs.take j)).length:Nat):Int)+1)=(((kept keep (zs.take (j+1))).length:Nat):Int):=by rw [hF1,cT,cF V3];simp
    have hi1:(kept keep (zs.take (j+1))).length=(kept keep (zs.take j)).length+1:=by rw [hF1,cT];rfl
    generalize (kept keep (zs.take j)).length=i at *
    generalize (rowsP (kept keep (zs.take j))++(m0::m1::m2::mid'++rowsP (zs.drop j)))=cells at *
    (refine aA<|aA<|rgN<|kmv O<|kmv O<|K.lenSlc O bZ O dO ?_;refine klt O O (cM V3)<|RunK.nil<|LWP.condT O ?_;refine LWP.skip ?_;refine aA<|LWP.block<|aA<|rgN<|kmv O<|kmv O<|K.indexSlc O O V3 hix dO ?_;refine bJ O O hbl hcs dO ?_;refine K.alloc O dO ?_;refine K.storeAll O O O O O O dO ?_;refine RunK.nil<|aA<|rgN<|kmv O<|K.loadAll O O O dO ?_;refine K.callF O O O hP dO ?_;refine K.not O O dO<|RunK.nil<|LWP.condT O ?_;refine aA<|rgN<|kmv O<|kmv O<|K.loadAll O O O dO ?_;refine K.indexSlc O O V3 hixi dO ?_;refine K.store O O O O V5 hroom hspl dO<|RunK.nil<|rgN<|kmv O<|kad O O haddi<|kas O<|RunK.nil<|rgN<|kmv O<|kad O O hadd2<|kas O<|RunK.nil ?_)
    refine ⟨_,⟨[(0,.sv (.one (.slc 1000000 0 zs.length 3))),(1,Lf f caps),(5,Ln .i64 ((kept keep (zs.take (j+1))).length:Nat)),(6,Ln .i64 (j+1:Nat))],[(1000000,some ⟨86,(rowsP (kept keep (zs.take (j+1)))++((mid'++[Value.int .i64 c.id,Value.string ⟨c.nm.toArray⟩,Value.slice fad c.fs.length fcap])++rowsP (zs.drop (j+1)))).map CV.val,rw_⟩)],X⟩,(by omega:zs.length-(j+1)<zs.length-j),Le.of VD VF V2 V2 V0,j+1,mid'++[Value.int .i64 c.id,Value.string ⟨c.nm.toArray⟩,Value.slice fad c.fs.length fcap],by omega,O,by omega,?_,O⟩
    simp only [dF] at hmid
    rw [cT,hi1]
    simp only [dF,dL]
    omega
   | false =>
    rw [hkp] at hP
    have hF1:kept keep (zs.take (j+1))=kept keep (zs.take j):=by
     rw [hsn]
     show (zs.take j++[_]).filter _=_
     rw [List.filter_append,List.filter_cons,if_neg (by rw [hkp];decide)];simp
    have hcells:(rowsP (kept keep (zs.take j))++(mid++rowsP (zs.drop j)))=rowsP (kept keep (zs.take (j+1)))++((mid++[Value.int .i64 c.id,Value.string ⟨c.nm.toArray⟩,Value.slice fad c.fs.length fcap])++rowsP (zs.drop (j+1))):=by
     rw [hF1,hdrop,rowsP_cons];simp
    have hi1:(kept keep (zs.take (j+1))).length=(kept keep (zs.take j)).length:=by rw [hF1]
    rw [← hi1]
    rw [hcells] at hbl hcs ⊢
    generalize hii:(kept keep (zs.take (j+1))).length=i at *
    generalize hcc:(rowsP (kept keep (zs.take (j+1)))++((mid++[Value.int .i64 c.id,Value.string ⟨c.nm.toArray⟩,Value.slice fad c.fs.length fcap])++rowsP (zs.drop (j+1))))=cells at *
    (refine U17 ?_;refine bJ O O hbl hcs dO ?_;refine U7 ?_;refine K.callF O O O hP dO ?_;refine U9 ?_)
    refine ⟨_,⟨[(0,.sv (.one (.slc 1000000 0 zs.length 3))),(1,Lf f caps),(5,Ln .i64 (i:Nat)),(6,Ln .i64 (j+1:Nat))],[(1000000,some ⟨86,cells.map CV.val,rw_⟩)],X⟩,(by omega:zs.length-(j+1)<zs.length-j),Le.of VD VF V2 V2 V0,j+1,mid++[Value.int .i64 c.id,Value.string ⟨c.nm.toArray⟩,Value.slice fad c.fs.length fcap],by omega,rfl,by omega,?_,by rw [hii,hcc]⟩
    rw [cT,hmid,hii]
    simp only [dF,dL]
    omega
  ·have e:j=zs.length:=by omega
   subst e
   have htk:zs.take zs.length=zs:=dC
   rw [htk] at hij hmid ⊢
   have hmk:MadeOf Tryz.prog 22 86 3 48 [Value.int .i64 0,Value.string ⟨#[]⟩,Value.slice none 0 0]:=⟨by kernel_rfl,by kernel_rfl,rfl⟩
   have hcl:(rowsP (kept keep zs)++(mid++rowsP (zs.drop zs.length)))=rowsP (kept keep zs)++mid:=by rw [List.drop_length];show _++(mid++[])=_;rw [dG]
   rw [hcl]
   have hlen:(rowsP (kept keep zs)++mid).length=zs.length*3:=by rw [cT,rowsP_len,hmid];omega
   have hoff:0+(kept keep zs).length*3=(kept keep zs).length*3:=Nat.zero_add _
   have hroom:(kept keep zs).length*3+(zs.length-(kept keep zs).length)*3≤((rowsP (kept keep zs)++mid).map CV.val).length:=by rw [cU,hlen];omega
   have hclr:splice ((rowsP (kept keep zs)++mid).map CV.val) ((kept keep zs).length*3) ((List.replicate (zs.length-(kept keep zs).length) [Value.int .i64 0,Value.string ⟨#[]⟩,Value.slice none 0 0]).flatten.map CV.val)=(rowsP (kept keep zs)++zer (zs.length-(kept keep zs).length)).map CV.val:=by
    have hzl:((zer (zs.length-(kept keep zs).length)).map CV.val).length=(zs.length-(kept keep zs).length)*3:=by rw [cU,zer_len]
    have hml:((rowsP (kept keep zs)).map CV.val).length=(kept keep zs).length*3:=by rw [cU,rowsP_len]
    show splice _ _ ((zer (zs.length-(kept keep zs).length)).map CV.val)=_
    unfold splice
    rw [dE,dE,← hml,List.take_left,List.drop_eq_nil_of_le (by rw [cT,hml,hzl,cU,hmid];omega),dG]
   generalize (kept keep zs).length=i at *
   generalize rowsP (kept keep zs)++mid=cells at *
   (refine U14 ?_;refine K.cutLoSlc O O bZ V3 hoff O dO ?_;refine K.clearSlc O O hmk O hroom V3 hclr dO ?_;refine U5 ?_;refine K.cutSlc O O bZ V3 dO ?_;refine U3 ?_)
   exact ⟨[],⟨[_],⟨O,trivial⟩,O⟩,V1,O,O⟩
end Go.Proofs.YtbpdbclndfmcgaaGreatDoor
end
section
set_option maxHeartbeats 12800000
set_option maxRecDepth 100000
namespace Go.Proofs.YtbpdbclndfmcgaaGreatDoor
open Go Go.Lg Go.Lg.Fld Go.Lg.Sg Go.Lg.Col
set_option maxRecDepth 100000
def cmR (cs:List Cp):Rsc:=⟨fun ρ H=>(∃ (arr:Array Value) (fr:Nat×Nat),H ρ.1=some (.cells arr 86 fr)∧arr.size=ρ.2)∧CompsIn H (some ⟨ρ.1,0,none⟩) cs⟩
abbrev cmB (k:Nat) (cs:List Cp):Nat×Option Box:=(k,some ⟨0,[],.res (cmR cs)⟩)
variable (X:Nat→Option Obj)
theorem only1_spec (set:Nat) (hset:set<4294967296) (c:Cp) (fad:Option Addr) (fcap:Nat) {b:Nat} {arr:Array Value} {el:TypeId} {fr:Nat×Nat} (hX:X b=some (.cells arr el fr)) (h0:arr[0]? = some (.int .u32 (set:Nat))):
  PSpec Tryz.prog X 71 [Cx c fad fcap,Vp b] (Lb (!hasB set c.id)):=by
 have hh:=gHas X set hset c.id
 refine cD Tryz.func71 rfl V5 rfl rfl ?_
 intro C
 generalize hasB set c.id=q at *
 cases q with
 | true =>
  refine U15 ?_
  exact V6
 | false =>
  refine U15 ?_
  exact V6
set_option maxHeartbeats 6400000 in
theorem only0 (ver:Int) (ad:Option Addr) (cap:Nat) (cs:List Cp) (set:Nat) (hset:set<4294967296) (hin:CompsIn X ad cs) (hn:cs.length≤65536) (hfb:∀ c∈cs,c.fs.length≤4398046511104):
  MSpec Tryz.prog X 38 [Sx ver ad cs.length cap,Ln .u32 (set:Nat)] [] (.sv (.agg [.val (.int .i64 ver),.slc 1000001 0 (onlyC cs set).length 3])) [cmB 1000001 (onlyC cs set)]:=by
 refine cE Tryz.func38 rfl V5 rfl rfl V4 rfl rfl ?_
 intro C
 refine LWP.ends ?_
 (refine U3 ?_;refine K.box1 O O O dO ?_;refine U3 ?_)
 refine LWP.le (σ':=⟨[(3,Lp 3),(2,Lp 2),(4,Lp 4)],[(3,some ⟨31,[Value.int .u32 (set:Nat)].map .val,false⟩),sxB 2 ver ad cs.length cap,(4,some ⟨24,[.val (.int .i64 0),.val (.slice none 0 0)],false⟩)],X⟩) (Le.of V9 V9 V2 V2 V0) ?_
 refine LWP.freezePtr V27 V27 V27 fun b arr0 fr0 hnb hF0 h0 => ?_
 have hb0:(withBlock X b (.cells arr0 31 fr0)) b=some (.cells arr0 31 fr0):=cK X b _
 have hin':=hin.mono (cG (o:=.cells arr0 31 fr0) hnb)
 have hdr:∀ x o,X x=some o→withBlock X b (.cells arr0 31 fr0) x=some o:=cG hnb
 generalize withBlock X b (.cells arr0 31 fr0)=Y at *
 have hCl:=pCloneBig Y ver ad cap cs hin' hn hfb
 (refine U2 ?_;refine bE [(1000001,602)] (.sv (.agg [.val (.int .i64 ver),.slc 602 0 cs.length 3])) [scB 602 cs] (hCl) O O V15 O O O O O VB dO ?_;refine U3 ?_)
 refine LWP.le (σ':=⟨[(3,Vp b),(2,Lp 2),(4,Lp 4)],[scB 602 cs,(2,some ⟨24,[.val (.int .i64 ver),.slc 602 0 cs.length 3],false⟩),(4,some ⟨24,[.val (.int .i64 0),.val (.slice none 0 0)],false⟩)],Y⟩) (Le.of V9 V9 V2 V2 V0) ?_
 refine LWP.openRes (scR_root cs) fun ρ H vals el fr hR hv hO => ?_
 obtain ⟨arr,fr',cells,sp,h1,h2,h3,G,hInb⟩:=hR
 rw [hv] at h1
 simp only [Option.some.injEq,Obj.cells.injEq] at h1
 obtain ⟨rfl,rfl,rfl⟩:=h1
 have hcl:cells.length=cs.length:=by rw [G.len,cU]
 rw [h3,rowsZ_zip hcl]
 have hzf:(cs.zip cells).map (·.1)=cs:=List.map_fst_zip V3
 have hzl:(cs.zip cells).length=cs.length:=by rw [List.length_zip];omega
 have hGz:∀ z∈cs.zip cells,SliceZ (cutM H ρ.1) z.2 125 3 (flV z.1.fs):=fun z hz=>by
  obtain ⟨i,hi⟩:=List.mem_iff_getElem?.1 hz
  obtain ⟨g1,g2⟩:=List.getElem?_zip_eq_some.1 hi
  exact G.at_ i z.2 _ V24 g2 (by rw [dI,g1];rfl)
 have hGy:∀ z∈cs.zip cells,SliceZ (joinM Y (cutM H ρ.1)) z.2 125 3 (flV z.1.fs):=fun z hz=>by
  have hs:=hGz z hz
  refine hs.mono fun b hb => ?_
  have hne:=hs.some_of hb
  cases hc:cutM H ρ.1 b with
  | none=>exact absurd hc hne
  | some o=>exact joinM_in hc
 have hOc:=hO.cut ρ.1
 generalize hzs:cs.zip cells=zs at *
 have hdel:=delC (joinM Y (cutM H ρ.1)) zs hGy (by rw [hzf];exact hInb) V3 true 71 [.pointer (some ⟨b,0,none⟩)] (fun c=>hasB set c.id) fun Z hZ c fad fcap=>only1_spec Z set hset c fad fcap (hZ _ _ (joinM_has hOc hb0)) (at_zero h0)
 have hkf:(kept (fun c=>hasB set c.id) zs).map (·.1)=onlyC cs set:=by
  unfold onlyC kept
  rw [← hzf,List.filter_map];rfl
 have hkl:(kept (fun c=>hasB set c.id) zs).length=(onlyC cs set).length:=by rw [← hkf,cU]
 refine LWP.le (σ':=⟨[(3,Vp b),(2,Lp 2),(4,Lp 4)],[(602,some ⟨86,(rowsP zs).map CV.val++sp.map CV.val,false⟩),(2,some ⟨24,[.val (.int .i64 ver),.slc 602 0 cs.length 3],false⟩),(4,some ⟨24,[.val (.int .i64 0),.val (.slice none 0 0)],false⟩)],joinM Y (cutM H ρ.1)⟩) (by rw [dE];exact ⟨fun ι _ _ hr=>⟨ι,hr⟩⟩) ?_
 refine LWP.le Le.trim ?_
 rw [← hzl]
 generalize hks:kept (fun c=>hasB set c.id) zs=ks at *
 (refine U3 ?_;refine K.makeFunc O O dO ?_;refine bE [(1000000,602)] (.sv (.one (.slc 602 0 ks.length 3))) [(602,some ⟨86,(rowsP ks++zer (zs.length-ks.length)).map .val,true⟩)] (hdel) O O (by exact (cN ⟨_,O,(bX _ _ _ _)⟩ trivial)) (by exact (bS bT O)) O O O O V18 dO ?_;refine U1 ?_;refine bG O O O O O (nl2 O O O) dO ?_;refine U7 ?_)
 refine cC (σ':=⟨[(4,Lp 4)],[(602,some ⟨86,(rowsP ks++zer (zs.length-ks.length)).map .val,true⟩),(4,some ⟨24,[.val (.int .i64 ver),.slc 602 0 ks.length 3],false⟩)],joinM Y (cutM H ρ.1)⟩) (Le.of VF VA V2 V2 V0) ?_
 refine Leads.spare fun sp2 => ?_
 refine Leads.closeRes (R:=cmR (onlyC cs set)) hOc (fun ρ2 fr2 g1 g2 g3 => ?_) ?_
 ·refine ⟨⟨_,fr2,cK _ _ _,by rw [g3];simp⟩,?_⟩
  rw [← hkf]
  refine comps_block (fel:=125) (cK _ _ _) (cells:=ks.map (·.2)) (sp:=zer (zs.length-ks.length)++sp2) (by unfold rowsP;simp) (by rw [cU,cU]) ?_ fun i c v hc hv => ?_
  ·rw [hkf]
   exact fun c hc=>hInb c (only_mem hc).1
  ·rw [dI] at hc hv
   obtain ⟨z,hz,rfl⟩:=Option.map_eq_some_iff.1 hc
   rw [hz] at hv
   simp only [Option.map_some,Option.some.injEq] at hv
   subst hv
   have hzm:z∈zs:=by
    have:=dA hz
    rw [← hks] at this
    exact (List.mem_filter.1 this).1
   have hs:=hGz z hzm
   refine hs.mono fun b' hb' => ?_
   have hne:=hs.some_of hb'
   unfold withBlock
   rw [if_neg (fun e=>hne (by rw [e];exact g1))]
 rw [← hkl]
 refine cC (Le.drop hdr) (cA ?_)
 exact ⟨[(1000001,602)],⟨[_],⟨⟨_,_,O,O,O,.inl ⟨AggT.h,O⟩⟩,trivial⟩,O⟩,V1,O,O⟩
theorem ofIds {s:Sc} (h:chkE s=0):okIds (s.cs.map Cp.id)=true:=List.all_eq_true.2 fun x hx=>by
 obtain ⟨c,hc,rfl⟩:=List.mem_map.1 hx
 obtain ⟨i,hi⟩:=List.mem_iff_getElem?.1 hc
 obtain ⟨g1,g2,_⟩:=(goodC16 h).one i c hi
 exact okI_iff.2 ⟨g1,g2⟩
theorem within_has {s:Sc} (h:chkE s=0) (set:Nat):withinB set (ofA (s.cs.map Cp.id))=(idsL set).all (hasC s.cs):=by
 unfold withinB
 have ho:=ofIds h
 rw [show ofA (s.cs.map Cp.id)=ofN (s.cs.map Cp.id) from if_pos ho]
 rw [Bool.eq_iff_iff,List.all_eq_true,List.all_eq_true]
 refine forall_congr' fun x=>forall_congr' fun hx => ?_
 have h1:hasB (ofN (s.cs.map Cp.id)) x=true↔x∈s.cs.map Cp.id:=by
  rw [← mem_ofN ho,← any_ids,List.any_eq_true]
  exact ⟨fun ⟨y,hy,e⟩=>by rw [← beq_iff_eq.1 e];exact hy,fun hy=>⟨x,hy,cS rfl⟩⟩
 rw [h1]
 unfold hasC
 rw [List.any_eq_true,List.mem_map]
 exact ⟨fun ⟨c,hc,e⟩=>⟨c,hc,cS e⟩,fun ⟨c,hc,e⟩=>⟨c,hc,beq_iff_eq.1 e⟩⟩
theorem ofA_lt (ids:List Int):ofA ids<4294967296:=by
 unfold ofA
 split
 ·rename_i h
  have:=ofN_lt (ids:=ids) (List.all_eq_true.1 h)
  omega
 ·omega
set_option maxHeartbeats 3200000 in
theorem isOf0 (s:Sc) (ad:Option Addr) (cap:Nat) (set:Nat) (hset:set<4294967296) (hin:CompsIn X ad s.cs) (hn:s.cs.length≤65536) (hc:chkE s=0) (r:Bool) (hr:(isB set&&(idsL set).all (hasC s.cs))=r):
  PSpec Tryz.prog X 37 [Ln .u32 (set:Nat),Sx s.ver ad s.cs.length cap] (Lb r):=by
 have hI:=pIds X s.ver ad cap s.cs hin hn
 have hOf:∀ {S:Nat→Option (Option Box)} {k:Nat} {el:TypeId} {row:Bool},S k=some (some ⟨el,(nuV (s.cs.map Cp.id)).map .val,row⟩)→∀ (Y:Nat→Option Obj) (us:List Value),(∀ b o,X b=some o→Y b=some o)→LentLs S Y [.sv (.one (.slc k 0 (s.cs.map Cp.id).length))] us→PSpec Tryz.prog Y 66 (us.map toLV) (.tup [Sn .u32 (ofA (s.cs.map Cp.id):Nat),Sn .i64 (ofE (s.cs.map Cp.id))]):=fun hk=>of_lent X V26 hk
 rw [show ofE (s.cs.map Cp.id)=0 from if_pos (ofIds hc)] at hOf
 have hids:idsV s.cs=nuV (s.cs.map Cp.id):=by unfold idsV nuV;rw [List.map_map];rfl
 have hil:(s.cs.map Cp.id).length=s.cs.length:=cU _
 rw [hids] at hI
 rw [hil] at hOf
 have hIs:=gIs X set hset
 have hW:=gWithin X set (ofA (s.cs.map Cp.id)) hset (ofA_lt _)
 rw [within_has hc] at hW
 subst hr
 generalize ofA (s.cs.map Cp.id)=oa at *
 generalize nuV (s.cs.map Cp.id)=nv at *
 refine cD Tryz.func37 rfl V5 rfl rfl ?_
 intro C
 generalize isB set=q at *
 cases q with
 | false =>
  (refine U8 ?_;refine bE [(1000001,601)] (.sv (.one (.slc 601 0 s.cs.length))) [(601,some ⟨3,nv.map .val,false⟩)] (hI) O O V15 O O O O O V18 dO<|K.callL [601] O O O (hOf O) dO ?_;refine U9 ?_;refine keq O O (r:=true) O ?_;refine U12 ?_)
  exact V6
 | true =>
  generalize (idsL set).all (hasC s.cs)=w at *
  (refine U8 ?_;refine bE [(1000001,601)] (.sv (.one (.slc 601 0 s.cs.length))) [(601,some ⟨3,nv.map .val,false⟩)] (hI) O O V15 O O O O O V18 dO<|K.callL [601] O O O (hOf O) dO ?_;refine U9 ?_;refine keq O O (r:=true) O ?_;refine U12 ?_)
  exact V6
end Go.Proofs.YtbpdbclndfmcgaaGreatDoor
end
section
set_option maxHeartbeats 12800000
set_option maxRecDepth 100000
namespace Go.Proofs.YtbpdbclndfmcgaaGreatDoor
open Go Go.Lg Go.Lg.Fld Go.Lg.Sg Go.Lg.Col
set_option maxRecDepth 100000
theorem names16 {cs:List Cp} (hs:cs.length≤30∧∀ c∈cs,c.fs.length≤12) (hm:NamesIn cs):NamesC cs:=fun c hc=>⟨by have:=hs.2 c hc;omega,(hm c hc).1,(hm c hc).2⟩
theorem good_split {s:Sc} {set:Nat} {most:Int}:goodT s set most=(decide (chkE s=0)&&((isB set&&(idsL set).all (hasC s.cs))&&(decide (1≤most)&&decide (most≤256)))):=by
 unfold goodT
 cases decide (chkE s=0)<;>cases isB set<;>cases decide (1≤most)<;>cases decide (most≤256)<;>cases (idsL set).all (hasC s.cs)<;>rfl
variable (X:Nat→Option Obj)
set_option maxHeartbeats 3200000 in
theorem tNew_no (s:Sc) (set:Nat) (most:Int) (ad:Option Addr) (cap:Nat) (hin:CompsIn X ad s.cs) (hm:NamesIn s.cs) (hs:s.cs.length≤30∧∀ c∈s.cs,c.fs.length≤12) (hset:set<4294967296) (h:goodT s set most=false):PSpec Tryz.prog X 8 [Sx s.ver ad s.cs.length cap,Ln .u32 (set:Nat),Ln .i64 most] LnilT:=by
 have hC:=pCheckBig X s ad cap hin V3 (names16 hs hm) _ rfl
 have hI:=fun hc=>isOf0 X s ad cap set hset hin V3 hc _ rfl
 rw [good_split] at h
 refine cD Tryz.func8 rfl V5 rfl rfl ?_
 intro C
 by_cases hc:chkE s=0
 case neg =>
  generalize chkE s=e at *
  (refine U10 ?_;refine kne rfl rfl (r:=true) (cR hc) ?_;refine U21 ?_)
  exact V6
 have hI:=hI hc
 rw [cM hc,Bool.true_and] at h
 rw [hc] at hC
 generalize (isB set&&(idsL set).all (hasC s.cs))=q at *
 cases q with
 | false =>
  refine U32 ?_
  exact V6
 | true =>
  by_cases h1:most<1
  ·(refine U19 ?_;refine bK O O (cM h1) (dP O O) ?_;refine U12 ?_)
   exact V6
  ·have h2:256<most:=by
    rw [Bool.true_and,Bool.and_eq_false_iff,decide_eq_false_iff_not,decide_eq_false_iff_not] at h
    omega
   (refine U19 ?_;refine bK O O (cL h1) (dP O O) ?_;refine U3 ?_;refine aS O O (cM h2) (dP O O) ?_;refine U8 ?_)
   exact V6
def ArrAt (H:Nat→Option Obj) (v:Value) (qs:List Nat):Prop:=(v=nilSlc∧qs=[])∨∃ db,LeadsTo H db v 97 1 (pvs qs)
theorem ArrAt.ptrs {H:Nat→Option Obj} {v:Value} {qs:List Nat} (h:ArrAt H v qs):PtrsIn H v qs:=by
 rcases h with ⟨rfl,rfl⟩|⟨db,h⟩
 ·exact ⟨none,0,rfl,fun i b hb=>by simp at hb⟩
 ·exact ptrs_leads h
set_option maxHeartbeats 12800000 in
theorem tNew (s:Sc) (set most:Nat) (ad:Option Addr) (cap:Nat) (hin:CompsIn X ad s.cs) (hm:NamesIn s.cs) (hs:s.cs.length≤30∧∀ c∈s.cs,c.fs.length≤12) (hset:set<4294967296) (h:goodT s set most=true):MSpec Tryz.prog X 8 [Sx s.ver ad s.cs.length cap,Ln .u32 (set:Nat),Ln .i64 (most:Nat)] [] (Lp 1000001) [tB 1000001 ⟨s,set,most,0,[]⟩]:=by
 have hk:TbOk ⟨s,set,most,0,[]⟩:=TbOk.new hset h
 have h24:=t_len24 hk
 have hC:=pCheckBig X s ad cap hin V3 (names16 hs hm) _ rfl
 rw [good_split] at h
 obtain ⟨hc,h⟩:=Bool.and_eq_true_iff.1 h
 obtain ⟨hq,h⟩:=Bool.and_eq_true_iff.1 h
 obtain ⟨hm1,hm2⟩:=Bool.and_eq_true_iff.1 h
 replace hc:=of_decide_eq_true hc
 replace hm1:=of_decide_eq_true hm1
 replace hm2:=of_decide_eq_true hm2
 have hI:=isOf0 X s ad cap set hset hin V3 hc _ hq
 rw [hc] at hC
 have hOnly:=only0 X s.ver ad cap s.cs set hset hin V3 fun c hc=>by have:=hs.2 c hc;omega
 refine cE Tryz.func8 rfl V5 rfl rfl V4 rfl rfl ?_
 intro C
 refine LWP.ends ?_
 have htc:onlyC (⟨s,set,most,0,[]⟩:Tb).sc.cs (⟨s,set,most,0,[]⟩:Tb).set=onlyC s.cs set:=rfl
 generalize hnc:(onlyC s.cs set).length=nc at *
 (refine U19 ?_;refine bK O O (cL V3) (dP O O) ?_;refine U3 ?_;refine aS O O (cL V3) (dP O O) ?_;refine U10 ?_;refine bE [(1000001,602)] (.sv (.agg [.val (.int .i64 s.ver),.slc 602 0 nc 3])) [cmB 602 (onlyC s.cs set)] (hOnly) O O V15 O O O O O VB dO<|aT O O V2 (by exact nl7 O O O O O O O O) dO ?_;refine U5 ?_)
 refine LWP.le (σ':=⟨[(7,Lp 35),(2,Ln .i64 (most:Nat))],[(35,some ⟨92,[.val (.int .u32 (set:Nat)),.val (.int .i64 (most:Nat)),.val (.int .i64 (0:Nat)),.val nilSlc,.val (.int .i64 s.ver)] ++ .slc 602 0 nc 3::[.val nilSlc],false⟩),cmB 602 (onlyC s.cs set)],X⟩) (Le.of VA VA V2 V2 V0) ?_
 refine LWP.fixCell O O O O O O fun ρ H2 cc hcm hO2 hcc _ => ?_
 obtain ⟨cb,cm⟩:=ρ
 have hin2:CompsIn H2 (some ⟨cb,0,none⟩) (onlyC s.cs set):=hcm.2
 refine U10 ?_
 refine cJ (fun m σ=>∃ (j:Nat) (qs:List Nat) (vP:Value) (Hn HA:Nat→Option Obj),j≤nc∧m=nc-j∧OwnedM C (joinM X H2) Hn∧OwnedM C (joinM (joinM X H2) Hn) HA∧Refs Hn qs ((colsT ⟨s,set,most,0,[]⟩).take j)∧ArrAt HA vP qs∧σ=⟨[(7,Lp 35),(2,Ln .i64 (most:Nat)),(40,.sv (.one (vS (some ⟨cb,0,none⟩) nc cc))),(41,Ln .i64 (nc:Nat)),(42,Ln .i64 (j:Nat))],[tS 35 ⟨s,set,most,0,[]⟩ (.val nilSlc) (.slice (some ⟨cb,0,none⟩) nc cc) vP],joinM (joinM (joinM X H2) Hn) HA⟩) nc
  (cC (σ':=⟨[(7,Lp 35),(2,Ln .i64 (most:Nat)),(40,.sv (.one (vS (some ⟨cb,0,none⟩) nc cc))),(41,Ln .i64 (nc:Nat)),(42,Ln .i64 (0:Nat))],[tS 35 ⟨s,set,most,0,[]⟩ (.val nilSlc) (.slice (some ⟨cb,0,none⟩) nc cc) nilSlc],joinM X H2⟩) (Le.of V12 VF V2 V2 V0) (cA ⟨0,[],nilSlc,fun _=>none,fun _=>none,by omega,by omega,OwnedM.nil _ _,OwnedM.nil _ _,Refs.nil _,.inl ⟨rfl,rfl⟩,by rw [joinM_nil,joinM_nil]⟩)) ?_
 rintro m σ ⟨j,qs,vP,Hn,HA,hj,rfl,hOn,hOA,hR,hA,rfl⟩
 have hcl:(colsT ⟨s,set,most,0,[]⟩).length=nc:=by rw [← hnc];exact colsG_len _ _ _
 have hqs:qs.length=j:=by rw [hR.len,cX];omega
 by_cases hlt:j<nc
 case neg =>
  have e:j=nc:=by omega
  subst e
  rw [List.take_of_length_le (by omega)] at hR
  refine U13 ?_
  obtain ⟨p1,p2,p3⟩:=OwnedM.swap hOn hOA
  refine cC (σ':=⟨[(6,Lp 35)],[tS 35 ⟨s,set,most,0,[]⟩ (.val nilSlc) (.slice (some ⟨cb,0,none⟩) j cc) vP],tH X (joinM H2 HA) (fun _=>none) Hn⟩) (by
   unfold tH
   rw [joinM_nil,← joinM_join,← p3]
   exact Le.of VF VF V2 V2 V0) ?_
  refine tab_shut (t:=⟨s,set,most,0,[]⟩) (hO2.join p1) (OwnedM.nil _ _) (by rw [joinM_nil,← joinM_join];exact p2) ⟨⟨cb,cc,by rw [← hnc],hin2.mono (Go.Lg.joinM_keeps p1)⟩,hA.ptrs.mono fun b o h=>joinM_in h,hR,.inl ⟨rfl,rfl⟩,fun r hr=>by cases hr⟩ (cA ?_)
  exact ⟨[(1000001,35)],⟨[_],⟨O,trivial⟩,O⟩,V1,O,O⟩
 obtain ⟨c,hcj⟩:∃ c,(onlyC s.cs set)[j]? = some c:=wg V3
 have hsz:=t_size hk (k:=j) (c:=c) hcj
 have hlay:=t_lay hk (k:=j) (c:=c) hcj
 have hM:∀ b o,H2 b=some o→joinM (joinM (joinM X H2) Hn) HA b=some o:=fun b o hb=>joinM_has hOA (joinM_has hOn (joinM_in hb))
 obtain ⟨cblk,coff,carr,cel,cfr,fad,fcap,hqq,hcX,hcsz,hccs,_,_,_,hF⟩:=(hin2.mono hM).get hcj
 simp only [Option.some.injEq,Addr.mk.injEq] at hqq
 obtain ⟨rfl,rfl,_⟩:=hqq
 have hio:=wo 0 j 3
 have hOf:=Of_ok (joinM (joinM (joinM X H2) Hn) HA) fad fcap c.fs hF V3 hlay
 have hNw:=cNew_ok (joinM (joinM (joinM X H2) Hn) HA) (rowSize c.fs) most hsz.2.1 V3 V3
 have hadd:=wi j V3
 have hroot:=colR_root (rowSize c.fs) most []
 have htk:(colsT ⟨s,set,most,0,[]⟩).take (j+1)=(colsT ⟨s,set,most,0,[]⟩).take j++[colR (rowSize c.fs) most []]:=take_snoc (colsG_at (f:=colL []) (most:=most) hcj)
 have hfin : ∀ (HA0 : Nat → Option Obj) (Mid : St → Prop), OwnedM C (joinM (joinM X H2) Hn) HA0 → (∀ (qs' : List Nat) (vP' : Value) (Hn' HA' : Nat → Option Obj), OwnedM C (joinM X H2) Hn' → OwnedM C (joinM (joinM X H2) Hn') HA' → Refs Hn' qs' ((colsT ⟨s, set, most, 0, []⟩).take (j + 1)) → ArrAt HA' vP' qs' →
    Leads Tryz.f8.ntmps C Mid ⟨[(7,Lp 35),(2,Ln .i64 (most:Nat)),(40,.sv (.one (vS (some ⟨cb,0,none⟩) nc cc))),(41,Ln .i64 (nc:Nat)),(42,Ln .i64 (j+1:Nat))],[tS 35 ⟨s,set,most,0,[]⟩ (.val nilSlc) (.slice (some ⟨cb,0,none⟩) nc cc) vP'],joinM (joinM (joinM X H2) Hn') HA'⟩) →
   Leads Tryz.f8.ntmps C Mid ⟨[(7,Lp 35),(2,Ln .i64 (most:Nat)),(40,.sv (.one (vS (some ⟨cb,0,none⟩) nc cc))),(41,Ln .i64 (nc:Nat)),(42,Ln .i64 (j+1:Nat))],[(603,some ⟨97,(pvs qs).map .val ++ .ptr 601 0::([]:List Value).map .val,true⟩),cB 601 (rowSize c.fs) most [],tO 35 ⟨s,set,most,0,[]⟩ (.val nilSlc) (.val (.slice (some ⟨cb,0,none⟩) nc cc)) (.slc 603 0 (j+1) 1)],joinM (joinM (joinM X H2) Hn) HA0⟩:=fun HA0 Mid hO0 hmid=>by
  refine Leads.fixRsc (k:=601) (s:=[(7,Lp 35),(2,Ln .i64 (most:Nat)),(40,.sv (.one (vS (some ⟨cb,0,none⟩) nc cc))),(41,Ln .i64 (nc:Nat)),(42,Ln .i64 (j+1:Nat))]) (bx:=[tO 35 ⟨s,set,most,0,[]⟩ (.val nilSlc) (.val (.slice (some ⟨cb,0,none⟩) nc cc)) (.slc 603 0 (j+1) 1)]) (s0:=[]) (b0:=[(603,some ⟨97,(pvs qs).map .val ++ .ptr 601 0::([]:List Value).map .val,true⟩)]) V27 V27 V27 V27 (by refine bS ?_ rfl;exact fixIn_mid _ _) fun ρ Hc2 k1 k2 => ?_
  obtain ⟨bn,mn⟩:=ρ
  obtain ⟨q1,q2,q3⟩:=OwnedM.swap hO0 k2
  have hpush:=hR.push k1 (hroot _ _ k1) fun x hx=>own_far q1 hx
  have hcells:((pvs qs).map CV.val ++ .ptr 601 0::([]:List Value).map CV.val).map (CV.fix 601 bn)=(pvs (qs++[bn])).map CV.val:=by
   rw [fix_mid]
   unfold pvs
   simp
  rw [q3]
  refine cC (σ':=⟨[(7,Lp 35),(2,Ln .i64 (most:Nat)),(40,.sv (.one (vS (some ⟨cb,0,none⟩) nc cc))),(41,Ln .i64 (nc:Nat)),(42,Ln .i64 (j+1:Nat))],[(35,some ⟨92,[.val (.int .u32 (set:Nat)),.val (.int .i64 (most:Nat)),.val (.int .i64 (0:Nat)),.val nilSlc,.val (.int .i64 s.ver),.val (.slice (some ⟨cb,0,none⟩) nc cc)] ++ .slc 603 0 (j+1) 1::[],false⟩),(603,some ⟨97,(pvs (qs++[bn])).map .val,true⟩)],joinM (joinM (joinM (joinM X H2) Hn) Hc2) HA0⟩) (by
   show Le _ _ (⟨[]++_,[(603,some ⟨_,((pvs qs).map CV.val ++ .ptr 601 0::([]:List Value).map CV.val).map (CV.fix 601 bn),true⟩)]++_,_⟩:St) _
   rw [hcells]
   exact Le.of V12 VA V2 V2 V0) ?_
  refine Leads.closeCell q2 (by rw [pvs_len,cT];simp only [cW];omega) rfl rfl rfl rfl rfl rfl fun ba oa va _ _ hOa hva => ?_
  rw [joinM_join (joinM X H2) Hn Hc2]
  rw [joinM_join (joinM X H2) Hn Hc2] at hOa
  exact hmid (qs++[bn]) va (joinM Hn Hc2) _ (hOn.join q1) hOa (by rw [htk];exact hpush) (.inr ⟨ba,hva⟩)
 have hdone:∀ (qs':List Nat) (vP':Value) (Hn' HA':Nat→Option Obj),OwnedM C (joinM X H2) Hn'→OwnedM C (joinM (joinM X H2) Hn') HA'→Refs Hn' qs' ((colsT ⟨s,set,most,0,[]⟩).take (j+1))→ArrAt HA' vP' qs'→_:=fun qs' vP' Hn' HA' y1 y2 y3 y4=>cA (n:=Tryz.f8.ntmps) (C:=C) (Mid:=fun σ'=>∃ m',m'<nc-j∧∃ (j:Nat) (qs:List Nat) (vP:Value) (Hn HA:Nat→Option Obj),j≤nc∧m'=nc-j∧OwnedM C (joinM X H2) Hn∧OwnedM C (joinM (joinM X H2) Hn) HA∧Refs Hn qs ((colsT ⟨s,set,most,0,[]⟩).take j)∧ArrAt HA vP qs∧σ'=⟨[(7,Lp 35),(2,Ln .i64 (most:Nat)),(40,.sv (.one (vS (some ⟨cb,0,none⟩) nc cc))),(41,Ln .i64 (nc:Nat)),(42,Ln .i64 (j:Nat))],[tS 35 ⟨s,set,most,0,[]⟩ (.val nilSlc) (.slice (some ⟨cb,0,none⟩) nc cc) vP],joinM (joinM (joinM X H2) Hn) HA⟩) ⟨nc-(j+1),by omega,j+1,qs',vP',Hn',HA',by omega,rfl,y1,y2,y3,y4,rfl⟩
 (refine U20 ?_;refine bE [(1000001,503)] (.tup [planV (rowSize c.fs:Nat) (.slc 503 0 c.fs.length 1),Sn .i64 0]) [(503,some ⟨3,(ntV (startsAt 0 c.fs)).map .val,false⟩)] (hOf) O O V15 O O O O O V18 dO ?_;refine U7 ?_)
 refine LWP.le (σ':=⟨[(10,Lp 10),(7,Lp 35),(2,Ln .i64 (most:Nat)),(40,.sv (.one (vS (some ⟨cb,0,none⟩) nc cc))),(41,Ln .i64 (nc:Nat)),(42,Ln .i64 (j:Nat))],[(10,some ⟨94,[.val (.int .i64 (rowSize c.fs:Nat)),.slc 503 0 c.fs.length 1],false⟩),(503,some ⟨3,(ntV (startsAt 0 c.fs)).map .val,false⟩),tS 35 ⟨s,set,most,0,[]⟩ (.val nilSlc) (.slice (some ⟨cb,0,none⟩) nc cc) vP],joinM (joinM (joinM X H2) Hn) HA⟩) (Le.of VC V9 V2 V2 V0) ?_
 rcases hA with ⟨rfl,rfl⟩|⟨db,hd⟩
 ·have hj0:j=0:=by rw [← hqs];rfl
  unfold nilSlc
  (refine rgD mixed ?_;refine U8 ?_;refine bE [(1000001,601)] (Lp 601) [cB 601 (rowSize c.fs) most []] (hNw) O O V15 O O O O O VB dO<|aZ (zs:=[.pointer none]) (sz:=1) (e:=97) (cs':=[.ptr 601 0]) V5 O O O O O O dO<|K.appendNil (by_:=8) (e:=97) (e2:=97) (l2:=[.ptr 601 0]) O O O (dK _) O O V11 V5 V5 V3 V3 O dO ?_;refine U2 ?_;refine bG O O O O O (nl7 O O O O O O O O) dO ?_;refine U6 ?_)
  refine cC (σ':=⟨[(7,Lp 35),(2,Ln .i64 (most:Nat)),(40,.sv (.one (vS (some ⟨cb,0,none⟩) nc cc))),(41,Ln .i64 (nc:Nat)),(42,Ln .i64 (j+1:Nat))],[(603,some ⟨97,(pvs []).map .val ++ .ptr 601 0::([]:List Value).map .val,true⟩),cB 601 (rowSize c.fs) most [],tO 35 ⟨s,set,most,0,[]⟩ (.val nilSlc) (.val (.slice (some ⟨cb,0,none⟩) nc cc)) (.slc 603 0 (j+1) 1)],joinM (joinM (joinM X H2) Hn) HA⟩) (by rw [hj0];exact Le.ofR [(603,62)] V12 V1 V2 V2 V0 V2 V2) ?_
  exact hfin _ _ hOA hdone
 ·have hel:(pvs qs).length=j*1:=by rw [pvs_len];omega
  have hcl1:((pvs qs).map CV.val).length=j*1:=by rw [cU];exact hel
  refine LWP.le (σ':=⟨[(10,Lp 10),(7,Lp 35),(2,Ln .i64 (most:Nat)),(40,.sv (.one (vS (some ⟨cb,0,none⟩) nc cc))),(41,Ln .i64 (nc:Nat)),(42,Ln .i64 (j:Nat))],[tS 35 ⟨s,set,most,0,[]⟩ (.val nilSlc) (.slice (some ⟨cb,0,none⟩) nc cc) vP,(10,some ⟨94,[.val (.int .i64 (rowSize c.fs:Nat)),.slc 503 0 c.fs.length 1],false⟩),(503,some ⟨3,(ntV (startsAt 0 c.fs)).map .val,false⟩)],joinM (joinM (joinM X H2) Hn) HA⟩) (Le.of VC V9 V2 V2 V0) ?_
  refine LWP.openCell (A:=[.val (.int .u32 (set:Nat)),.val (.int .i64 (most:Nat)),.val (.int .i64 (0:Nat)),.val nilSlc,.val (.int .i64 s.ver),.val (.slice (some ⟨cb,0,none⟩) nc cc)]) (B:=[]) (k:=602) (sz:=1) (len:=j) hOA hd hel V3 O V16 O O O ?_
  have hNw2:=cNew_ok (joinM (joinM (joinM X H2) Hn) (cutM HA db)) (rowSize c.fs) most hsz.2.1 V3 V3
  (refine rgD mixed ?_;refine U8 ?_;refine bE [(1000001,601)] (Lp 601) [cB 601 (rowSize c.fs) most []] (hNw2) O O V15 O O O O O VB dO<|aZ (zs:=[.pointer none]) (sz:=1) (e:=97) (cs':=[.ptr 601 0]) V5 O O O O O O dO<|bP (by_:=8) (e2:=97) (l2:=[.ptr 601 0]) (nl:=j+1) (nc:=(pvs qs).map .val++[.ptr 601 0]) O O hcl1 O O (dK _) O O V5 V5 V3 V3 O O O dO ?_;refine U2 ?_;refine bG O O O O O (nl7 O O O O O O O O) dO ?_;refine U6 ?_)
  refine cC (σ':=⟨[(7,Lp 35),(2,Ln .i64 (most:Nat)),(40,.sv (.one (vS (some ⟨cb,0,none⟩) nc cc))),(41,Ln .i64 (nc:Nat)),(42,Ln .i64 (j+1:Nat))],[(603,some ⟨97,(pvs qs).map .val ++ .ptr 601 0::([]:List Value).map .val,true⟩),cB 601 (rowSize c.fs) most [],tO 35 ⟨s,set,most,0,[]⟩ (.val nilSlc) (.val (.slice (some ⟨cb,0,none⟩) nc cc)) (.slc 603 0 (j+1) 1)],joinM (joinM (joinM X H2) Hn) (cutM HA db)⟩) (Le.ofR [(603,62)] V12 V1 V2 V2 V0 V2 V2) ?_
  exact hfin _ _ (hOA.cut db) hdone
end Go.Proofs.YtbpdbclndfmcgaaGreatDoor
end
section
set_option maxHeartbeats 12800000
set_option maxRecDepth 100000
namespace Go.Proofs.YtbpdbclndfmcgaaGreatDoor
open Go Go.Lg Go.Lg.Fld Go.Lg.Sg
set_option maxRecDepth 100000
def tMade (_:Nat):Bool:=true
theorem tMade_zero {n:Nat} (h:tMade n=false):n=0:=by cases h
section
variable {P:Program} {n:Nat} {C:Ctx} {c:Code} {Q:Exit→St→Prop} {X:Nat→Option Obj} {s:List (Nat×LV)} {bx:List (Nat×Option Box)} {k:Nat}
theorem tab_made {t:Tb} (h:∀ m:Bool,(m=false→t.l=[])→LWP P n C c Q ⟨s,tM k m t::bx,X⟩):LWP P n C c Q ⟨s,tB k t::bx,X⟩:=
 LWP.resEx (α:={ m:Bool // m=false→t.l=[] }) (fun m=>tbM m.1 t) (fun _ _ ⟨m,h⟩=>⟨⟨m,fun e=>by subst e;exact tM_nil h⟩,h⟩) fun m=>h m.1 m.2
theorem Le.unmade {t:Tb} {m:Bool}:Le n C ⟨s,tM k m t::bx,X⟩ ⟨s,tB k t::bx,X⟩:=⟨fun ι a w hr=>⟨ι,by
 obtain ⟨_,hx⟩:=hr.resEx (α:=Unit) (R2:=fun _=>tbR t) fun ρ H hh=>⟨(),_,hh⟩
 exact hx⟩⟩
end
variable (X:Nat→Option Obj)
theorem tGet_none (t:Tb) (hk:TbOk t) (row comp:Int) (_:tgetE t row comp=0) (hm:tMade (getV t row comp).length=false):MSpec Tryz.prog X 12 [Lp 1000000,Ln .i64 row,Ln .i64 comp] [tB 1000000 t] (.tup [Vnil,Sn .i64 0]) [tB 1000000 t]:=by
 have _:=hk
 cases hm
theorem tGet (t:Tb) (hk:TbOk t) (row comp:Int) (h:tgetE t row comp=0) (_:tMade (getV t row comp).length=true):MSpec Tryz.prog X 12 [Lp 1000000,Ln .i64 row,Ln .i64 comp] [tB 1000000 t] (.tup [.one (.slc 1000001 0 (getV t row comp).length 3),Sn .i64 0]) [tB 1000000 t,nmsB 1000001 (getV t row comp) true]:=tGetM X t hk row comp h
theorem tParts_none (t:Tb) (hk:TbOk t) (i:Nat) (r:Rw) (_:t.l[i]? = some r) (hm:tMade r.p.length=false):MSpec Tryz.prog X 13 [Lp 1000000,Ln .i64 (i:Nat)] [tB 1000000 t] (.tup [Vnil,Sn .i64 0]) [tB 1000000 t]:=by
 have _:=hk
 cases hm
theorem tParts (t:Tb) (hk:TbOk t) (i:Nat) (r:Rw) (h:t.l[i]? = some r) (_:tMade r.p.length=true):MSpec Tryz.prog X 13 [Lp 1000000,Ln .i64 (i:Nat)] [tB 1000000 t] (.tup [.one (.slc 1000001 0 r.p.length 2),Sn .i64 0]) [tB 1000000 t,prtB 1000001 r.p]:=tPartsM X t hk i r h
end Go.Proofs.YtbpdbclndfmcgaaGreatDoor
end
section
set_option maxHeartbeats 12800000
set_option maxRecDepth 100000
namespace Go.Proofs.YtbpdbclndfmcgaaGreatDoor
open Go Go.Lg Go.Lg.Fld Go.Lg.Sg Go.Lg.Arith
set_option maxRecDepth 100000
def greatB16 (cs:List Cp):Bool:=decide (30<cs.length)||cs.any fun c=>decide (12<c.fs.length)
theorem eqN16 {b b':Bool} {M N:Int} (hM:In2 M) (hN:In2 N):(b==b'&&(M/18446744073709551616==N/18446744073709551616&&M%18446744073709551616==N%18446744073709551616))=decide (((b,M):Bool×Int)=(b',N)):=by
 by_cases h:b=b'∧M=N
 ·obtain ⟨rfl,rfl⟩:=h
  simp
 ·rw [cL (fun e=>h (by simpa using e))]
  cases hc:(b==b'&&(M/18446744073709551616==N/18446744073709551616&&M%18446744073709551616==N%18446744073709551616)) with
  | false=>rfl
  | true =>
   simp only [Bool.and_eq_true,beq_iff_eq] at hc
   exact absurd ⟨hc.1,by omega⟩ h
variable (X:Nat→Option Obj)
set_option maxHeartbeats 3200000 in
theorem great16_spec (ver:Int) (ad:Option Addr) (cap:Nat) (cs:List Cp) (hin:CompsIn X ad cs) (r:Bool) (hr:greatB16 cs=r):PSpec Tryz.prog X 7 [Sx ver ad cs.length cap] (Lb r):=by
 subst hr
 refine cD Tryz.func7 rfl V5 rfl rfl ?_
 intro C
 by_cases hn:30<cs.length
 ·rw [show greatB16 cs=true by unfold greatB16;rw [cM hn];rfl]
  (refine U11 ?_;refine aS O O (cM V3) dO ?_;refine U7 ?_)
  exact V6
 refine U21 ?_
 refine cH (fun m σ=>∃ i:Nat,i≤cs.length∧m=cs.length-i∧(∀ (j:Nat) (y:Cp),j<i→cs[j]? = some y→decide (12<y.fs.length)=false)∧σ=⟨[(1,Lp 1),(3,Ln .i64 (i:Nat))],[sxB 1 ver ad cs.length cap],X⟩) cs.length
  ⟨_,Le.of VA VF V2 V2 V0,0,by omega,by omega,fun j y hj=>absurd hj V3,rfl⟩ ?_
 rintro m σ ⟨i,hi,rfl,hpre,rfl⟩
 by_cases hlt:i<cs.length
 ·obtain ⟨c,hc⟩:=wg hlt
  obtain ⟨blk,off,arr,el,fr,fad,fcap,rfl,hX,hsz,hcs,g1,g2,g3,hF⟩:=hin.get hc
  have hio:=wo off i 3
  by_cases h1:12<c.fs.length
  ·rw [show greatB16 cs=true by unfold greatB16;rw [any_at hc (by exact cM h1),Bool.or_true]]
   (refine U22 ?_;refine aS O O (cM V3) dO ?_;refine U7 ?_)
   exact V6
  ·refine U31 ?_
   exact ⟨_,_,by omega,Le.of VA VF V2 V2 V0,i+1,by omega,O,(fun j y hj hy=>by
    by_cases e:j=i
    ·subst e
     rw [hc] at hy
     cases hy
     exact cL h1
    ·exact hpre j y V3 hy),rfl⟩
 ·rw [show greatB16 cs=false by unfold greatB16;rw [cL hn,any_no fun j y hy=>hpre j y (by have:=(wl hy);omega) hy];rfl]
  refine U16 ?_
  exact V6
set_option maxHeartbeats 6400000 in
theorem values16 (l m:List (Bool×Int)) (ad ad2:Option Addr) (cap cap2:Nat) (ha:NumsIn X ad l) (hb:NumsIn X ad2 m) (hbig:l.length<4611686018427387904) (r:Bool) (hr:decide (l=m)=r):
  PSpec Tryz.prog X 33 [Lx ad l.length cap,Lx ad2 m.length cap2] (Lb r):=by
 subst hr
 refine cD Tryz.func33 rfl V5 rfl rfl ?_
 intro C
 by_cases hl:l.length=m.length
 ·(refine U11 ?_;refine kne rfl rfl (r:=false) (by rw [hl];simp) ?_;refine U9 ?_)
  refine cH (fun q σ=>∃ i:Nat,i≤l.length∧q=l.length-i∧l.take i=m.take i∧σ=⟨[(0,Lx ad l.length cap),(1,Lx ad2 m.length cap2),(5,Ln .i64 (i:Nat))],[],X⟩) l.length
   ⟨_,Le.of V9 V15 V2 V2 V2,0,by omega,rfl,rfl,rfl⟩ ?_
  rintro q σ ⟨i,hi,rfl,hpre,rfl⟩
  by_cases hlt:i<l.length
  ·obtain ⟨⟨b1,N1⟩,hf⟩:∃ v,l[i]? = some v:=⟨_,cV hlt⟩
   obtain ⟨⟨b2,N2⟩,hf'⟩:∃ v,m[i]? = some v:=wg V3
   obtain ⟨hN1,blk,off,arr,el,fr,rfl,hX,hsz,hcells⟩:=ha.at hf
   obtain ⟨hN2,blk',off',arr',el',fr',rfl,hX',hsz',hcells'⟩:=hb.at hf'
   have hio:=wo off i 3
   have hio':=wo off' i 3
   have hadd:=wi i V3
   have q:=eqI (b:=b1) (b':=b2) (h:=N1/18446744073709551616) (h':=N2/18446744073709551616) (l:=N1%18446744073709551616) (l':=N2%18446744073709551616) _ (eqN16 hN1 hN2)
   by_cases hq:((b1,N1):Bool×Int)=(b2,N2)
   ·rw [cM hq] at q
    (refine U13 ?_;refine rgD mixed ?_;refine U8 ?_;refine K.aggEq O O O O V5 q (.inr ⟨O,O⟩) dO ?_;refine U9 ?_)
    exact ⟨_,_,by omega,Le.of V9 V15 V2 V2 V2,i+1,by omega,rfl,by rw [take_snoc hf,take_snoc hf',hpre,hq],rfl⟩
   ·rw [cL (show ¬l=m from fun e=>hq (by rw [e,hf'] at hf;exact (Option.some.inj hf).symm))]
    rw [cL hq] at q
    (refine U13 ?_;refine rgD mixed ?_;refine U8 ?_;refine K.aggEq O O O O V5 q (.inr ⟨O,O⟩) dO ?_;refine U8 ?_)
    exact V6
  ·have e:i=l.length:=by omega
   subst e
   rw [dC,List.take_of_length_le (by omega)] at hpre
   rw [cM hpre]
   refine U15 ?_
   exact V6
 ·rw [cL (show ¬l=m from fun e=>hl (by rw [e]))]
  (refine U11 ?_;refine kne rfl rfl (r:=true) (by rw [bne_iff_ne];omega) ?_;refine U7 ?_)
  exact V6
theorem greatB16_no {cs:List Cp} (h:greatB16 cs=false):cs.length≤30∧∀ c∈cs,c.fs.length≤12:=by
 unfold greatB16 at h
 rw [Bool.or_eq_false_iff,decide_eq_false_iff_not,List.any_eq_false] at h
 exact ⟨by omega,fun c hc=>by have:=h.2 c hc;simpa using this⟩
end Go.Proofs.YtbpdbclndfmcgaaGreatDoor
end
section
set_option maxHeartbeats 12800000
set_option maxRecDepth 100000
namespace Go.Proofs.YtbpdbclndfmcgaaGreatDoor
open Go Go.Lg Go.Lg.Fld Go.Lg.Sg
set_option maxRecDepth 100000
structure EnIn (X:Nat→Option Obj) (ad:Option Addr) (l:List Nat):Prop where
 at_:∀ (i:Nat) (h:Nat),l[i]? = some h→∃ (blk off:Nat) (arr:Array Value) (el:TypeId) (fr:Nat×Nat),ad=some ⟨blk,off,none⟩∧X blk=some (.cells arr el fr)∧arr[off+i*1]? = some (.int .u64 (h:Nat))
theorem EnIn.nil {X:Nat→Option Obj}:EnIn X none []:=⟨fun i h hi=>by simp at hi⟩
theorem en_block {Y:Nat→Option Obj} {blk:Nat} {arr:Array Value} {el:TypeId} {fr:Nat×Nat} {l:List Nat} (hY:Y blk=some (.cells arr el fr)) (h:∃ sp,arr.toList=(l.map fun h=>Value.int .u64 (h:Nat))++sp):EnIn Y (some ⟨blk,0,none⟩) l:=⟨fun i v hv=>by
 obtain ⟨sp,h⟩:=h
 refine ⟨blk,0,arr,el,fr,O,hY,?_⟩
 rw [← Array.getElem?_toList,h,Nat.zero_add,Nat.mul_one,dN (by rw [cU];exact (wl hv)),dI,hv];rfl⟩
theorem entsT_at {t:Tb} {i:Nat} {r:Rw} (h:t.l[i]? = some r):(entsT t)[i]? = some r.e:=by unfold entsT;rw [dI,h];rfl
theorem parts_nil16 {X:Nat→Option Obj} {ad:Option Addr}:PartsIn X ad []:=⟨fun i p hp=>by simp at hp,fun p hp=>by cases hp⟩
variable (X:Nat→Option Obj)
set_option maxHeartbeats 25600000 in
theorem rows16 (t:Tb) (hk:TbOk t) (ad iad lad:Option Addr) (cap icap lcap:Nat) (hT:TbIn X t ad iad lad) (hsm:∀ r∈t.l,∀ p∈r.p,p.val.length≤1000):
  MSpec Tryz.prog X 32 [Lp 1000000,TTx t ad cap iad icap lad lcap] [tB 1000000 t] (Lb true) [tB 1000000 t]:=by
 have hm:=hk.most
 have hroom:=hk.room
 refine cE Tryz.func32 rfl V5 rfl rfl V4 rfl rfl ?_
 intro C
 refine LWP.ends ?_
 refine U6 ?_
 refine LWP.le (σ':=⟨[(0,Lp 1000000),(3,Lp 3)],[tB 1000000 t,utB 3 (Tcs t ad cap iad icap lad lcap)],X⟩) (Le.of VA VA V2 V2 V0) ?_
 repeat refine aA ?_
 refine LWP.meetL (fun σ=>∃ (Y:Nat→Option Obj) (ead:Option Addr) (ecap:Nat),(∀ b o,X b=some o→Y b=some o)∧EnIn Y ead (entsT t)∧σ=⟨[(0,Lp 1000000),(3,Lp 3),(5,.sv (.one (.val (.slice ead t.l.length ecap))))],[tB 1000000 t,utB 3 (Tcs t ad cap iad icap lad lcap)],Y⟩) ?_ ?_
 ·refine tab_made fun mm hmm => ?_
  cases mm with
  | false =>
   have hE:=tEnts_none X t hk
   have hz:t.l.length=0:=by rw [hmm rfl];rfl
   (refine U2 ?_;refine aU [(1000000,1000000)] [tM 1000000 false t] (hE) O O V7 VE O O O O VB dO ?_;refine U2 ?_)
   refine cC (σ':=⟨[(0,Lp 1000000),(3,Lp 3),(5,.sv (.one (.val (.slice none 0 0))))],[tM 1000000 false t,utB 3 (Tcs t ad cap iad icap lad lcap)],X⟩) (Le.of V9 VA V2 V2 V0) ?_
   exact Leads.here Le.unmade ⟨X,none,0,fun _ _ h=>h,by rw [List.eq_nil_of_length_eq_zero (show (entsT t).length=0 by unfold entsT;rw [cU];exact hz)];exact EnIn.nil,by rw [hz]⟩
  | true =>
   have hE:=tEnts X t hk
   (refine U2 ?_;refine bE [(1000000,1000000),(1000001,601)] (.sv (.one (.slc 601 0 t.l.length 1))) [tM 1000000 true t,enB 601 (entsT t)] (hE) O O V7 VE O O O O (by exact (.box O O (.box O (bX _ _ _ _) .nil))) dO ?_;refine U2 ?_)
   refine cC (σ':=⟨[(5,.sv (.one (.slc 601 0 t.l.length 1))),(0,Lp 1000000),(3,Lp 3)],[(enB 601 (entsT t)),tM 1000000 true t,utB 3 (Tcs t ad cap iad icap lad lcap)],X⟩) (Le.of V9 V9 V2 V2 V0) ?_
   refine Leads.freeze O V16 O fun blk c2 arr fr hn _ _ _ hsp => ?_
   refine cC (σ':=⟨[(0,Lp 1000000),(3,Lp 3),(5,.sv (.one (.val (.slice (some ⟨blk,0,none⟩) t.l.length c2))))],[tM 1000000 true t,utB 3 (Tcs t ad cap iad icap lad lcap)],withBlock X blk (.cells arr 37 fr)⟩) (Le.of V9 VA V2 V2 V0) ?_
   exact Leads.here Le.unmade ⟨_,some ⟨blk,0,none⟩,c2,cG hn,en_block (cK _ _ _) hsp,O⟩
 rintro σ ⟨Y,ead,ecap,hY,hE,rfl⟩
 have hTY:=hT.mono hY
 have hLen:=tLen Y t hk
 have hKept:=tKept Y t hk
 have hRoom:=tRoom Y t hk
 have hRR:=rRoom_spec Y t ad iad lad cap icap lcap hm.2 hroom
 (refine U2 ?_;refine rgD mixed ?_;refine U5 ?_;refine kne O O (r:=false) (cP O) ?_;refine U2 ?_;refine aU [(1000000,1000000)] [tB 1000000 t] (hLen) O O V7 VE O O O O VB (dP O O) ?_;refine U3 ?_;refine aX O O (r:=false) (cP O) (dP O O) ?_;refine U3 ?_;refine aU [(1000000,1000000)] [tB 1000000 t] (hKept) O O V7 VE O O O O VB (dP O O) ?_;refine U2 ?_;refine aX O O (r:=false) (cP O) (dP O O) ?_;refine U3 ?_;refine aU [(1000000,1000000)] [tB 1000000 t] (hRoom) O O V7 VE O O O O VB (dP O O) ?_;refine U2 ?_;refine aX O O (r:=false) (cP O) (dP O O) ?_;refine U11 ?_)
 clear hLen hKept hRoom hRR
 refine cJ (fun m σ=>∃ i:Nat,i≤t.l.length∧m=t.l.length-i∧σ=⟨[(0,Lp 1000000),(3,Lp 3),(5,.sv (.one (.val (.slice ead t.l.length ecap)))),(6,Ln .i64 (i:Nat))],[tB 1000000 t,utB 3 (Tcs t ad cap iad icap lad lcap)],Y⟩) t.l.length
  (cC (σ':=⟨[(0,Lp 1000000),(3,Lp 3),(5,.sv (.one (.val (.slice ead t.l.length ecap)))),(6,Ln .i64 (0:Nat))],[tB 1000000 t,utB 3 (Tcs t ad cap iad icap lad lcap)],Y⟩) (Le.of VD VA V2 V2 V0) (cA ⟨0,by omega,by omega,rfl⟩)) ?_
 rintro m σ ⟨i,hi,rfl,rfl⟩
 by_cases hlt:i<t.l.length
 case neg =>
  refine U15 ?_
  refine cC (σ':=⟨[(4,Lb true)],[tB 1000000 t],Y⟩) (Le.of VF VF V2 V2 V0) ?_
  exact cC (Le.drop hY) (cA ⟨[],⟨[_],⟨O,trivial⟩,O⟩,V1,O,O⟩)
 obtain ⟨r,hr⟩:=wg hlt
 refine U13 ?_
 refine LWP.le (σ':=⟨[(0,Lp 1000000),(3,Lp 3),(5,.sv (.one (.val (.slice ead t.l.length ecap)))),(6,Ln .i64 (i:Nat))],[tB 1000000 t,utB 3 (Tcs t ad cap iad icap lad lcap)],Y⟩) (Le.of VD VA V2 V2 V0) ?_
 repeat refine aA ?_
 refine LWP.meetL (fun σ=>∃ (Z:Nat→Option Obj) (pad:Option Addr) (pcap:Nat),(∀ b o,Y b=some o→Z b=some o)∧PartsIn Z pad r.p∧σ=⟨[(7,.sv (.one (.val (.slice pad r.p.length pcap)))),(8,Ln .i64 0),(0,Lp 1000000),(3,Lp 3),(5,.sv (.one (.val (.slice ead t.l.length ecap)))),(6,Ln .i64 (i:Nat))],[tB 1000000 t,utB 3 (Tcs t ad cap iad icap lad lcap)],Z⟩) ?_ ?_
 ·cases hmm:tMade r.p.length with
  | false =>
   have hP:=tParts_none Y t hk i r hr hmm
   have hz:=tMade_zero hmm
   (refine U3 ?_;refine aU [(1000000,1000000)] [tB 1000000 t] (hP) O O V7 VE O O O O VB dO ?_;refine U6 ?_)
   exact Leads.here (σ':=⟨[(7,.sv (.one (.val (.slice none 0 0)))),(8,Ln .i64 0),(0,Lp 1000000),(3,Lp 3),(5,.sv (.one (.val (.slice ead t.l.length ecap)))),(6,Ln .i64 (i:Nat))],[tB 1000000 t,utB 3 (Tcs t ad cap iad icap lad lcap)],Y⟩) (Le.of VC VA V2 V2 V0) ⟨Y,none,0,fun _ _ h=>h,by rw [List.eq_nil_of_length_eq_zero hz];exact parts_nil16,by rw [hz]⟩
  | true =>
   have hP:=tParts Y t hk i r hr hmm
   (refine U3 ?_;refine bE [(1000000,1000000),(1000001,602)] (.tup [.one (.slc 602 0 r.p.length 2),Sn .i64 0]) [tB 1000000 t,prtB 602 r.p] (hP) O O V7 VE O O O O (by exact (.box O O (.box O O .nil))) dO ?_;refine U6 ?_)
   refine cC (σ':=⟨[(7,.sv (.one (.slc 602 0 r.p.length 2))),(8,Ln .i64 0),(0,Lp 1000000),(3,Lp 3),(5,.sv (.one (.val (.slice ead t.l.length ecap)))),(6,Ln .i64 (i:Nat))],[prtB 602 r.p,tB 1000000 t,utB 3 (Tcs t ad cap iad icap lad lcap)],Y⟩) (Le.of VC V9 V2 V2 V0) ?_
   refine Leads.fixRes O V16 O fun ρ H pc hR hO _ _ => ?_
   exact cA ⟨joinM Y H,some ⟨ρ.1,0,none⟩,pc,fun _ _ h=>joinM_has hO h,parts_mono (fun _ _ h=>joinM_in h) hR.2,O⟩
 rintro σ ⟨Z,pad,pcap,hZ,hPZ0,rfl⟩
 have hTZ:=hTY.mono hZ
 obtain ⟨eb,eo,earr,eel,efr,rfl,hEY,e1⟩:=hE.at_ i r.e (entsT_at hr)
 have hEZ:=hZ _ _ hEY
 obtain ⟨rb,ro,rarr,rel,rfr,qad,qcap,rfl,hRZ,_,_,r1,r2,hQ⟩:=hTZ.l.get hr
 have hio:=wo eo i 1
 have hro:=wo ro i 2
 have hadd:=wi i V3
 have hEnt:=tEnt Z t hk (i:Nat)
 rw [show (if rowB t (i:Nat)=true then entT t (Int.toNat ((i:Nat):Int)) else 0)=r.e by
  unfold rowB
  rw [cM (by omega),cM (by omega),Bool.and_self,if_pos rfl,dD]
  unfold entT
  rw [hr]] at hEnt
 have hrl:r.p.length≤24:=by rw [(hk.rows r (dA hr)).len];exact ids_le _
 (refine U2 ?_;refine rgD mixed ?_;refine U10 ?_;refine kne O O (r:=false) (cP O) ?_;refine U3 ?_;refine aU [(1000000,1000000)] [tB 1000000 t] (hEnt) O O V7 VE O O O O VB (dP O O) ?_;refine U2 ?_;refine aR O O bZ V3 hio (dP O O) ?_;refine aW O hEZ O e1 (dP O O) ?_;refine aX O O (r:=false) (cP O) (dP O O) ?_;refine U3 ?_;refine aX O O (r:=false) O (dP O O) ?_;refine U7 ?_;refine aR O O bZ V3 hro (dP O O) ?_;refine bH O O (dP O O) ?_;refine aW O hRZ O r2 (dP O O) ?_;refine U1 ?_;refine aX O O (r:=false) (cP O) (dP O O) ?_;refine U10 ?_)
 clear hEnt
 refine cJ (fun m σ=>∃ k:Nat,k≤r.p.length∧m=r.p.length-k∧σ=⟨[(7,.sv (.one (.val (.slice pad r.p.length pcap)))),(0,Lp 1000000),(3,Lp 3),(5,.sv (.one (.val (.slice (some ⟨eb,eo,none⟩) t.l.length ecap)))),(6,Ln .i64 (i:Nat)),(9,Ln .i64 (k:Nat))],[tB 1000000 t,utB 3 (Tcs t ad cap iad icap (some ⟨rb,ro,none⟩) lcap)],Z⟩) r.p.length
  (cC (σ':=⟨[(7,.sv (.one (.val (.slice pad r.p.length pcap)))),(0,Lp 1000000),(3,Lp 3),(5,.sv (.one (.val (.slice (some ⟨eb,eo,none⟩) t.l.length ecap)))),(6,Ln .i64 (i:Nat)),(9,Ln .i64 (0:Nat))],[tB 1000000 t,utB 3 (Tcs t ad cap iad icap (some ⟨rb,ro,none⟩) lcap)],Z⟩) (Le.of VC VA V2 V2 V0) (cA ⟨0,by omega,by omega,rfl⟩)) ?_
 rintro m σ ⟨k,hkk,rfl,rfl⟩
 by_cases hkl:k<r.p.length
 case neg =>
  refine U15 ?_
  refine cC (σ':=⟨[(0,Lp 1000000),(3,Lp 3),(5,.sv (.one (.val (.slice (some ⟨eb,eo,none⟩) t.l.length ecap)))),(6,Ln .i64 (i+1:Nat))],[tB 1000000 t,utB 3 (Tcs t ad cap iad icap (some ⟨rb,ro,none⟩) lcap)],Z⟩) (Le.of VD VA V2 V2 V0) ?_
  exact cC (Le.drop hZ) (cA ⟨t.l.length-(i+1),by omega,i+1,by omega,O,O⟩)
 obtain ⟨p,hp⟩:=wg hkl
 obtain ⟨pb,po,parr,pel,pfr,vad,vcap,rfl,hPZ,_,_,p1,p2,hN1⟩:=hPZ0.get hp
 obtain ⟨qb,qo,qarr,qel,qfr,wad,wcap,rfl,hQZ,_,_,q1,q2,hN2⟩:=hQ.get hp
 have hpo:=wo po k 2
 have hqo:=wo qo k 2
 have haddk:=wi k V3
 have hV:=values16 Z p.val p.val vad wad vcap wcap hN1 hN2 (by have:=hsm r (dA hr) p (dA hp);omega) true (cM rfl)
 ((refine U13 ?_;refine rgD mixed ?_;refine U15 ?_;refine kne O O (r:=false) (cP O) ?_;refine U3 ?_;refine aR O O bZ V3 hpo (dP O O) ?_;refine bH O O (dP O O) ?_;refine aW O hPZ O p2 (dP O O) ?_;refine U2 ?_);(refine U1 ?_;refine aR O O bZ V3 hro (dP O O) ?_;refine bH O O (dP O O) ?_;refine aW O hRZ O r2 (dP O O) ?_;refine U1 ?_;refine aR O O bZ V3 hqo (dP O O) ?_;refine bH O O (dP O O) ?_;refine aW O hQZ O q2 (dP O O) ?_;refine U12 ?_))
 exact cC (σ':=⟨[(7,.sv (.one (.val (.slice (some ⟨pb,po,none⟩) r.p.length pcap)))),(0,Lp 1000000),(3,Lp 3),(5,.sv (.one (.val (.slice (some ⟨eb,eo,none⟩) t.l.length ecap)))),(6,Ln .i64 (i:Nat)),(9,Ln .i64 (k+1:Nat))],[tB 1000000 t,utB 3 (Tcs t ad cap iad icap (some ⟨rb,ro,none⟩) lcap)],Z⟩) (Le.of VC VA V2 V2 V0) (cA ⟨r.p.length-(k+1),by omega,k+1,by omega,O,O⟩)
end Go.Proofs.YtbpdbclndfmcgaaGreatDoor
end
section
set_option maxHeartbeats 12800000
set_option maxRecDepth 100000
namespace Go.Proofs.YtbpdbclndfmcgaaGreatDoor
open Go Go.Lg Go.Lg.Fld Go.Lg.Sg
set_option maxRecDepth 100000
structure Ac where
 kind:Int
 i:Int
 e:Nat
 p:List Pt
structure AcsIn (X:Nat→Option Obj) (ad:Option Addr) (acs:List Ac):Prop where
 at_:∀ (i:Nat) (a:Ac),acs[i]? = some a→∃ (blk off:Nat) (arr:Array Value) (el:TypeId) (fr:Nat×Nat) (pad:Option Addr) (pcap:Nat),ad=some ⟨blk,off,none⟩∧X blk=some (.cells arr el fr)∧off+i*4+4≤arr.size ∧
  (arr.toList.drop (off+i*4)).take 4=[.int .i64 a.kind,.int .i64 a.i,.int .u64 (a.e:Nat),.slice pad a.p.length pcap]∧PartsC X pad a.p
 small:∀ a∈acs,(-9223372036854775808≤a.kind∧a.kind<9223372036854775808)∧(-9223372036854775808≤a.i∧a.i<9223372036854775808)∧a.e<18446744073709551616∧a.p.length<4611686018427387904∧∀ x∈a.p,x.val.length<4611686018427387904
variable (X:Nat→Option Obj)
end Go.Proofs.YtbpdbclndfmcgaaGreatDoor
end
section
set_option maxHeartbeats 12800000
set_option maxRecDepth 100000
namespace Go.Proofs.YtbpdbclndfmcgaaGreatDoor
open Go Go.Lg Go.Lg.Fld Go.Lg.Sg Go.RowKit Go.ChangeShapes Go.WideShapes Go.Joins
set_option maxRecDepth 100000
section
variable {H:Type} {enc:TypeId×Value→H} {w:World}
theorem open_acts16_w {fuel:Nat} {l:List Value} {x:DataW H×List MemPlace} (h:DataW.trod enc Tryz.prog w 0 (fun _=>true) true fuel 26 l=some x) (hw:Light Tryz.prog 26 x.1):
  ∃ (ad:Option Addr) (cap:Nat) (ls:List Ac),l=[.slice ad ls.length cap]∧ls.length≤4398046511104*4∧AcsIn (fun b=>w.heap[b]?) ad ls:=by
 obtain ⟨ad,cap,rows,rfl,hb,h1,_,h3,h4⟩:=open_rows_w (e:=64) (sz:=4) V5 V5 V11 h hw
 obtain ⟨ts,rfl,h5⟩:=map_of (f:=fun t:Ac×Option Addr×Nat=>[.int .i64 t.1.kind,.int .i64 t.1.i,.int .u64 (t.1.e:Nat),.slice t.2.1 t.1.p.length t.2.2]) (q:=fun t=>(PartsC (fun b=>w.heap[b]?) t.2.1 t.1.p∧t.1.p.length≤4398046511104*4∧∀ x∈t.1.p,x.val.length≤4398046511104*4)∧(-9223372036854775808≤t.1.kind∧t.1.kind<9223372036854775808)∧(-9223372036854775808≤t.1.i∧t.1.i<9223372036854775808)∧t.1.e<18446744073709551616) (vs:=rows) (fun u hu=>by
  obtain ⟨hlen,n,x,hx,hxw⟩:=h4 u hu
  obtain ⟨y0,y1,y2,y3,n',ex,_,g0,g1,g2,g3⟩:=trod_struct4 (t:=64) Tryz.underlying64 hx
  rw [ex] at hxw
  have hF3:=(Light.struct4 Tryz.underlying64 hxw).2.2.2
  obtain ⟨c0,c1,c2,c3,rfl⟩:∃ c0 c1 c2 c3,u=[c0,c1,c2,c3]:=by
   match u,hlen with
   | [c0,c1,c2,c3],_=>exact ⟨c0,c1,c2,c3,rfl⟩
  obtain ⟨k,e0,_,wa0⟩:=DataW.trod_int (k:=.i64) V5 g0
  obtain ⟨i,e1,_,wa1⟩:=DataW.trod_int (k:=.i64) V5 g1
  obtain ⟨s,e2,_,wa2⟩:=DataW.trod_int (k:=.u64) V5 g2
  obtain ⟨vad,vcap,ps,e3,_,hF1,hF,hF2⟩:=open_parts_w g3 hF3
  have q0:c0 = .int .i64 k:=by simpa using (show ([c0,c1,c2,c3].drop 0).take 1=[.int .i64 k] from e0)
  have q1:c1 = .int .i64 i:=by simpa using (show ([c0,c1,c2,c3].drop 1).take 1=[.int .i64 i] from e1)
  have q2:c2 = .int .u64 s:=by simpa using (show ([c0,c1,c2,c3].drop 2).take 1=[.int .u64 s] from e2)
  have q3:c3 = .slice vad ps.length vcap:=by simpa using (show ([c0,c1,c2,c3].drop 3).take 1=[.slice vad ps.length vcap] from e3)
  subst q0 q1 q2 q3
  have b0:=bounds_i64 wa0
  have b1:=bounds_i64 wa1
  have b2:=bounds_u64 wa2
  obtain ⟨s',rfl⟩:∃ s':Nat,s=(s':Int):=⟨s.toNat,by omega⟩
  exact ⟨(⟨k,i,s',ps⟩,vad,vcap),O,⟨hF,hF1,hF2⟩,(show (-9223372036854775808≤k∧k<9223372036854775808)∧(-9223372036854775808≤i∧i<9223372036854775808)∧s'<18446744073709551616 by omega)⟩)
 refine ⟨ad,cap,ts.map (·.1),by rw [cU,cU],by rw [cU,show Tryz.prog.bytesOf 64=48 by kernel_rfl,show reachBytes=140737488351232 by decide] at hb;rw [cU];omega,⟨fun i c hc => ?_,fun c hc => ?_⟩⟩
 ·rw [dI] at hc
  cases ht:ts[i]? with
  | none=>rw [ht] at hc;cases hc
  | some t =>
   rw [ht] at hc
   simp only [Option.map_some,Option.some.injEq] at hc
   subst hc
   obtain ⟨blk,off,arr,el,fr,g1,g2,g3,g4⟩:=h3 i _ (by rw [dI,ht];rfl)
   exact ⟨blk,off,arr,el,fr,t.2.1,t.2.2,g1,g2,g3,g4,(h5 t (dA ht)).1.1⟩
 ·obtain ⟨t,ht,rfl⟩:=List.mem_map.1 hc
  obtain ⟨⟨_,k1,k2⟩,k3,k4,k5⟩:=h5 t ht
  exact ⟨k3,k4,k5,by omega,fun x hx=>by have:=k2 x hx;omega⟩
theorem open_acts16 {r:Reach} {b0:Nat} {v:Value} {d:DataW H} {p:List MemPlace} (hv:Value.okWide Tryz.prog w r b0 26 v) (h:DataW.Trod enc Tryz.prog w 0 (fun _=>true) true 26 v d p) (hw:Light Tryz.prog 26 d):
  ∃ (ad:Option Addr) (cap:Nat) (ls:List Ac),v = .slice ad ls.length cap∧ls.length≤4398046511104*4∧AcsIn (fun b=>w.heap[b]?) ad ls:=by
 obtain ⟨a,len,cap0,rfl⟩:=okWide_slice (e:=64) V5 hv
 obtain ⟨fuel,hf⟩:=h
 obtain ⟨ad,cap,ls,e1,h1,h2⟩:=open_acts16_w hf hw
 simp [Value.cells] at e1
 obtain ⟨rfl,rfl,rfl⟩:=e1
 exact ⟨_,_,ls,O,h1,h2⟩
end
end Go.Proofs.YtbpdbclndfmcgaaGreatDoor
end
section
set_option maxHeartbeats 12800000
set_option maxRecDepth 100000
namespace Go.Proofs.YtbpdbclndfmcgaaGreatDoor
open Go Go.Lg Go.Lg.Fld Go.Lg.Sg
set_option maxRecDepth 100000
abbrev keyT (r:Rw):Value:=.int .u64 (r.e:Nat)
structure MvI (Y:Nat→Option Obj) (l:List Rw) (n:Nat) (m:List (Value×Value)):Prop where
 len:m.length=l.length
 nd:(l.map Rw.e).Nodup
 small:∀ r∈l,r.e≤n
 has:∀ r∈l,∃ (pad:Option Addr) (cap:Nat),(keyT r,Value.slice pad r.p.length cap)∈m∧PartsIn Y pad r.p
 keys:∀ p∈m,∃ r∈l,p.1=keyT r
 ks:(m.map (·.1)).Nodup
end Go.Proofs.YtbpdbclndfmcgaaGreatDoor
end
section
set_option maxHeartbeats 12800000
set_option maxRecDepth 100000
namespace Go.Proofs.YtbpdbclndfmcgaaGreatDoor
open Go Go.Lg Go.Lg.Fld Go.Lg.Sg
set_option maxRecDepth 100000
def fl16:List Fl:=[⟨[120],6,1⟩]
def sc16:Sc:=⟨1,[⟨1,[97],fl16⟩,⟨2,[98],[]⟩]⟩
def p16:List Pt:=[⟨1,[(false,7)]⟩]
def t16:Tb:=⟨sc16,2,2,0,[]⟩
def t16a:Tb:=addT t16 9 p16
def t16b:Tb:=addT t16a 8 p16
def t16c:Tb:=dropT t16b 0
def t16d:Tb:={ t16c with kept:=t16c.kept+1 }
theorem good16:goodT sc16 2 2=true:=by decide +kernel
theorem good16n:goodT sc16 8 1=false:=by decide +kernel
theorem q16a:addE t16 9 p16=0:=by decide +kernel
theorem q16b:addE t16a 8 p16=0:=by decide +kernel
theorem q16c:addE t16b 6 p16=5:=by decide +kernel
theorem q16d:tgetE t16b 0 1=0:=by decide +kernel
theorem q16e:bytesT t16b 0 1=[7]:=by decide +kernel
theorem q16f:movedT t16b 0=8:=by decide +kernel
theorem q16g:tgetE t16c 0 2=6:=by decide +kernel
theorem q16h:roomT t16c=1:=by decide +kernel
theorem q16i:roomT t16d=0:=by decide +kernel
theorem ok16:TbOk t16:=TbOk.new V11 good16
theorem ok16a:TbOk t16a:=(ok16.add V11 q16a).1
theorem ok16b:TbOk t16b:=(ok16a.add V11 q16b).1
theorem ok16c:TbOk t16c:=ok16b.drop (by decide +kernel)
theorem ok16d:TbOk t16d:=ok16c.kept (by rw [q16h];decide)
theorem inb16:InB sc16.cs:=by
 intro c hc
 simp only [sc16,List.mem_cons,List.not_mem_nil,or_false] at hc
 rcases hc with rfl|rfl
 ·refine ⟨by decide,fun f hf => ?_⟩
  simp only [fl16,List.mem_cons,List.not_mem_nil,or_false] at hf
  subst hf;decide
 ·exact ⟨by decide,fun f hf=>by cases hf⟩
theorem few16:sc16.cs.length≤30∧∀ c∈sc16.cs,c.fs.length≤12:=⟨by decide,fun c hc=>by
 simp only [sc16,List.mem_cons,List.not_mem_nil,or_false] at hc
 rcases hc with rfl|rfl<;>decide⟩
theorem lent_sc16 {S:Nat→Option (Option Box)} {Y:Nat→Option Obj} {k n:Nat} {cs:List Cp} {e:TypeId} {cc:List CV} {u:Value} (hk:S k=some (some ⟨e,cc,.res (scR cs)⟩)) (hu:LentC S Y (.slc k 0 n 3) u):∃ (blk cap:Nat),u = .slice (some ⟨blk,0,none⟩) n cap∧CompsIn Y (some ⟨blk,0,none⟩) cs:=by
 obtain ⟨b,blk,cap2,m,hk',rfl,hc,hfit,hB⟩:=hu
 rw [hk] at hk'
 simp only [Option.some.injEq] at hk'
 subst hk'
 obtain ⟨H,hR,hHY⟩:=hB
 exact ⟨blk,cap2,O,scR_in hR hHY⟩
variable (X:Nat→Option Obj)
abbrev c16v (c:CV):List CV:=[.val (.int .i64 1),.val (.string ⟨#[97]⟩),c,.val (.int .i64 2),.val (.string ⟨#[98]⟩),.val (.slice none 0 0)]
theorem one16_spec:MSpec Tryz.prog X 34 [] [] (.sv (.agg [.val (.int .i64 1),.slc 1000001 0 2 3])) [scB 1000001 sc16.cs]:=by
 refine cE Tryz.func34 rfl V5 rfl rfl V4 rfl rfl ?_
 intro C
 refine LWP.ends ?_
 (refine U6 ?_;refine aT O O V2 V20 dO ?_;refine aZ (zs:=[Value.string ⟨#[]⟩,.int .i64 0,.int .i64 0]) (sz:=3) (e:=125) (cs':=(flV fl16).map .val) V5 O O O O O O dO<|aT O O V2 V20 dO ?_;refine aT O O V2 V20 dO ?_;refine aZ (zs:=(List.replicate 2 [Value.int .i64 0,.string ⟨#[]⟩,.slice none 0 0]).flatten) (sz:=3) (e:=86) (cs':=c16v (.slc 2 0 1 3)) V5 O O O O O O dO<|aT O O V2 V1C dO ?_;refine U3 ?_)
 refine cC (σ':=⟨[(0,Lp 0)],[(5,some ⟨86,[.val (.int .i64 1),.val (.string ⟨#[97]⟩)] ++ .slc 2 0 1 3::[.val (.int .i64 2),.val (.string ⟨#[98]⟩),.val (.slice none 0 0)],false⟩),(2,some ⟨125,(flV fl16).map .val,false⟩),(0,some ⟨24,[.val (.int .i64 1),.slc 5 0 2 3],false⟩)],joinM X (fun _=>none)⟩) (by rw [joinM_nil];exact Le.of VF V9 V2 V2 V0) ?_
 refine Leads.closeCell (OwnedM.nil C X) O O O O O O O fun b o v g1 _ hO3 hv => ?_
 have G:Twigs (withBlock (fun _=>none) b o) 125 3 [] [v,.slice none 0 0] (sc16.cs.map fun c=>flV c.fs):=((Twigs.nil _ _ _ _).push g1 hv V11).pushZ none 0
 refine cC (σ':=⟨[(0,Lp 0)],[(5,some ⟨86,(rowsZ sc16.cs [v,.slice none 0 0]++[]).map .val,false⟩),(0,some ⟨24,[.val (.int .i64 1),.slc 5 0 2 3],false⟩)],joinM X (withBlock (fun _=>none) b o)⟩) (Le.of VF VA V2 V2 V0) ?_
 refine sc_shut hO3 G inb16 (cA ?_)
 exact ⟨[(1000001,5)],⟨[_],⟨⟨_,_,O,O,O,.inl ⟨AggT.h,O⟩⟩,trivial⟩,O⟩,V1,O,O⟩
theorem names16s:NamesIn sc16.cs:=fun c hc=>by
 have:∀ c∈sc16.cs,c.nm.length≤9223372036854775807∧∀ f∈c.fs,f.nm.length≤9223372036854775807:=by decide
 exact this c hc
theorem new16_lent:MSpec Tryz.prog X 8 [.sv (.agg [.val (.int .i64 1),.slc 1000000 0 2 3]),Ln .u32 2,Ln .i64 2] [scB 1000000 sc16.cs] (Lp 1000001) ([scB 1000000 sc16.cs]++[tB 1000001 t16]):=by
 refine MSpec.lend V5 O V4 V4 O O fun Y us hY hL => ?_
 obtain ⟨u1,us1,rfl,⟨av,rfl,a1,av1,rfl,g1,a2,av2,rfl,g2,rfl⟩,u2,us2,rfl,h2,u3,us3,rfl,h3,rfl⟩:=hL
 have g1:a1 = .int .i64 1:=g1
 have h2:u2 = .int .u32 2:=h2
 have h3:u3 = .int .i64 2:=h3
 subst g1 h2 h3
 obtain ⟨blk,cap,rfl,hin⟩:=lent_sc16 (S:=stOf [scB 1000000 sc16.cs]) (k:=1000000) rfl g2
 exact tNew Y sc16 2 2 (some ⟨blk,0,none⟩) cap hin names16s few16 V11 good16
theorem new16_no {S:Nat→Option (Option Box)} {k:Nat} {e:TypeId} {cc:List CV} (hk:S k=some (some ⟨e,cc,.res (scR sc16.cs)⟩)):
  ∀ (Y:Nat→Option Obj) (us:List Value),(∀ b o,X b=some o→Y b=some o)→LentLs S Y [.sv (.agg [.val (.int .i64 1),.slc k 0 2 3]),Ln .u32 8,Ln .i64 1] us→PSpec Tryz.prog Y 8 (us.map toLV) LnilT:=by
 intro Y us hY hL
 obtain ⟨u1,us1,rfl,⟨av,rfl,a1,av1,rfl,g1,a2,av2,rfl,g2,rfl⟩,u2,us2,rfl,h2,u3,us3,rfl,h3,rfl⟩:=hL
 have g1:a1 = .int .i64 1:=g1
 have h2:u2 = .int .u32 8:=h2
 have h3:u3 = .int .i64 1:=h3
 subst g1 h2 h3
 obtain ⟨blk,cap,rfl,hin⟩:=lent_sc16 hk g2
 exact tNew_no Y sc16 8 1 (some ⟨blk,0,none⟩) cap hin names16s few16 V11 good16n
end Go.Proofs.YtbpdbclndfmcgaaGreatDoor
end
section
set_option maxHeartbeats 12800000
set_option maxRecDepth 100000
namespace Go.Proofs.YtbpdbclndfmcgaaGreatDoor
open Go Go.Lg Go.Lg.Fld Go.Lg.Sg
set_option maxRecDepth 100000
variable (X:Nat→Option Obj)
set_option maxHeartbeats 25600000 in
theorem awake16_spec:PSpec Tryz.prog X 6 [] (Lb true):=by
 have h1:=one16_spec X
 have h2:=new16_lent X
 refine cD Tryz.func6 rfl V5 rfl rfl ?_
 intro C
 (refine U6 ?_;refine bE [(1000001,701)] (.sv (.agg [.val (.int .i64 1),.slc 701 0 2 3])) [scB 701 sc16.cs] (h1) O O V15 O O O O O VB dO<|bE [(1000000,701),(1000001,500)] (Lp 500) [scB 701 sc16.cs,tB 500 t16] (h2) O O V7 VE O O O O (by exact (.box O O (.box O O .nil))) dO ?_;refine U3 ?_)
 have o7:=Of_spec X 7 V11
 (refine U2 ?_;refine aZ (zs:=[.bool false,.int .u64 0,.int .u64 0]) (sz:=3) (e:=82) (cs':=(nmsV [(false,7)]).map .val) V5 O O O O O O dO<|aT O O V2 V1C dO ?_;refine aZ (zs:=[.int .i64 0,.slice none 0 0]) (sz:=2) (e:=50) (cs':=[.val (.int .i64 1),.slc 18 0 1 3]) V5 O O O O O O dO ?_;refine U3 ?_)
 refine LWP.le (σ':=⟨[(2,.sv (.one (.slc 20 0 1 2))),(1,Lp 500)],[(20,some ⟨50,[.val (.int .i64 1)] ++ .slc 18 0 1 3::[],false⟩),(18,some ⟨82,(nmsV [(false,7)]).map .val,false⟩),tB 500 t16],X⟩) (Le.of VA V9 V2 V2 V0) ?_
 refine LWP.freezeCell O O O O O O fun k1 cp1 arr1 fr1 hn1 _ hc1 _ hv1 => ?_
 have hN:NumsIn (withBlock X k1 (.cells arr1 82 fr1)) (some ⟨k1,0,none⟩) [(false,7)]:=nms_in (cK _ _ _) (fun u hu=>by rw [List.mem_singleton.1 hu];exact ⟨by decide,by decide⟩) hv1
 clear hv1 hn1 h1 h2 o7
 generalize withBlock X k1 (.cells arr1 82 fr1)=Y at *
 generalize (some ⟨k1,0,none⟩:Option Addr)=vad at *
 refine LWP.le (σ':=⟨[(2,.sv (.one (.slc 20 0 1 2))),(1,Lp 500)],[(20,some ⟨50,[Value.int .i64 1,.slice vad 1 cp1].map .val,false⟩),tB 500 t16],Y⟩) (Le.of VA VA V2 V2 V0) ?_
 refine LWP.freeze O V4 O fun k2 cp2 arr2 fr2 hn2 _ _ _ hv2 => ?_
 have hP:PartsC (withBlock Y k2 (.cells arr2 50 fr2)) (some ⟨k2,0,none⟩) p16:=by
  obtain ⟨sp,hv⟩:=hv2
  refine ⟨fun i p hp => ?_,fun p hp=>by rw [List.mem_singleton.1 hp];exact ⟨by decide,by decide⟩⟩
  obtain ⟨rfl,rfl⟩:i=0∧p=⟨1,[(false,7)]⟩:=by
   cases i with
   | zero=>exact ⟨rfl,(Option.some.inj hp).symm⟩
   | succ i=>simp [p16] at hp
  refine ⟨k2,0,arr2,_,fr2,vad,cp1,O,cK _ _ _,?_,?_,⟨hN.rows.mono (cG hn2),hN.in2⟩,hc1⟩
  ·rw [← Array.length_toList,hv];simp
  ·rw [hv];rfl
 clear hv2 hn2 hN hc1
 generalize withBlock Y k2 (.cells arr2 50 fr2)=Z at *
 generalize (some ⟨k2,0,none⟩:Option Addr)=pad at *
 have hl12:p16.length≤12∧∀ x∈p16,x.val.length<4611686018427387904:=⟨by decide,fun x hx=>by rw [List.mem_singleton.1 hx];decide⟩
 have a1:=tAdd Z t16 ok16 9 V11 p16 pad cp2 hP hl12 q16a
 have a2:=tAdd Z t16a ok16a 8 V11 p16 pad cp2 hP hl12 q16b
 have a3:=tAdd_no Z t16b ok16b 6 V11 p16 pad cp2 hP hl12 (by rw [q16c];decide)
 have a4:=tBytes Z t16b ok16b 0 1 q16d
 have a5:=tDrop Z t16b ok16b 0 (by decide +kernel)
 have a6:=tGet_no Z t16c ok16c 0 2 (by rw [q16g];decide)
 have a7:=tLen Z t16c ok16c
 have a8:=tRoom Z t16c ok16c
 have a9:=tKeep Z t16c ok16c (by rw [q16h];decide)
 have a10:=tKept Z t16d ok16d
 have a11:=tRoom Z t16d ok16d
 rw [q16c] at a3
 rw [q16e] at a4
 rw [q16f] at a5
 rw [q16g] at a6
 rw [q16h] at a8
 rw [q16i] at a11
 rw [show t16.l.length=0 from rfl,show addT t16 9 p16=t16a from rfl] at a1
 rw [show t16a.l.length=1 by decide +kernel,show addT t16a 8 p16=t16b from rfl] at a2
 rw [show dropT t16b 0=t16c from rfl] at a5
 rw [show t16c.l.length=1 by decide +kernel] at a7
 rw [show { t16c with kept:=t16c.kept+1 }=t16d from rfl] at a9
 rw [show t16d.kept=1 by decide +kernel] at a10
 have b1:=one16_spec Z
 have b2:=fun (S:Nat→Option (Option Box)) h=>new16_no Z (S:=S) (k:=702) (e:=0) (cc:=[]) h
 have hpl:p16.length=1:=rfl
 generalize p16=p at *
 generalize t16=t at *
 generalize t16a=ta at *
 generalize t16b=tb at *
 generalize t16c=tc at *
 generalize t16d=td at *
 rw [hpl] at a1 a2 a3
 (refine U3 ?_;refine aU [(1000000,500)] [tB 500 ta] (a1) O O V7 VE O O O O VB dO ?_;refine U10 ?_;refine aU [(1000000,500)] [tB 500 tb] (a2) O O V7 VE O O O O VB dO ?_;refine U10 ?_;refine aU [(1000000,500)] [tB 500 tb] (a3) O O V7 VE O O O O VB dO ?_;refine U9 ?_;refine aU [(1000000,500)] [tB 500 tb] (a4) O O V7 VE O O O O VB dO ?_;refine U9 ?_;refine aU [(1000000,500)] [tB 500 tc] (a5) O O V7 VE O O O O VB dO ?_;refine U9 ?_;refine aU [(1000000,500)] [tB 500 tc] (a6) O O V7 VE O O O O VB dO ?_;refine U7 ?_)
 ((refine U2 ?_;refine keq O O (r:=true) O ?_;refine U22 ?_;refine K.strEq O O (strs_eq (r:=true) O) (dP O O) ?_;refine U15 ?_;refine aU [(1000000,500)] [tB 500 tc] (a7) O O V7 VE O O O O VB (dP O O) ?_;refine U4 ?_;refine aU [(1000000,500)] [tB 500 tc] (a8) O O V7 VE O O O O VB (dP O O) ?_);(refine U4 ?_;refine aU [(1000000,500)] [tB 500 td] (a9) O O V7 VE O O O O VB (dP O O) ?_;refine U4 ?_;refine aU [(1000000,500)] [tB 500 td] (a10) O O V7 VE O O O O VB (dP O O) ?_;refine U4 ?_;refine aU [(1000000,500)] [tB 500 td] (a11) O O V7 VE O O O O VB (dP O O) ?_;refine U3 ?_;refine bE [(1000001,702)] (.sv (.agg [.val (.int .i64 1),.slc 702 0 2 3])) [scB 702 sc16.cs] (b1) O O V15 O O O O O VB (dP O O) ?_;refine K.callL [702] O O V5 (b2 _ O) (dP O O) ?_;refine K.nilNil O V5 (.inl ⟨O,O⟩) (dP O O) ?_;refine U4 ?_))
 exact V6
end Go.Proofs.YtbpdbclndfmcgaaGreatDoor
end
section
set_option maxHeartbeats 12800000
set_option maxRecDepth 100000
namespace Go.Proofs.YtbpdbclndfmcgaaGreatDoor
open Go Go.Lg Go.Lg.Fld Go.Lg.Sg
set_option maxRecDepth 100000
theorem nums_nil16 {X:Nat→Option Obj} {ad:Option Addr}:NumsIn X ad []:=⟨fun i r hr=>by simp at hr,fun u hu=>by cases hu⟩
theorem fit_few {fs:List Fl} {ns:List (Bool×Int)} (h:fitErr fs ns=0):ns.length≤64:=by
 obtain ⟨h1,h2,_⟩:=fitErr_facts h
 unfold layErr at h1
 split at h1
 ·cases h1
 split at h1
 ·rename_i h8 hall
  have:=(elems_len fs 0 hall).2
  omega
 ·cases h1
theorem row_few {t:Tb} (hk:TbOk t) {r:Rw} (hr:r∈t.l) {p:Pt} (hp:p∈r.p):p.val.length≤64:=fit_few ((hk.rows r hr).fit p hp)
theorem row_big {t:Tb} (hk:TbOk t) {r:Rw} (hr:r∈t.l) {p:Pt} (hp:p∈r.p):p.val.length<4611686018427387904:=by have:=row_few hk hr hp;omega
variable (X:Nat→Option Obj)
end Go.Proofs.YtbpdbclndfmcgaaGreatDoor
end
