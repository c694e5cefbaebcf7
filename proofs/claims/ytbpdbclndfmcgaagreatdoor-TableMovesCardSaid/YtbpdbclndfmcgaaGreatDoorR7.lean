/- A piece of a proof over this program: contracts of its functions, and a logic to prove them by. -/
import Derived.Test.YtbpdbclndfmcgaaGreatDoorR3
import Derived.Test.YtbpdbclndfmcgaaGreatDoorR4
import Derived.Test.YtbpdbclndfmcgaaGreatDoorR5
import Derived.Test.YtbpdbclndfmcgaaGreatDoorR6
import Derived.Lib.ItoaLen
import Derived.Lib.SmallJoins
section
namespace Go.Proofs.YtbpdbclndfmcgaaGreatDoor
open Go Go.Lg Go.Lg.Fld Go.Lg.Sg Go.Lg.Col
set_option maxRecDepth 100000
def zerP (k:Nat):List Value:=(List.replicate k [Value.int .i64 0,Value.slice none 0 0]).flatten
theorem zerP_succ (k:Nat):zerP (k+1)=[Value.int .i64 0,Value.slice none 0 0]++zerP k:=by unfold zerP;rw [List.replicate_succ,List.flatten_cons]
theorem zerP_len (k:Nat):(zerP k).length=k*2:=by
  induction k with
  | zero=>rfl
  | succ k ih=>rw [zerP_succ,cS,ih];simp;omega
variable (X:Nat→Option Obj)
set_option maxHeartbeats 6400000 in
theorem tPartsM (t:Tb) (hk:TbOk t) (i:Nat) (r:Rw) (h:t.l[i]? = some r):MSpec Tryz.prog X 13 [Lp 1000000,Ln .i64 (i:Nat)] [tB 1000000 t] (.tup [.one (.slc 1000001 0 r.p.length 2),Sn .i64 0]) [tB 1000000 t,prtB 1000001 r.p]:=by
  have h24:=t_len24 hk
  have hi:=(List.getElem?_eq_some_iff.1 h).1
  have hrl:r.p.length=(onlyC t.sc.cs t.set).length:=by rw [(hk.rows r (cZ h)).len,t_len hk]
  have hsm:∀ p∈r.p,smallP p:=fun p hp=>by
    have hmem:p.comp∈idsL t.set:=by rw [← (hk.rows r (cZ h)).ids];exact List.mem_map.2 ⟨p,hp,rfl⟩
    obtain ⟨g1,g2,_⟩:=mem_ids.1 hmem
    unfold smallP;omega
  refine cD Tryz.func13 rfl (by kernel_rfl) rfl rfl (by exact (by repeat' (first|refine bR ?_ ?_|rfl|exact bT|exact bS|exact bU rfl))) rfl rfl ?_
  intro C
  refine LWP.ends (tab_open fun Hs He Hr vE vC vP ps h1 h2 h3 hI => ?_)
  obtain ⟨ad,cap,rfl⟩:=hI.ents.slice
  obtain ⟨cb,cc,rfl,hin⟩:=hI.sc
  obtain ⟨ptad,ptcap,hvP,hPt⟩:=hI.ptrs
  have hptr:=hI.ptrs
  subst hvP
  have hps:ps.length=(onlyC t.sc.cs t.set).length:=by rw [hI.refs.len];exact colsG_len _ _ _
  rw [cT] at hI ⊢
  have hs:=seek0 (tH X Hs He Hr) t ad t.l.length cap (.slice (some ⟨cb,0,none⟩) (onlyC t.sc.cs t.set).length cc) (.slice ptad ps.length ptcap) i hi
  have hmk:slcBuild Tryz.prog 43 ps.length=some (zerP ps.length,2,50):=slcBuild_many (z := #[.int .i64 0,.slice none 0 0]) (by kernel_rfl) (by kernel_rfl) rfl (by omega)
  generalize hnc:(onlyC t.sc.cs t.set).length=nc at *
  (refine aA<|rgN<|kas O<|kas O<|aB<|aA<|aA<|rgN<|kmv O<|kmv O<|K.callR [(1000000,1000000)] (hs) O O (by exact (cM ⟨_,O,O⟩ trivial)) (by exact (bR (bR O (bR O (bR O (bR O (bR O (bR O (bR O O))))))) O)) O O O O dN<|kas O<|aB<|aA ?_;refine rgN<|kmv O<|kne O O (r:=false) O<|aB<|aE O ?_;refine aG ?_;refine aA<|rgN<|kmv O<|bH O dN<|kfa O O ?_;refine kl1 O O O<|aP O bY O dN ?_;refine K.makeSlc (m:=ps.length) (bytes:=32) O O hmk (by kernel_rfl) (by omega) O O dN<|kas O<|aB<|aA<|aA<|rgN<|kmv O<|bH O dN<|kfa O O ?_;refine kfa O O ?_;refine kl1 O O O<|aP O bY O dN ?_;refine kmv O<|aB<|aF ?_)
  refine cH (fun m σ=>∃ (j:Nat) (ws:List Value) (Hv H:Nat→Option Obj),j≤nc∧m=nc-j∧OwnedM C (joinM (joinM X Hs) He) Hv∧OwnedM C (joinM (joinM (joinM X Hs) He) Hv) H∧Refs H ps (colsT t)∧PartsH Hv ws (r.p.take j)∧σ=⟨[(0,Lp 1000000),(1,Ln .i64 (i:Nat)),(7,.sv (.one (.slc 500 0 ps.length 2))),(28,.sv (.one (vS (some ⟨cb,0,none⟩) nc cc))),(29,Ln .i64 (nc:Nat)),(30,Ln .i64 (j:Nat))],[(500,some ⟨50,(ptZ (r.p.take j) ws++zerP (ps.length-j)).map .val,false⟩),tS 1000000 t (vS ad t.l.length cap) (.slice (some ⟨cb,0,none⟩) nc cc) (.slice ptad ps.length ptcap)],joinM (joinM (joinM (joinM X Hs) He) Hv) H⟩) nc
    (cA (σ':=⟨[(0,Lp 1000000),(1,Ln .i64 (i:Nat)),(7,.sv (.one (.slc 500 0 ps.length 2))),(28,.sv (.one (vS (some ⟨cb,0,none⟩) nc cc))),(29,Ln .i64 (nc:Nat)),(30,Ln .i64 (0:Nat))],[(500,some ⟨50,(ptZ (r.p.take 0) []++zerP (ps.length-0)).map .val,false⟩),tS 1000000 t (vS ad t.l.length cap) (.slice (some ⟨cb,0,none⟩) nc cc) (.slice ptad ps.length ptcap)],tH X Hs He Hr⟩) (Le.ofR [(500,23)] (by exact ⟨rfl,rfl,rfl,rfl,rfl,rfl,trivial⟩) (by repeat' (first|exact trivial|refine cM ⟨_,rfl,?_⟩ ?_|refine cM ⟨_,rfl⟩ ?_|rfl|exact bV _ _ _ _|exact bW _ _ _ _|exact bX rfl)) (by exact rfl) (by exact rfl) (by repeat' (first|refine bR ?_ ?_|rfl|exact bT|exact bS|exact bU rfl)) (by exact rfl) (by exact rfl)) (bZ ⟨0,[],fun _=>none,Hr,by omega,by omega,OwnedM.nil _ _,by rw [joinM_nil];exact h3,hI.refs,PartsH.nil,by rw [joinM_nil]⟩)) ?_
  rintro m σ ⟨j,ws,Hv,H,hj,rfl,hOv,hO,hR,G,rfl⟩
  have hwl:ws.length=j:=by rw [G.len,cW];omega
  by_cases hlt:j<nc
  case neg =>
    have e:j=nc:=by omega
    subst e
    rw [List.take_of_length_le (by omega:r.p.length≤j)] at G ⊢
    obtain ⟨k1,k2,k3⟩:=OwnedM.swap hOv hO
    rw [k3]
    (refine aA<|rgN<|klt O O (cK (by omega))<|aB<|aA<|aE O ?_;refine aI<|aA<|rgN<|kmv O<|kas O<|kas O<|aB<|aH ?_)
    refine cA (σ':=⟨[(4,.sv (.one (.slc 500 0 r.p.length 2))),(5,Ln .i64 0)],[(500,some ⟨50,(ptZ r.p ws++zerP (ps.length-j)).map .val,false⟩),tS 1000000 t (vS ad t.l.length cap) (.slice (some ⟨cb,0,none⟩) j cc) (.slice ptad ps.length ptcap)],joinM (joinM (joinM (joinM X Hs) He) H) Hv⟩) (by rw [show r.p.length=ps.length by omega];exact Le.of (by exact ⟨rfl,rfl,trivial⟩) (by exact ⟨rfl,rfl,trivial⟩) (by exact rfl) (by exact rfl) (by repeat' (first|refine bR ?_ ?_|rfl|exact bT|exact bS|exact bU rfl))) ?_
    refine prt_shut k2 G hsm ?_
    refine cA (σ':=⟨[(4,.sv (.one (.slc 500 0 r.p.length 2))),(5,Ln .i64 0)],[tS 1000000 t (vS ad t.l.length cap) (.slice (some ⟨cb,0,none⟩) j cc) (.slice ptad ps.length ptcap),prtB 500 r.p],tH X Hs He H⟩) (Le.of (by exact ⟨O,O,trivial⟩) (by exact ⟨O,O,trivial⟩) (by exact O) (by exact O) (by repeat' (first|refine bR ?_ ?_|rfl|exact bT|exact bS|exact bU O))) ?_
    refine tab_shut h1 h2 k1 ⟨⟨cb,cc,by rw [← hnc],hin⟩,⟨ptad,ptcap,rfl,hPt⟩,hR,hI.ents,hI.two⟩ (bZ ?_)
    exact ⟨[(1000001,500)],⟨[_,_],⟨rfl,rfl,trivial⟩,rfl⟩,(by repeat' (first|exact trivial|refine cM ⟨_,rfl,?_⟩ ?_|refine cM ⟨_,rfl⟩ ?_|rfl|exact bV _ _ _ _|exact bW _ _ _ _|exact bX rfl)),rfl,rfl⟩
  obtain ⟨c,hc⟩:∃ c,(onlyC t.sc.cs t.set)[j]? = some c:=⟨_,cU (by omega)⟩
  obtain ⟨p,hp,hpc,hpf,hcol⟩:=t_row hk hc h
  have hsz:=t_size hk hc
  have hYs:∀ b o,Hs b=some o→joinM (joinM X Hs) He b=some o:=fun b o hb=>joinM_has h2 (joinM_in hb)
  have hM1:∀ b o,Hs b=some o→joinM (joinM (joinM (joinM X Hs) He) Hv) H b=some o:=fun b o hb=>joinM_has hO (joinM_has hOv (hYs b o hb))
  obtain ⟨cblk,coff,carr,cel,cfr,fad,fcap,hq,hcX,hcsz,hccs,_,_,_,_⟩:=(hin.mono hM1).get hc
  simp only [Option.some.injEq,Addr.mk.injEq] at hq
  obtain ⟨rfl,rfl,_⟩:=hq
  have hio:0+Int.toNat (j:Int)*3=0+j*3:=by simp
  (refine aA<|rgN<|klt O O (cL (by omega))<|aB<|aA<|aD O ?_;refine aG ?_;refine aA<|aF<|aA<|rgN<|kmv O<|aQ O O bY (by omega) hio dN<|aX O hcX (by kernel_rfl) hcsz hccs dN<|aO O dN ?_;refine kas O<|aL O O O O O O dN ?_;refine aB<|aA ?_)
  refine LWP.le (σ':=⟨[(8,Ln .i64 (j:Nat)),(9,Lp 9),(0,Lp 1000000),(1,Ln .i64 (i:Nat)),(7,.sv (.one (.slc 500 0 ps.length 2))),(28,.sv (.one (vS (some ⟨cb,0,none⟩) nc cc))),(29,Ln .i64 (nc:Nat)),(30,Ln .i64 (j:Nat))],[(9,some ⟨86,[.val (.int .i64 c.id),.val (.string ⟨c.nm.toArray⟩),.val (.slice fad c.fs.length fcap)],false⟩),(500,some ⟨50,(ptZ (r.p.take j) ws++zerP (ps.length-j)).map .val,false⟩),tS 1000000 t (vS ad t.l.length cap) (.slice (some ⟨cb,0,none⟩) nc cc) (.slice ptad ps.length ptcap)],joinM (joinM (joinM (joinM X Hs) He) Hv) H⟩) (Le.of (by exact ⟨O,O,O,O,O,O,O,O,trivial⟩) (by exact ⟨O,O,O,trivial⟩) (by exact O) (by exact O) (by repeat' (first|refine bR ?_ ?_|rfl|exact bT|exact bS|exact bU O))) ?_
  refine tcol_open (kk:=501) hO hR (colsG_at hc) O (by repeat' (first|refine bR ?_ ?_|rfl|exact bS)) O (by omega) fun b H0 hb hO0 hback => ?_
  have hM0:∀ b o,Hs b=some o→joinM (joinM (joinM (joinM X Hs) He) Hv) H0 b=some o:=fun b o hb=>joinM_has hO0 (joinM_has hOv (hYs b o hb))
  have hq:=value0 (joinM (joinM (joinM (joinM X Hs) He) Hv) H0) t (.slice ad t.l.length cap) (onlyC t.sc.cs t.set) (some ⟨cb,0,none⟩) cc (.slice ptad ps.length ptcap) ps i j b (rowSize c.fs) t.most (colL t.l j c) c p.val (hin.mono hM0) (hptr.mono hM0) hb hc hcol hpf (hI.two r (cZ h) p (cZ hp)) hsz.1 (by omega)
  rw [hnc] at hq
  have hroot:=colR_root (rowSize c.fs) t.most (colL t.l j c)
  have hset:(colsT t).set j (colR (rowSize c.fs) t.most (colL t.l j c))=colsT t:=colsG_set hc fun _ _ _ _=>rfl
  have hv2:=hI.two r (cZ h) p (cZ hp)
  have hlz:(ptZ (r.p.take j) ws).length=j*2:=by rw [ptZ_len (by rw [hwl,cW];omega),cW];omega
  have hix:0+Int.toNat (j:Int)*2=j*2:=by rw [dC];omega
  have hroom:j*2+2≤((ptZ (r.p.take j) ws++zerP (ps.length-j)).map CV.val).length:=by rw [cT,cS,hlz,zerP_len];omega
  have hspl:splice ((ptZ (r.p.take j) ws++zerP (ps.length-j)).map CV.val) (j*2) [.val (.int .i64 c.id),.slc 601 0 p.val.length 3]=(ptZ (r.p.take j) ws++[Value.int .i64 c.id]).map CV.val ++ .slc 601 0 p.val.length 3::(zerP (ps.length-(j+1))).map .val:=by
    unfold splice
    rw [show ps.length-j=(ps.length-(j+1))+1 by omega,zerP_succ]
    simp only [dD,dI]
    have hml:((ptZ (r.p.take j) ws).map CV.val).length=j*2:=by rw [cT,hlz]
    generalize (ptZ (r.p.take j) ws).map CV.val=R at *
    rw [← hml,List.take_left,List.drop_length_add_append]
    simp
  have hadd:IntKind.i64.wrap (((j:Nat):Int)+1)=((j+1:Nat):Int):=by rw [cE (by omega)];omega
  (refine rgN<|kmv O<|kmv O<|kmv O<|bD [(1000000,1000000),(1000001,501),(1000002,601)] (.tup [.one (.slc 601 0 p.val.length 3),Sn .i64 0]) [tS 1000000 t (vS ad t.l.length cap) (.slice (some ⟨cb,0,none⟩) nc cc) (.slice ptad ps.length ptcap),atB 501 b (rowSize c.fs) t.most (colL t.l j c),nmsB 601 p.val true] (hq) O O (by exact (cM ⟨_,O,O⟩ (cM ⟨_,O,O⟩ trivial))) (by exact (bR (bR O (bR O (bR O (bR O (bR O (bR O (bR O O))))))) (bR O O))) O O O O (by exact (.box O O (.box O O (.box O (bW _ _ _ _) .nil)))) dN<|kmv O<|kex O O<|kex O O<|kas O<|kas O<|aB<|aA<|aA<|rgN ?_;refine kmv O<|kne O O (r:=false) O<|aB<|aE O ?_;refine aG ?_;refine rgN<|kmv O<|kmv O<|kfa O O ?_;refine kl1 O O O<|kmv O<|aS O O (by exact O) (by exact nl2 O O O) dN ?_;refine K.indexSlc O O (by omega) hix dN ?_;refine K.store O O O O (by kernel_rfl) hroom hspl dN<|aB<|rgN<|kad O O hadd<|kmv O<|aB ?_)
  refine cA (σ':=⟨[(0,Lp 1000000),(1,Ln .i64 (i:Nat)),(7,.sv (.one (.slc 500 0 ps.length 2))),(28,.sv (.one (vS (some ⟨cb,0,none⟩) nc cc))),(29,Ln .i64 (nc:Nat)),(30,Ln .i64 (j+1:Nat))],[atB 501 b (rowSize c.fs) t.most (colL t.l j c),(500,some ⟨50,(ptZ (r.p.take j) ws++[Value.int .i64 c.id]).map CV.val ++ .slc 601 0 p.val.length 3::(zerP (ps.length-(j+1))).map .val,false⟩),nmsB 601 p.val true,tS 1000000 t (vS ad t.l.length cap) (.slice (some ⟨cb,0,none⟩) nc cc) (.slice ptad ps.length ptcap)],joinM (joinM (joinM (joinM X Hs) He) Hv) H0⟩) (Le.of (by exact ⟨O,O,O,O,O,O,trivial⟩) (by exact ⟨O,O,O,O,trivial⟩) (by exact O) (by exact O) (by repeat' (first|refine bR ?_ ?_|rfl|exact bT|exact bS|exact bU O))) ?_
  refine tcol_shut hO0 hroot O (by repeat' (first|refine bR ?_ ?_|rfl|exact bS|exact bU O)) O fun m' Hc' g1 g2 g3 g4 => ?_
  have hB:=hback _ m' Hc' g1 g2 g3
  rw [hset] at hB
  obtain ⟨k1,k2,k3⟩:=OwnedM.swap hOv g4
  rw [k3]
  refine Leads.closeCell k2 (by have:=nmsV_len p.val;rw [cT] at this;exact this) rfl bS bS (by repeat' (first|refine bR ?_ ?_|rfl|exact bS)) rfl rfl fun bk ob v g1 _ hO3 hv => ?_
  obtain ⟨q1,q2,q3⟩:=OwnedM.swap k1 hO3
  have hsn:r.p.take (j+1)=r.p.take j++[p]:=take_snoc hp
  refine bZ ⟨nc-(j+1),by omega,j+1,ws++[v],withBlock Hv bk ob,_,by omega,rfl,q1,q2,hB,by rw [hsn];exact (G.mono (cF g1)).push (nms_leads hv hv2),?_⟩
  rw [q3,hsn,ptZ_add (by rw [hwl,cW];omega),hpc]
  simp only [dD,List.map_cons,List.map_nil,dI,List.cons_append,List.nil_append]
end Go.Proofs.YtbpdbclndfmcgaaGreatDoor
end
section
namespace Go.Proofs.YtbpdbclndfmcgaaGreatDoor
open Go Go.Lg Go.Lg.Fld Go.Lg.Sg Go.Lg.Col
set_option maxRecDepth 100000
def pvs (ps:List Nat):List Value:=ps.map fun b=>.pointer (some ⟨b,0,none⟩)
theorem pvs_len (ps:List Nat):(pvs ps).length=ps.length:=cT _
theorem ptrs_leads {H:Nat→Option Obj} {b:Nat} {v:Value} {el:TypeId} {ps:List Nat} (h:LeadsTo H b v el 1 (pvs ps)):PtrsIn H v ps:=by
  obtain ⟨len,cap,arr,fr,rfl,h2,_,_,h5,sp,h6⟩:=h
  rw [pvs_len] at h2
  have e:len=ps.length:=by omega
  refine ⟨some ⟨b,0,none⟩,cap,by rw [e],fun i x hx=>⟨b,arr,el,fr,rfl,h5,?_⟩⟩
  rw [← Array.getElem?_toList,h6,dM (by rw [pvs_len];exact (List.getElem?_eq_some_iff.1 hx).1)]
  unfold pvs
  rw [dH,hx];rfl
variable (X:Nat→Option Obj)
abbrev tO (k:Nat) (t:Tb) (vE vC vP:CV):Nat×Option Box:=(k,some ⟨92,[.val (.int .u32 (t.set:Nat)),.val (.int .i64 (t.most:Nat)),.val (.int .i64 (t.kept:Nat)),vE,.val (.int .i64 t.sc.ver),vC,vP],false⟩)
end Go.Proofs.YtbpdbclndfmcgaaGreatDoor
end
section
namespace Go.Proofs.YtbpdbclndfmcgaaGreatDoor
open Go Go.Lg Go.Lg.Fld Go.Lg.Sg Go.Lg.Col
set_option maxRecDepth 100000
abbrev Zp:=Cp×Value
def rowsP (zs:List Zp):List Value:=rowsZ (zs.map (·.1)) (zs.map (·.2))
theorem rowsP_len (zs:List Zp):(rowsP zs).length=zs.length*3:=by
  unfold rowsP
  rw [rowsZ_len (by rw [cT,cT]),cT]
theorem rowsP_app (a b:List Zp):rowsP (a++b)=rowsP a++rowsP b:=by
  unfold rowsP
  rw [dD,dD,rowsZ_app (by rw [cT,cT])]
theorem rowsP_cons (z:Zp) (l:List Zp):rowsP (z::l)=[.int .i64 z.1.id,.string ⟨z.1.nm.toArray⟩,z.2]++rowsP l:=rfl
theorem rowsZ_zip {cs:List Cp} {cells:List Value} (h:cells.length=cs.length):rowsZ cs cells=rowsP (cs.zip cells):=by
  unfold rowsP
  rw [List.map_fst_zip (by omega),List.map_snd_zip (by omega)]
abbrev kept (keep:Cp→Bool) (zs:List Zp):List Zp:=zs.filter fun z=>keep z.1
variable (X:Nat→Option Obj)
theorem idxP_lent {S:Nat→Option (Option Box)} {el fel:TypeId} {row:Bool} {zs:List Zp} {k:Nat} (hk:S k=some (some ⟨el,(rowsP zs).map .val,row⟩)) (hG:∀ z∈zs,SliceZ X z.2 fel 3 (flV z.1.fs)) (hb:InB (zs.map (·.1))) (hn:zs.length≤65536) (f:FuncId) (caps:List Value) (p:Cp→Bool)
    (hp:∀ Y:Nat→Option Obj,(∀ b o,X b=some o→Y b=some o)→∀ (c:Cp) fad fcap,PSpec Tryz.prog Y f ([Cx c fad fcap]++caps.map fun v=>.sv (.one (.val v))) (Lb (p c))):
    ∀ (Y:Nat→Option Obj) (us:List Value),(∀ b o,X b=some o→Y b=some o)→LentLs S Y [.sv (.one (.slc k 0 zs.length 3)),Lf f caps] us→PSpec Tryz.prog Y 80 (us.map toLV) (Ln .i64 (findI p (zs.map (·.1)))):=by
  intro Y us hY hL
  obtain ⟨u1,us1,rfl,⟨b,blk,cap2,m,hk',rfl,hc,hfit,hB⟩,u2,us2,rfl,h2,rfl⟩:=hL
  rw [hk] at hk'
  simp only [Option.some.injEq] at hk'
  subst hk'
  obtain ⟨arr,fr,us',sp,hYb,hsz,harr,hv⟩:=hB
  have:=hv _ rfl
  subst this
  have h2:u2 = .func (.func f) #[] caps.toArray:=h2
  subst h2
  have hin:CompsIn Y (some ⟨blk,0,none⟩) (zs.map (·.1)):=comps_block (fel:=fel) hYb harr (by rw [cT,cT]) hb fun i c v hc hv=>by
    rw [dH] at hc hv
    obtain ⟨z,hz,rfl⟩:=Option.map_eq_some_iff.1 hc
    rw [hz] at hv
    simp only [Option.map_some,Option.some.injEq] at hv
    subst hv
    have hs:=hG z (cZ hz)
    refine hs.mono fun b hb' => ?_
    have hne:=hs.some_of hb'
    cases hx:X b with
    | none=>exact absurd hx hne
    | some o=>exact hY b o hx
  have:=idxC_spec Y (some ⟨blk,0,none⟩) cap2 (zs.map (·.1)) hin (by rw [cT];omega) f caps p fun c _=>hp Y hY c
  rw [cT] at this
  exact this
set_option maxHeartbeats 6400000 in
theorem delC (zs:List Zp) {fel:TypeId} (hG:∀ z∈zs,SliceZ X z.2 fel 3 (flV z.1.fs)) (hb:InB (zs.map (·.1))) (hn:zs.length≤65536) (rw_:Bool) (f:FuncId) (caps:List Value) (keep:Cp→Bool)
    (hp:∀ Y:Nat→Option Obj,(∀ b o,X b=some o→Y b=some o)→∀ (c:Cp) fad fcap,PSpec Tryz.prog Y f ([Cx c fad fcap]++caps.map fun v=>.sv (.one (.val v))) (Lb (!keep c))):
    MSpec Tryz.prog X 70 [.sv (.one (.slc 1000000 0 zs.length 3)),Lf f caps] [(1000000,some ⟨86,(rowsP zs).map .val,rw_⟩)] (.sv (.one (.slc 1000000 0 (kept keep zs).length 3)))
      [(1000000,some ⟨86,(rowsP (kept keep zs)++zer (zs.length-(kept keep zs).length)).map .val,rw_⟩)]:=by
  have hidx:∀ {S:Nat→Option (Option Box)} {row:Bool},S 1000000=some (some ⟨86,(rowsP zs).map .val,row⟩)→_:=fun {S row} hk=>idxP_lent X (S:=S) (row:=row) hk hG hb hn f caps (fun c => !keep c) hp
  refine cD Tryz.func70 rfl (by kernel_rfl) rfl rfl (by exact (by repeat' (first|refine bR ?_ ?_|rfl|exact bT|exact bS|exact bU rfl))) rfl rfl ?_
  intro C
  cases hfi:(zs.map (·.1)).findIdx? (fun c => !keep c) with
  | none =>
    have hall:kept keep zs=zs:=List.filter_eq_self.2 fun z hz=>by
      have:=List.findIdx?_eq_none_iff.1 hfi z.1 (List.mem_map.2 ⟨z,hz,rfl⟩)
      simpa using this
    rw [hall,Nat.sub_self,show zer 0=[] from rfl,dF]
    have hI:findI (fun c => !keep c) (zs.map (·.1)) = -1:=by unfold findI;rw [hfi]
    rw [hI] at hidx
    (refine aA<|rgN<|kas O<|aB<|aA<|rgN<|kmv O<|kmv O<|K.callL [1000000] O O O (hidx O) dN ?_;refine kas O<|aB<|aA<|aA<|rgN<|kmv O<|keq O O (r:=true) O<|aB<|aD O ?_;refine aA<|rgN<|kmv O<|kas O<|aB<|aH ?_)
    exact ⟨[],⟨[_],⟨rfl,trivial⟩,rfl⟩,(by repeat' (first|exact trivial|refine cM ⟨_,rfl,?_⟩ ?_|refine cM ⟨_,rfl⟩ ?_|rfl|exact bV _ _ _ _|exact bW _ _ _ _|exact bX rfl)),rfl,rfl⟩
  | some i0 =>
    obtain ⟨hi0,h1,h2⟩:=List.findIdx?_eq_some_iff_getElem.1 hfi
    rw [cT] at hi0
    have hI:findI (fun c => !keep c) (zs.map (·.1))=(i0:Nat):=by unfold findI;rw [hfi]
    rw [hI] at hidx
    have hadd:IntKind.i64.wrap (((i0:Nat):Int)+1)=((i0+1:Nat):Int):=by rw [cE (by omega)];omega
    obtain ⟨z0,hz0⟩:∃ z,zs[i0]? = some z:=⟨_,cU hi0⟩
    have hk0:keep z0.1=false:=by
      have e:z0=zs[i0]:=by rw [cU hi0] at hz0;exact (Option.some.inj hz0).symm
      rw [List.getElem_map] at h1
      rw [e];simpa using h1
    have hpre:kept keep (zs.take i0)=zs.take i0:=List.filter_eq_self.2 fun z hz=>by
      obtain ⟨j,hj,e⟩:=List.mem_take_iff_getElem.1 hz
      have:=h2 j (by omega)
      rw [List.getElem_map] at this
      rw [← e];simpa using this
    have hF0:kept keep (zs.take (i0+1))=zs.take i0:=by
      rw [take_snoc hz0]
      show (zs.take i0++[z0]).filter _=_
      rw [List.filter_append,show (zs.take i0).filter (fun z=>keep z.1)=zs.take i0 from hpre,List.filter_cons,if_neg (by rw [hk0];decide)]
      simp
    have hlt0:(zs.take i0).length=i0:=by rw [cW];omega
    (refine aA<|rgN<|kas O<|aB<|aA<|rgN<|kmv O<|kmv O<|K.callL [1000000] O O O (hidx O) dN ?_;refine kas O<|aB<|aA<|aA<|rgN<|kmv O<|keq O O (r:=false) (cN (by omega))<|aB<|aE O ?_;refine aG ?_;refine aA<|aA<|rgN<|kmv O<|kad O O hadd<|kas O<|aB<|aF ?_)
    refine cG (fun m σ=>∃ (j:Nat) (mid:List Value),j≤zs.length∧m=zs.length-j∧(kept keep (zs.take j)).length<j∧mid.length=(j-(kept keep (zs.take j)).length)*3∧σ=⟨[(0,.sv (.one (.slc 1000000 0 zs.length 3))),(1,Lf f caps),(5,Ln .i64 ((kept keep (zs.take j)).length:Nat)),(6,Ln .i64 (j:Nat))],[(1000000,some ⟨86,(rowsP (kept keep (zs.take j))++(mid++rowsP (zs.drop j))).map .val,rw_⟩)],X⟩) (zs.length-(i0+1))
      ⟨⟨[(0,.sv (.one (.slc 1000000 0 zs.length 3))),(1,Lf f caps),(5,Ln .i64 (i0:Nat)),(6,Ln .i64 (i0+1:Nat))],[(1000000,some ⟨86,(rowsP zs).map .val,rw_⟩)],X⟩,Le.of (by exact ⟨rfl,rfl,rfl,rfl,trivial⟩) (by exact ⟨rfl,trivial⟩) (by exact rfl) (by exact rfl) (by repeat' (first|refine bR ?_ ?_|rfl|exact bT|exact bS|exact bU rfl)),i0+1,[.int .i64 z0.1.id,.string ⟨z0.1.nm.toArray⟩,z0.2],by omega,by omega,by rw [hF0,hlt0];omega,by rw [hF0,hlt0,Nat.add_sub_cancel_left];rfl,by
        rw [hF0,hlt0,← rowsP_cons,← rowsP_app,← mid_of hz0]⟩ ?_
    rintro m σ ⟨j,mid,hj,rfl,hij,hmid,rfl⟩
    by_cases hlt:j<zs.length
    · obtain ⟨z,hz⟩:∃ z,zs[j]? = some z:=⟨_,cU hlt⟩
      obtain ⟨c,v⟩:=z
      obtain ⟨fad,fcap,hv,_⟩:=leaf_in (hG _ (cZ hz)) (hb c (List.mem_map.2 ⟨_,cZ hz,rfl⟩)).2
      have hv:v = .slice fad c.fs.length fcap:=hv
      subst hv
      have hP:=hp X (fun _ _ h=>h) c fad fcap
      have hdrop:zs.drop j=(c,.slice fad c.fs.length fcap)::zs.drop (j+1):=(drop_at hz)
      have hsn:=take_snoc hz
      have hadd2:IntKind.i64.wrap (((j:Nat):Int)+1)=((j+1:Nat):Int):=by rw [cE (by omega)];omega
      have hix:0+Int.toNat ((j:Nat):Int)*3=j*3:=by rw [dC];omega
      have hfl:(rowsP (kept keep (zs.take j))++mid).length=j*3:=by rw [cS,rowsP_len,hmid];omega
      have hlen:(rowsP (kept keep (zs.take j))++(mid++rowsP (zs.drop j))).length=zs.length*3:=by rw [← dI,cS,hfl,rowsP_len,cX];omega
      have hbl:Nat.ble (j*3+3) ((rowsP (kept keep (zs.take j))++(mid++rowsP (zs.drop j))).map CV.val).length=true:=by rw [Nat.ble_eq,cT,hlen];omega
      have hcs:(((rowsP (kept keep (zs.take j))++(mid++rowsP (zs.drop j))).map CV.val).drop (j*3)).take 3=[.val (.int .i64 c.id),.val (.string ⟨c.nm.toArray⟩),.val (.slice fad c.fs.length fcap)]:=by
        rw [← List.map_drop,← dI,← hfl,List.drop_left,hdrop,rowsP_cons,← List.map_take];rfl
      cases hkp:keep c with
      | true =>
        rw [hkp] at hP
        have hF1:kept keep (zs.take (j+1))=kept keep (zs.take j)++[(c,.slice fad c.fs.length fcap)]:=by
          rw [hsn]
          show (zs.take j++[_]).filter _=_
          rw [List.filter_append,List.filter_cons,if_pos hkp];rfl
        obtain ⟨m0,m1,m2,mid',rfl⟩:∃ m0 m1 m2 mid',mid=m0::m1::m2::mid':=by
          match mid,hmid with
          | m0::m1::m2::mid',_=>exact ⟨m0,m1,m2,mid',rfl⟩
          | [],h=>simp at h;omega
          | [_],h=>simp at h;omega
          | [_,_],h=>simp at h;omega
        have hixi:0+Int.toNat (((kept keep (zs.take j)).length:Nat):Int)*3=(kept keep (zs.take j)).length*3:=by rw [dC];omega
        have hroom:(kept keep (zs.take j)).length*3+3≤((rowsP (kept keep (zs.take j))++(m0::m1::m2::mid'++rowsP (zs.drop j))).map CV.val).length:=by rw [cT,hlen];omega
        have hspl:splice ((rowsP (kept keep (zs.take j))++(m0::m1::m2::mid'++rowsP (zs.drop j))).map CV.val) ((kept keep (zs.take j)).length*3) [.val (.int .i64 c.id),.val (.string ⟨c.nm.toArray⟩),.val (.slice fad c.fs.length fcap)]=(rowsP (kept keep (zs.take (j+1)))++((mid'++[Value.int .i64 c.id,Value.string ⟨c.nm.toArray⟩,Value.slice fad c.fs.length fcap])++rowsP (zs.drop (j+1)))).map CV.val:=by
          rw [hF1,rowsP_app,hdrop,rowsP_cons,rowsP_cons,show rowsP []=[] from rfl]
          have hml:((rowsP (kept keep (zs.take j))).map CV.val).length=(kept keep (zs.take j)).length*3:=by rw [cT,rowsP_len]
          unfold splice
          simp only [dD,List.map_cons,List.map_nil,dI,List.cons_append,List.nil_append]
          generalize (rowsP (kept keep (zs.take j))).map CV.val=R at *
          rw [← hml,List.take_left,List.drop_length_add_append]
          simp
        have haddi:IntKind.i64.wrap ((((kept keep (zs.take j)).length:Nat):Int)+1)=(((kept keep (zs.take (j+1))).length:Nat):Int):=by rw [hF1,cS,cE (by omega)];simp
        have hi1:(kept keep (zs.take (j+1))).length=(kept keep (zs.take j)).length+1:=by rw [hF1,cS];rfl
        generalize (kept keep (zs.take j)).length=i at *
        generalize (rowsP (kept keep (zs.take j))++(m0::m1::m2::mid'++rowsP (zs.drop j)))=cells at *
        (refine aA<|aA<|rgN<|kmv O<|kmv O<|K.lenSlc O bY O dN ?_;refine klt O O (cL (by omega))<|aB<|aD O ?_;refine aG ?_;refine aA<|aF<|aA<|rgN<|kmv O<|kmv O<|K.indexSlc O O (by omega) hix dN ?_;refine bI O O hbl hcs dN ?_;refine aO O dN ?_;refine aL O O O O O O dN ?_;refine aB<|aA<|rgN<|kmv O<|aJ O O O dN ?_;refine K.callF O O O hP dN ?_;refine aU O O dN<|aB<|aD O ?_;refine aA<|rgN<|kmv O<|kmv O<|aJ O O O dN ?_;refine K.indexSlc O O (by omega) hixi dN ?_;refine K.store O O O O (by kernel_rfl) hroom hspl dN<|aB<|rgN<|kmv O<|kad O O haddi<|kas O<|aB<|rgN<|kmv O<|kad O O hadd2<|kas O<|aB ?_)
        refine ⟨_,⟨[(0,.sv (.one (.slc 1000000 0 zs.length 3))),(1,Lf f caps),(5,Ln .i64 ((kept keep (zs.take (j+1))).length:Nat)),(6,Ln .i64 (j+1:Nat))],[(1000000,some ⟨86,(rowsP (kept keep (zs.take (j+1)))++((mid'++[Value.int .i64 c.id,Value.string ⟨c.nm.toArray⟩,Value.slice fad c.fs.length fcap])++rowsP (zs.drop (j+1)))).map CV.val,rw_⟩)],X⟩,(by omega:zs.length-(j+1)<zs.length-j),Le.of (by exact ⟨O,O,O,O,trivial⟩) (by exact ⟨O,trivial⟩) (by exact O) (by exact O) (by repeat' (first|refine bR ?_ ?_|rfl|exact bT|exact bS|exact bU O)),j+1,mid'++[Value.int .i64 c.id,Value.string ⟨c.nm.toArray⟩,Value.slice fad c.fs.length fcap],by omega,O,by omega,?_,O⟩
        simp only [dE] at hmid
        rw [cS,hi1]
        simp only [dE,dK]
        omega
      | false =>
        rw [hkp] at hP
        have hF1:kept keep (zs.take (j+1))=kept keep (zs.take j):=by
          rw [hsn]
          show (zs.take j++[_]).filter _=_
          rw [List.filter_append,List.filter_cons,if_neg (by rw [hkp];decide)];simp
        have hcells:(rowsP (kept keep (zs.take j))++(mid++rowsP (zs.drop j)))=rowsP (kept keep (zs.take (j+1)))++((mid++[Value.int .i64 c.id,Value.string ⟨c.nm.toArray⟩,Value.slice fad c.fs.length fcap])++rowsP (zs.drop (j+1))):=by
          rw [hF1,hdrop,rowsP_cons];simp
        have hi1:(kept keep (zs.take (j+1))).length=(kept keep (zs.take j)).length:=by rw [hF1]
        rw [← hi1]
        rw [hcells] at hbl hcs ⊢
        generalize hii:(kept keep (zs.take (j+1))).length=i at *
        generalize hcc:(rowsP (kept keep (zs.take (j+1)))++((mid++[Value.int .i64 c.id,Value.string ⟨c.nm.toArray⟩,Value.slice fad c.fs.length fcap])++rowsP (zs.drop (j+1))))=cells at *
        (refine aA<|aA<|rgN<|kmv O<|kmv O<|K.lenSlc O bY O dN ?_;refine klt O O (cL (by omega))<|aB<|aD O ?_;refine aG ?_;refine aA<|aF<|aA<|rgN<|kmv O<|kmv O<|K.indexSlc O O (by omega) hix dN ?_;refine bI O O hbl hcs dN ?_;refine aO O dN ?_;refine aL O O O O O O dN ?_;refine aB<|aA<|rgN<|kmv O<|aJ O O O dN ?_;refine K.callF O O O hP dN ?_;refine aU O O dN<|aB<|aE O ?_;refine aG ?_;refine rgN<|kmv O<|kad O O hadd2<|kas O<|aB ?_)
        refine ⟨_,⟨[(0,.sv (.one (.slc 1000000 0 zs.length 3))),(1,Lf f caps),(5,Ln .i64 (i:Nat)),(6,Ln .i64 (j+1:Nat))],[(1000000,some ⟨86,cells.map CV.val,rw_⟩)],X⟩,(by omega:zs.length-(j+1)<zs.length-j),Le.of (by exact ⟨rfl,rfl,rfl,rfl,trivial⟩) (by exact ⟨rfl,trivial⟩) (by exact rfl) (by exact rfl) (by repeat' (first|refine bR ?_ ?_|rfl|exact bT|exact bS|exact bU rfl)),j+1,mid++[Value.int .i64 c.id,Value.string ⟨c.nm.toArray⟩,Value.slice fad c.fs.length fcap],by omega,rfl,by omega,?_,by rw [hii,hcc]⟩
        rw [cS,hmid,hii]
        simp only [dE,dK]
        omega
    · have e:j=zs.length:=by omega
      subst e
      have htk:zs.take zs.length=zs:=dB
      rw [htk] at hij hmid ⊢
      have hmk:MadeOf Tryz.prog 22 86 3 48 [Value.int .i64 0,Value.string ⟨#[]⟩,Value.slice none 0 0]:=⟨by kernel_rfl,by kernel_rfl,rfl⟩
      have hcl:(rowsP (kept keep zs)++(mid++rowsP (zs.drop zs.length)))=rowsP (kept keep zs)++mid:=by rw [List.drop_length];show _++(mid++[])=_;rw [dF]
      rw [hcl]
      have hlen:(rowsP (kept keep zs)++mid).length=zs.length*3:=by rw [cS,rowsP_len,hmid];omega
      have hoff:0+(kept keep zs).length*3=(kept keep zs).length*3:=Nat.zero_add _
      have hroom:(kept keep zs).length*3+(zs.length-(kept keep zs).length)*3≤((rowsP (kept keep zs)++mid).map CV.val).length:=by rw [cT,hlen];omega
      have hclr:splice ((rowsP (kept keep zs)++mid).map CV.val) ((kept keep zs).length*3) ((List.replicate (zs.length-(kept keep zs).length) [Value.int .i64 0,Value.string ⟨#[]⟩,Value.slice none 0 0]).flatten.map CV.val)=(rowsP (kept keep zs)++zer (zs.length-(kept keep zs).length)).map CV.val:=by
        have hzl:((zer (zs.length-(kept keep zs).length)).map CV.val).length=(zs.length-(kept keep zs).length)*3:=by rw [cT,zer_len]
        have hml:((rowsP (kept keep zs)).map CV.val).length=(kept keep zs).length*3:=by rw [cT,rowsP_len]
        show splice _ _ ((zer (zs.length-(kept keep zs).length)).map CV.val)=_
        unfold splice
        rw [dD,dD,← hml,List.take_left,List.drop_eq_nil_of_le (by rw [cS,hml,hzl,cT,hmid];omega),dF]
      generalize (kept keep zs).length=i at *
      generalize rowsP (kept keep zs)++mid=cells at *
      (refine aA<|aA<|rgN<|kmv O<|kmv O<|K.lenSlc O bY O dN ?_;refine klt O O (cK (by omega))<|aB<|aE O ?_;refine aI<|aA<|rgN<|kmv O<|kmv O<|K.cutLoSlc O O bY (by omega) hoff O dN ?_;refine K.clearSlc O O hmk O hroom (by omega) hclr dN ?_;refine aB<|aA<|rgN<|kmv O<|kmv O<|K.cutSlc O O bY (by omega) dN<|kas O<|aB<|aH ?_)
      exact ⟨[],⟨[_],⟨rfl,trivial⟩,rfl⟩,(by repeat' (first|exact trivial|refine cM ⟨_,rfl,?_⟩ ?_|refine cM ⟨_,rfl⟩ ?_|rfl|exact bV _ _ _ _|exact bW _ _ _ _|exact bX rfl)),rfl,rfl⟩
end Go.Proofs.YtbpdbclndfmcgaaGreatDoor
end
section
namespace Go.Proofs.YtbpdbclndfmcgaaGreatDoor
open Go Go.Lg Go.Lg.Fld Go.Lg.Sg Go.Lg.Col
set_option maxRecDepth 100000
def cmR (cs:List Cp):Rsc:=⟨fun ρ H=>(∃ (arr:Array Value) (fr:Nat×Nat),H ρ.1=some (.cells arr 86 fr)∧arr.size=ρ.2)∧CompsIn H (some ⟨ρ.1,0,none⟩) cs⟩
abbrev cmB (k:Nat) (cs:List Cp):Nat×Option Box:=(k,some ⟨0,[],.res (cmR cs)⟩)
variable (X:Nat→Option Obj)
theorem only1_spec (set:Nat) (hset:set<4294967296) (c:Cp) (fad:Option Addr) (fcap:Nat) {b:Nat} {arr:Array Value} {el:TypeId} {fr:Nat×Nat} (hX:X b=some (.cells arr el fr)) (h0:arr[0]? = some (.int .u32 (set:Nat))):
    PSpec Tryz.prog X 71 [Cx c fad fcap,Vp b] (Lb (!hasB set c.id)):=by
  have hh:=gHas X set hset c.id
  refine cC Tryz.func71 rfl (by kernel_rfl) rfl rfl ?_
  intro C
  generalize hasB set c.id=q at *
  cases q with
  | true =>
    (refine aA<|rgN<|aK O O O dN<|kas O<|aB<|aA<|rgN<|aV O hX O h0 dN<|kfa O O ?_;refine kl1 O O O<|kca O O hh<|aU O O dN<|kas O<|aB<|aH ?_)
    exact ⟨[_],⟨O,trivial⟩,O⟩
  | false =>
    (refine aA<|rgN<|aK O O O dN<|kas O<|aB<|aA<|rgN<|aV O hX O h0 dN<|kfa O O ?_;refine kl1 O O O<|kca O O hh<|aU O O dN<|kas O<|aB<|aH ?_)
    exact ⟨[_],⟨O,trivial⟩,O⟩
set_option maxHeartbeats 6400000 in
theorem only0 (ver:Int) (ad:Option Addr) (cap:Nat) (cs:List Cp) (set:Nat) (hset:set<4294967296) (hin:CompsIn X ad cs) (hn:cs.length≤65536) (hfb:∀ c∈cs,c.fs.length≤4398046511104):
    MSpec Tryz.prog X 38 [Sx ver ad cs.length cap,Ln .u32 (set:Nat)] [] (.sv (.agg [.val (.int .i64 ver),.slc 1000001 0 (onlyC cs set).length 3])) [cmB 1000001 (onlyC cs set)]:=by
  refine cD Tryz.func38 rfl (by kernel_rfl) rfl rfl (by exact (by repeat' (first|refine bR ?_ ?_|rfl|exact bT|exact bS|exact bU rfl))) rfl rfl ?_
  intro C
  refine LWP.ends ?_
  (refine aA<|rgN<|aK O O O dN<|K.box1 O O O dN<|aO O dN ?_;refine aB<|aA ?_)
  refine LWP.le (σ':=⟨[(3,Lp 3),(2,Lp 2),(4,Lp 4)],[(3,some ⟨31,[Value.int .u32 (set:Nat)].map .val,false⟩),sxB 2 ver ad cs.length cap,(4,some ⟨24,[.val (.int .i64 0),.val (.slice none 0 0)],false⟩)],X⟩) (Le.of (by exact ⟨O,O,O,trivial⟩) (by exact ⟨O,O,O,trivial⟩) (by exact O) (by exact O) (by repeat' (first|refine bR ?_ ?_|rfl|exact bT|exact bS|exact bU O))) ?_
  refine LWP.freezePtr (by rfl) (by rfl) (by rfl) fun b arr0 fr0 hnb hF0 h0 => ?_
  have hb0:(withBlock X b (.cells arr0 31 fr0)) b=some (.cells arr0 31 fr0):=cJ X b _
  have hin':=hin.mono (cF (o:=.cells arr0 31 fr0) hnb)
  have hdr:∀ x o,X x=some o→withBlock X b (.cells arr0 31 fr0) x=some o:=cF hnb
  generalize withBlock X b (.cells arr0 31 fr0)=Y at *
  have hCl:=pCloneBig Y ver ad cap cs hin' hn hfb
  (refine rgN<|aJ O O O dN ?_;refine bD [(1000001,602)] (.sv (.agg [.val (.int .i64 ver),.slc 602 0 cs.length 3])) [scB 602 cs] (hCl) O O (by exact trivial) O O O O O (by exact (.box O O .nil)) dN<|aL O O O O O O dN ?_;refine aB<|aA ?_)
  refine LWP.le (σ':=⟨[(3,Vp b),(2,Lp 2),(4,Lp 4)],[scB 602 cs,(2,some ⟨24,[.val (.int .i64 ver),.slc 602 0 cs.length 3],false⟩),(4,some ⟨24,[.val (.int .i64 0),.val (.slice none 0 0)],false⟩)],Y⟩) (Le.of (by exact ⟨O,O,O,trivial⟩) (by exact ⟨O,O,O,trivial⟩) (by exact O) (by exact O) (by repeat' (first|refine bR ?_ ?_|rfl|exact bT|exact bS|exact bU O))) ?_
  refine LWP.openRes (scR_root cs) fun ρ H vals el fr hR hv hO => ?_
  obtain ⟨arr,fr',cells,sp,h1,h2,h3,G,hInb⟩:=hR
  rw [hv] at h1
  simp only [Option.some.injEq,Obj.cells.injEq] at h1
  obtain ⟨rfl,rfl,rfl⟩:=h1
  have hcl:cells.length=cs.length:=by rw [G.len,cT]
  rw [h3,rowsZ_zip hcl]
  have hzf:(cs.zip cells).map (·.1)=cs:=List.map_fst_zip (by omega)
  have hzl:(cs.zip cells).length=cs.length:=by rw [List.length_zip];omega
  have hGz:∀ z∈cs.zip cells,SliceZ (cutM H ρ.1) z.2 125 3 (flV z.1.fs):=fun z hz=>by
    obtain ⟨i,hi⟩:=List.mem_iff_getElem?.1 hz
    obtain ⟨g1,g2⟩:=List.getElem?_zip_eq_some.1 hi
    exact G.at_ i z.2 _ (by simp) g2 (by rw [dH,g1];rfl)
  have hGy:∀ z∈cs.zip cells,SliceZ (joinM Y (cutM H ρ.1)) z.2 125 3 (flV z.1.fs):=fun z hz=>by
    have hs:=hGz z hz
    refine hs.mono fun b hb => ?_
    have hne:=hs.some_of hb
    cases hc:cutM H ρ.1 b with
    | none=>exact absurd hc hne
    | some o=>exact joinM_in hc
  have hOc:=hO.cut ρ.1
  generalize hzs:cs.zip cells=zs at *
  have hdel:=delC (joinM Y (cutM H ρ.1)) zs hGy (by rw [hzf];exact hInb) (by omega) true 71 [.pointer (some ⟨b,0,none⟩)] (fun c=>hasB set c.id) fun Z hZ c fad fcap=>only1_spec Z set hset c fad fcap (hZ _ _ (joinM_has hOc hb0)) (at_zero h0)
  have hkf:(kept (fun c=>hasB set c.id) zs).map (·.1)=onlyC cs set:=by
    unfold onlyC kept
    rw [← hzf,List.filter_map];rfl
  have hkl:(kept (fun c=>hasB set c.id) zs).length=(onlyC cs set).length:=by rw [← hkf,cT]
  refine LWP.le (σ':=⟨[(3,Vp b),(2,Lp 2),(4,Lp 4)],[(602,some ⟨86,(rowsP zs).map CV.val++sp.map CV.val,false⟩),(2,some ⟨24,[.val (.int .i64 ver),.slc 602 0 cs.length 3],false⟩),(4,some ⟨24,[.val (.int .i64 0),.val (.slice none 0 0)],false⟩)],joinM Y (cutM H ρ.1)⟩) (by rw [dD];exact ⟨fun ι _ _ hr=>⟨ι,hr⟩⟩) ?_
  refine LWP.le Le.trim ?_
  rw [← hzl]
  generalize hks:kept (fun c=>hasB set c.id) zs=ks at *
  (refine rgN<|kfa O O ?_;refine kl1 O O O<|K.makeFunc O O dN ?_;refine bD [(1000000,602)] (.sv (.one (.slc 602 0 ks.length 3))) [(602,some ⟨86,(rowsP ks++zer (zs.length-ks.length)).map .val,true⟩)] (hdel) O O (by exact (cM ⟨_,O,(bW _ _ _ _)⟩ trivial)) (by exact (bR bS O)) O O O O (by exact (.box O (bW _ _ _ _) .nil)) dN<|kfa O O ?_;refine bF O O O O O (nl2 O O O) dN<|aB<|aA<|rgN<|aJ O O O dN ?_;refine aL O O O O O O dN ?_;refine aB<|aH ?_)
  refine cA (σ':=⟨[(4,Lp 4)],[(602,some ⟨86,(rowsP ks++zer (zs.length-ks.length)).map .val,true⟩),(4,some ⟨24,[.val (.int .i64 ver),.slc 602 0 ks.length 3],false⟩)],joinM Y (cutM H ρ.1)⟩) (Le.of (by exact ⟨O,trivial⟩) (by exact ⟨O,O,trivial⟩) (by exact O) (by exact O) (by repeat' (first|refine bR ?_ ?_|rfl|exact bT|exact bS|exact bU O))) ?_
  refine Leads.spare fun sp2 => ?_
  refine Leads.closeRes (R:=cmR (onlyC cs set)) hOc (fun ρ2 fr2 g1 g2 g3 => ?_) ?_
  · refine ⟨⟨_,fr2,cJ _ _ _,by rw [g3];simp⟩,?_⟩
    rw [← hkf]
    refine comps_block (fel:=125) (cJ _ _ _) (cells:=ks.map (·.2)) (sp:=zer (zs.length-ks.length)++sp2) (by unfold rowsP;simp) (by rw [cT,cT]) ?_ fun i c v hc hv => ?_
    · rw [hkf]
      exact fun c hc=>hInb c (only_mem hc).1
    · rw [dH] at hc hv
      obtain ⟨z,hz,rfl⟩:=Option.map_eq_some_iff.1 hc
      rw [hz] at hv
      simp only [Option.map_some,Option.some.injEq] at hv
      subst hv
      have hzm:z∈zs:=by
        have:=cZ hz
        rw [← hks] at this
        exact (List.mem_filter.1 this).1
      have hs:=hGz z hzm
      refine hs.mono fun b' hb' => ?_
      have hne:=hs.some_of hb'
      unfold withBlock
      rw [if_neg (fun e=>hne (by rw [e];exact g1))]
  rw [← hkl]
  refine cA (Le.drop hdr) (bZ ?_)
  exact ⟨[(1000001,602)],⟨[_],⟨⟨_,_,rfl,rfl,rfl,.inl ⟨AggT.h,rfl⟩⟩,trivial⟩,rfl⟩,(by repeat' (first|exact trivial|refine cM ⟨_,rfl,?_⟩ ?_|refine cM ⟨_,rfl⟩ ?_|rfl|exact bV _ _ _ _|exact bW _ _ _ _|exact bX rfl)),rfl,rfl⟩
theorem ofIds {s:Sc} (h:chkE s=0):okIds (s.cs.map Cp.id)=true:=List.all_eq_true.2 fun x hx=>by
  obtain ⟨c,hc,rfl⟩:=List.mem_map.1 hx
  obtain ⟨i,hi⟩:=List.mem_iff_getElem?.1 hc
  obtain ⟨g1,g2,_⟩:=(goodC16 h).one i c hi
  exact okI_iff.2 ⟨g1,g2⟩
theorem within_has {s:Sc} (h:chkE s=0) (set:Nat):withinB set (ofA (s.cs.map Cp.id))=(idsL set).all (hasC s.cs):=by
  unfold withinB
  have ho:=ofIds h
  rw [show ofA (s.cs.map Cp.id)=ofN (s.cs.map Cp.id) from if_pos ho]
  rw [Bool.eq_iff_iff,List.all_eq_true,List.all_eq_true]
  refine forall_congr' fun x=>forall_congr' fun hx => ?_
  have h1:hasB (ofN (s.cs.map Cp.id)) x=true↔x∈s.cs.map Cp.id:=by
    rw [← mem_ofN ho,← any_ids,List.any_eq_true]
    exact ⟨fun ⟨y,hy,e⟩=>by rw [← beq_iff_eq.1 e];exact hy,fun hy=>⟨x,hy,cR rfl⟩⟩
  rw [h1]
  unfold hasC
  rw [List.any_eq_true,List.mem_map]
  exact ⟨fun ⟨c,hc,e⟩=>⟨c,hc,cR e⟩,fun ⟨c,hc,e⟩=>⟨c,hc,beq_iff_eq.1 e⟩⟩
theorem ofA_lt (ids:List Int):ofA ids<4294967296:=by
  unfold ofA
  split
  · rename_i h
    have:=ofN_lt (ids:=ids) (List.all_eq_true.1 h)
    omega
  · omega
set_option maxHeartbeats 3200000 in
theorem isOf0 (s:Sc) (ad:Option Addr) (cap:Nat) (set:Nat) (hset:set<4294967296) (hin:CompsIn X ad s.cs) (hn:s.cs.length≤65536) (hc:chkE s=0) (r:Bool) (hr:(isB set&&(idsL set).all (hasC s.cs))=r):
    PSpec Tryz.prog X 37 [Ln .u32 (set:Nat),Sx s.ver ad s.cs.length cap] (Lb r):=by
  have hI:=pIds X s.ver ad cap s.cs hin hn
  have hOf:∀ {S:Nat→Option (Option Box)} {k:Nat} {el:TypeId} {row:Bool},S k=some (some ⟨el,(nuV (s.cs.map Cp.id)).map .val,row⟩)→∀ (Y:Nat→Option Obj) (us:List Value),(∀ b o,X b=some o→Y b=some o)→LentLs S Y [.sv (.one (.slc k 0 (s.cs.map Cp.id).length))] us→PSpec Tryz.prog Y 66 (us.map toLV) (.tup [Sn .u32 (ofA (s.cs.map Cp.id):Nat),Sn .i64 (ofE (s.cs.map Cp.id))]):=fun hk=>of_lent X (by rw [cT];omega) hk
  rw [show ofE (s.cs.map Cp.id)=0 from if_pos (ofIds hc)] at hOf
  have hids:idsV s.cs=nuV (s.cs.map Cp.id):=by unfold idsV nuV;rw [List.map_map];rfl
  have hil:(s.cs.map Cp.id).length=s.cs.length:=cT _
  rw [hids] at hI
  rw [hil] at hOf
  have hIs:=gIs X set hset
  have hW:=gWithin X set (ofA (s.cs.map Cp.id)) hset (ofA_lt _)
  rw [within_has hc] at hW
  subst hr
  generalize ofA (s.cs.map Cp.id)=oa at *
  generalize nuV (s.cs.map Cp.id)=nv at *
  refine cC Tryz.func37 rfl (by kernel_rfl) rfl rfl ?_
  intro C
  generalize isB set=q at *
  cases q with
  | false =>
    (refine aA<|rgN<|aK O O O dN<|kas O<|aB<|aA<|rgN<|aJ O O O dN ?_;refine bD [(1000001,601)] (.sv (.one (.slc 601 0 s.cs.length))) [(601,some ⟨3,nv.map .val,false⟩)] (hI) O O (by exact trivial) O O O O O (by exact (.box O (bW _ _ _ _) .nil)) dN<|K.callL [601] O O O (hOf O) dN ?_;refine kmv O<|kex O O<|kex O O<|kas O<|kas O<|aB<|aA<|rgN<|kmv O<|keq O O (r:=true) O<|kmv O<|gmv O O O<|gca O O hIs O O<|kpt O O ?_;refine kmv O<|aC O O O<|aC O O O<|aC O O O<|kpf O O<|kas O<|aB<|aH ?_)
    exact ⟨[_],⟨O,trivial⟩,O⟩
  | true =>
    generalize (idsL set).all (hasC s.cs)=w at *
    (refine aA<|rgN<|aK O O O dN<|kas O<|aB<|aA<|rgN<|aJ O O O dN ?_;refine bD [(1000001,601)] (.sv (.one (.slc 601 0 s.cs.length))) [(601,some ⟨3,nv.map .val,false⟩)] (hI) O O (by exact trivial) O O O O O (by exact (.box O (bW _ _ _ _) .nil)) dN<|K.callL [601] O O O (hOf O) dN ?_;refine kmv O<|kex O O<|kex O O<|kas O<|kas O<|aB<|aA<|rgN<|kmv O<|keq O O (r:=true) O<|kmv O<|gmv O O O<|gca O O hIs O O<|kpt O O ?_;refine kmv O<|gmv O O O<|gmv O O O<|gca O O hW O O<|kpt O O<|kas O<|aB<|aH ?_)
    exact ⟨[_],⟨O,trivial⟩,O⟩
end Go.Proofs.YtbpdbclndfmcgaaGreatDoor
end
section
namespace Go.Proofs.YtbpdbclndfmcgaaGreatDoor
open Go Go.Lg Go.Lg.Fld Go.Lg.Sg Go.Lg.Col
set_option maxRecDepth 100000
theorem names16 {cs:List Cp} (hs:cs.length≤30∧∀ c∈cs,c.fs.length≤12) (hm:NamesIn cs):NamesC cs:=fun c hc=>⟨by have:=hs.2 c hc;omega,(hm c hc).1,(hm c hc).2⟩
theorem good_split {s:Sc} {set:Nat} {most:Int}:goodT s set most=(decide (chkE s=0)&&((isB set&&(idsL set).all (hasC s.cs))&&(decide (1≤most)&&decide (most≤256)))):=by
  unfold goodT
  cases decide (chkE s=0)<;>cases isB set<;>cases decide (1≤most)<;>cases decide (most≤256)<;>cases (idsL set).all (hasC s.cs)<;>rfl
variable (X:Nat→Option Obj)
set_option maxHeartbeats 3200000 in
theorem tNew_no (s:Sc) (set:Nat) (most:Int) (ad:Option Addr) (cap:Nat) (hin:CompsIn X ad s.cs) (hm:NamesIn s.cs) (hs:s.cs.length≤30∧∀ c∈s.cs,c.fs.length≤12) (hset:set<4294967296) (h:goodT s set most=false):PSpec Tryz.prog X 8 [Sx s.ver ad s.cs.length cap,Ln .u32 (set:Nat),Ln .i64 most] LnilT:=by
  have hC:=pCheckBig X s ad cap hin (by omega) (names16 hs hm) _ rfl
  have hI:=fun hc=>isOf0 X s ad cap set hset hin (by omega) hc _ rfl
  rw [good_split] at h
  refine cC Tryz.func8 rfl (by kernel_rfl) rfl rfl ?_
  intro C
  by_cases hc:chkE s=0
  case neg =>
    generalize chkE s=e at *
    (refine aA<|rgN<|aK O O O dN<|kas O<|aB<|aA<|aA<|rgN<|aJ O O O dN ?_;refine kca O O hC<|kne O O (r:=true) (cP hc)<|kmv O<|aC O O O<|aC O O O<|aC O O O<|aC O O O<|kpt O O<|kmv O<|aC O O O<|aC O O O<|kpt O O<|kmv O<|aC O O O ?_;refine aC O O O<|kpt O O<|aB<|aD O ?_;refine aA<|rgN<|kas O<|aB<|aH ?_)
    exact ⟨[_],⟨O,trivial⟩,O⟩
  have hI:=hI hc
  rw [cL hc,Bool.true_and] at h
  rw [hc] at hC
  generalize (isB set&&(idsL set).all (hasC s.cs))=q at *
  cases q with
  | false =>
    (refine aA<|rgN<|aK O O O dN<|kas O<|aB<|aA<|aA<|rgN<|aJ O O O dN ?_;refine kca O O hC<|kne O O (r:=false) O<|kmv O<|gmv O O O<|aJ O O O (dO O O) ?_;refine gca O O hI O O<|aU O O (dO O O) ?_;refine kpf O O<|kmv O<|aC O O O<|aC O O O<|kpt O O<|kmv O<|aC O O O<|aC O O O<|kpt O O<|aB<|aD O ?_;refine aA<|rgN<|kas O<|aB<|aH ?_)
    exact ⟨[_],⟨O,trivial⟩,O⟩
  | true =>
    by_cases h1:most<1
    · (refine aA<|rgN<|aK O O O dN<|kas O<|aB<|aA<|aA<|rgN<|aJ O O O dN ?_;refine kca O O hC<|kne O O (r:=false) O<|kmv O<|gmv O O O<|aJ O O O (dO O O) ?_;refine gca O O hI O O<|aU O O (dO O O) ?_;refine kpf O O<|kmv O<|gmv O O O<|bJ O O (cL h1) (dO O O) ?_;refine kpf O O<|kmv O<|aC O O O<|aC O O O<|kpt O O<|aB<|aD O ?_;refine aA<|rgN<|kas O<|aB<|aH ?_)
      exact ⟨[_],⟨O,trivial⟩,O⟩
    · have h2:256<most:=by
        rw [Bool.true_and,Bool.and_eq_false_iff,decide_eq_false_iff_not,decide_eq_false_iff_not] at h
        omega
      (refine aA<|rgN<|aK O O O dN<|kas O<|aB<|aA<|aA<|rgN<|aJ O O O dN ?_;refine kca O O hC<|kne O O (r:=false) O<|kmv O<|gmv O O O<|aJ O O O (dO O O) ?_;refine gca O O hI O O<|aU O O (dO O O) ?_;refine kpf O O<|kmv O<|gmv O O O<|bJ O O (cK h1) (dO O O) ?_;refine kpf O O<|kmv O<|gmv O O O<|aR O O (cL h2) (dO O O) ?_;refine kpf O O<|aB<|aD O ?_;refine aA<|rgN<|kas O<|aB<|aH ?_)
      exact ⟨[_],⟨O,trivial⟩,O⟩
def ArrAt (H:Nat→Option Obj) (v:Value) (qs:List Nat):Prop:=(v=nilSlc∧qs=[])∨∃ db,LeadsTo H db v 97 1 (pvs qs)
theorem ArrAt.ptrs {H:Nat→Option Obj} {v:Value} {qs:List Nat} (h:ArrAt H v qs):PtrsIn H v qs:=by
  rcases h with ⟨rfl,rfl⟩|⟨db,h⟩
  · exact ⟨none,0,rfl,fun i b hb=>by simp at hb⟩
  · exact ptrs_leads h
set_option maxHeartbeats 12800000 in
theorem tNew (s:Sc) (set most:Nat) (ad:Option Addr) (cap:Nat) (hin:CompsIn X ad s.cs) (hm:NamesIn s.cs) (hs:s.cs.length≤30∧∀ c∈s.cs,c.fs.length≤12) (hset:set<4294967296) (h:goodT s set most=true):MSpec Tryz.prog X 8 [Sx s.ver ad s.cs.length cap,Ln .u32 (set:Nat),Ln .i64 (most:Nat)] [] (Lp 1000001) [tB 1000001 ⟨s,set,most,0,[]⟩]:=by
  have hk:TbOk ⟨s,set,most,0,[]⟩:=TbOk.new hset h
  have h24:=t_len24 hk
  have hC:=pCheckBig X s ad cap hin (by omega) (names16 hs hm) _ rfl
  rw [good_split] at h
  obtain ⟨hc,h⟩:=Bool.and_eq_true_iff.1 h
  obtain ⟨hq,h⟩:=Bool.and_eq_true_iff.1 h
  obtain ⟨hm1,hm2⟩:=Bool.and_eq_true_iff.1 h
  replace hc:=of_decide_eq_true hc
  replace hm1:=of_decide_eq_true hm1
  replace hm2:=of_decide_eq_true hm2
  have hI:=isOf0 X s ad cap set hset hin (by omega) hc _ hq
  rw [hc] at hC
  have hOnly:=only0 X s.ver ad cap s.cs set hset hin (by omega) fun c hc=>by have:=hs.2 c hc;omega
  refine cD Tryz.func8 rfl (by kernel_rfl) rfl rfl (by exact (by repeat' (first|refine bR ?_ ?_|rfl|exact bT|exact bS|exact bU rfl))) rfl rfl ?_
  intro C
  refine LWP.ends ?_
  have htc:onlyC (⟨s,set,most,0,[]⟩:Tb).sc.cs (⟨s,set,most,0,[]⟩:Tb).set=onlyC s.cs set:=rfl
  generalize hnc:(onlyC s.cs set).length=nc at *
  (refine aA<|rgN<|aK O O O dN<|kas O<|aB<|aA<|aA<|rgN<|aJ O O O dN ?_;refine kca O O hC<|kne O O (r:=false) O<|kmv O<|gmv O O O<|aJ O O O (dO O O) ?_;refine gca O O hI O O<|aU O O (dO O O) ?_;refine kpf O O<|kmv O<|gmv O O O<|bJ O O (cK (by omega)) (dO O O) ?_;refine kpf O O<|kmv O<|gmv O O O<|aR O O (cK (by omega)) (dO O O) ?_;refine kpf O O<|aB<|aE O ?_;refine aG ?_;refine aA<|rgN<|kmv O<|kmv O<|aJ O O O dN ?_;refine kmv O<|bD [(1000001,602)] (.sv (.agg [.val (.int .i64 s.ver),.slc 602 0 nc 3])) [cmB 602 (onlyC s.cs set)] (hOnly) O O (by exact trivial) O O O O O (by exact (.box O O .nil)) dN<|aS O O (by exact O) (by exact nl7 O O O O O O O O) dN ?_;refine aK O O O dN<|kas O<|aB<|aA<|aA ?_)
  refine LWP.le (σ':=⟨[(7,Lp 35),(2,Ln .i64 (most:Nat))],[(35,some ⟨92,[.val (.int .u32 (set:Nat)),.val (.int .i64 (most:Nat)),.val (.int .i64 (0:Nat)),.val nilSlc,.val (.int .i64 s.ver)] ++ .slc 602 0 nc 3::[.val nilSlc],false⟩),cmB 602 (onlyC s.cs set)],X⟩) (Le.of (by exact ⟨O,O,trivial⟩) (by exact ⟨O,O,trivial⟩) (by exact O) (by exact O) (by repeat' (first|refine bR ?_ ?_|rfl|exact bT|exact bS|exact bU O))) ?_
  refine LWP.fixCell O O O O O O fun ρ H2 cc hcm hO2 hcc _ => ?_
  obtain ⟨cb,cm⟩:=ρ
  have hin2:CompsIn H2 (some ⟨cb,0,none⟩) (onlyC s.cs set):=hcm.2
  (refine rgN<|kmv O<|bH O dN<|kfa O O ?_;refine kfa O O ?_;refine kl1 O O O<|aP O bY O dN ?_;refine kmv O<|aB<|aF ?_)
  refine cH (fun m σ=>∃ (j:Nat) (qs:List Nat) (vP:Value) (Hn HA:Nat→Option Obj),j≤nc∧m=nc-j∧OwnedM C (joinM X H2) Hn∧OwnedM C (joinM (joinM X H2) Hn) HA∧Refs Hn qs ((colsT ⟨s,set,most,0,[]⟩).take j)∧ArrAt HA vP qs∧σ=⟨[(7,Lp 35),(2,Ln .i64 (most:Nat)),(40,.sv (.one (vS (some ⟨cb,0,none⟩) nc cc))),(41,Ln .i64 (nc:Nat)),(42,Ln .i64 (j:Nat))],[tS 35 ⟨s,set,most,0,[]⟩ (.val nilSlc) (.slice (some ⟨cb,0,none⟩) nc cc) vP],joinM (joinM (joinM X H2) Hn) HA⟩) nc
    (cA (σ':=⟨[(7,Lp 35),(2,Ln .i64 (most:Nat)),(40,.sv (.one (vS (some ⟨cb,0,none⟩) nc cc))),(41,Ln .i64 (nc:Nat)),(42,Ln .i64 (0:Nat))],[tS 35 ⟨s,set,most,0,[]⟩ (.val nilSlc) (.slice (some ⟨cb,0,none⟩) nc cc) nilSlc],joinM X H2⟩) (Le.of (by exact ⟨rfl,rfl,rfl,rfl,rfl,trivial⟩) (by exact ⟨rfl,trivial⟩) (by exact rfl) (by exact rfl) (by repeat' (first|refine bR ?_ ?_|rfl|exact bT|exact bS|exact bU rfl))) (bZ ⟨0,[],nilSlc,fun _=>none,fun _=>none,by omega,by omega,OwnedM.nil _ _,OwnedM.nil _ _,Refs.nil _,.inl ⟨rfl,rfl⟩,by rw [joinM_nil,joinM_nil]⟩)) ?_
  rintro m σ ⟨j,qs,vP,Hn,HA,hj,rfl,hOn,hOA,hR,hA,rfl⟩
  have hcl:(colsT ⟨s,set,most,0,[]⟩).length=nc:=by rw [← hnc];exact colsG_len _ _ _
  have hqs:qs.length=j:=by rw [hR.len,cW];omega
  by_cases hlt:j<nc
  case neg =>
    have e:j=nc:=by omega
    subst e
    rw [List.take_of_length_le (by omega)] at hR
    (refine aA<|rgN<|klt O O (cK (by omega))<|aB<|aA<|aE O ?_;refine aI<|aA<|rgN<|kmv O<|kas O<|aB<|aH ?_)
    obtain ⟨p1,p2,p3⟩:=OwnedM.swap hOn hOA
    refine cA (σ':=⟨[(6,Lp 35)],[tS 35 ⟨s,set,most,0,[]⟩ (.val nilSlc) (.slice (some ⟨cb,0,none⟩) j cc) vP],tH X (joinM H2 HA) (fun _=>none) Hn⟩) (by
      unfold tH
      rw [joinM_nil,← joinM_join,← p3]
      exact Le.of (by exact ⟨O,trivial⟩) (by exact ⟨O,trivial⟩) (by exact O) (by exact O) (by repeat' (first|refine bR ?_ ?_|rfl|exact bT|exact bS|exact bU O))) ?_
    refine tab_shut (t:=⟨s,set,most,0,[]⟩) (hO2.join p1) (OwnedM.nil _ _) (by rw [joinM_nil,← joinM_join];exact p2) ⟨⟨cb,cc,by rw [← hnc],hin2.mono (Go.Lg.joinM_keeps p1)⟩,hA.ptrs.mono fun b o h=>joinM_in h,hR,.inl ⟨rfl,rfl⟩,fun r hr=>by cases hr⟩ (bZ ?_)
    exact ⟨[(1000001,35)],⟨[_],⟨rfl,trivial⟩,rfl⟩,(by repeat' (first|exact trivial|refine cM ⟨_,rfl,?_⟩ ?_|refine cM ⟨_,rfl⟩ ?_|rfl|exact bV _ _ _ _|exact bW _ _ _ _|exact bX rfl)),rfl,rfl⟩
  obtain ⟨c,hcj⟩:∃ c,(onlyC s.cs set)[j]? = some c:=⟨_,cU (by omega)⟩
  have hsz:=t_size hk (k:=j) (c:=c) hcj
  have hlay:=t_lay hk (k:=j) (c:=c) hcj
  have hM:∀ b o,H2 b=some o→joinM (joinM (joinM X H2) Hn) HA b=some o:=fun b o hb=>joinM_has hOA (joinM_has hOn (joinM_in hb))
  obtain ⟨cblk,coff,carr,cel,cfr,fad,fcap,hqq,hcX,hcsz,hccs,_,_,_,hF⟩:=(hin2.mono hM).get hcj
  simp only [Option.some.injEq,Addr.mk.injEq] at hqq
  obtain ⟨rfl,rfl,_⟩:=hqq
  have hio:0+Int.toNat (j:Int)*3=0+j*3:=by simp
  have hOf:=Of_ok (joinM (joinM (joinM X H2) Hn) HA) fad fcap c.fs hF (by omega) hlay
  have hNw:=cNew_ok (joinM (joinM (joinM X H2) Hn) HA) (rowSize c.fs) most hsz.2.1 (by omega) (by omega)
  have hadd:IntKind.i64.wrap (((j:Nat):Int)+1)=((j+1:Nat):Int):=by rw [cE (by omega)];omega
  have hroot:=colR_root (rowSize c.fs) most []
  have htk:(colsT ⟨s,set,most,0,[]⟩).take (j+1)=(colsT ⟨s,set,most,0,[]⟩).take j++[colR (rowSize c.fs) most []]:=take_snoc (colsG_at (f:=colL []) (most:=most) hcj)
  have hfin : ∀ (HA0 : Nat → Option Obj) (Mid : St → Prop), OwnedM C (joinM (joinM X H2) Hn) HA0 → (∀ (qs' : List Nat) (vP' : Value) (Hn' HA' : Nat → Option Obj), OwnedM C (joinM X H2) Hn' → OwnedM C (joinM (joinM X H2) Hn') HA' → Refs Hn' qs' ((colsT ⟨s, set, most, 0, []⟩).take (j + 1)) → ArrAt HA' vP' qs' →
        Leads Tryz.f8.ntmps C Mid ⟨[(7,Lp 35),(2,Ln .i64 (most:Nat)),(40,.sv (.one (vS (some ⟨cb,0,none⟩) nc cc))),(41,Ln .i64 (nc:Nat)),(42,Ln .i64 (j+1:Nat))],[tS 35 ⟨s,set,most,0,[]⟩ (.val nilSlc) (.slice (some ⟨cb,0,none⟩) nc cc) vP'],joinM (joinM (joinM X H2) Hn') HA'⟩) →
      Leads Tryz.f8.ntmps C Mid ⟨[(7,Lp 35),(2,Ln .i64 (most:Nat)),(40,.sv (.one (vS (some ⟨cb,0,none⟩) nc cc))),(41,Ln .i64 (nc:Nat)),(42,Ln .i64 (j+1:Nat))],[(603,some ⟨97,(pvs qs).map .val ++ .ptr 601 0::([]:List Value).map .val,true⟩),cB 601 (rowSize c.fs) most [],tO 35 ⟨s,set,most,0,[]⟩ (.val nilSlc) (.val (.slice (some ⟨cb,0,none⟩) nc cc)) (.slc 603 0 (j+1) 1)],joinM (joinM (joinM X H2) Hn) HA0⟩:=fun HA0 Mid hO0 hmid=>by
    refine Leads.fixRsc (k:=601) (s:=[(7,Lp 35),(2,Ln .i64 (most:Nat)),(40,.sv (.one (vS (some ⟨cb,0,none⟩) nc cc))),(41,Ln .i64 (nc:Nat)),(42,Ln .i64 (j+1:Nat))]) (bx:=[tO 35 ⟨s,set,most,0,[]⟩ (.val nilSlc) (.val (.slice (some ⟨cb,0,none⟩) nc cc)) (.slc 603 0 (j+1) 1)]) (s0:=[]) (b0:=[(603,some ⟨97,(pvs qs).map .val ++ .ptr 601 0::([]:List Value).map .val,true⟩)]) (by rfl) (by rfl) (by rfl) (by rfl) (by refine bR ?_ rfl;exact fixIn_mid _ _) fun ρ Hc2 k1 k2 => ?_
    obtain ⟨bn,mn⟩:=ρ
    obtain ⟨q1,q2,q3⟩:=OwnedM.swap hO0 k2
    have hpush:=hR.push k1 (hroot _ _ k1) fun x hx=>own_far q1 hx
    have hcells:((pvs qs).map CV.val ++ .ptr 601 0::([]:List Value).map CV.val).map (CV.fix 601 bn)=(pvs (qs++[bn])).map CV.val:=by
      rw [fix_mid]
      unfold pvs
      simp
    rw [q3]
    refine cA (σ':=⟨[(7,Lp 35),(2,Ln .i64 (most:Nat)),(40,.sv (.one (vS (some ⟨cb,0,none⟩) nc cc))),(41,Ln .i64 (nc:Nat)),(42,Ln .i64 (j+1:Nat))],[(35,some ⟨92,[.val (.int .u32 (set:Nat)),.val (.int .i64 (most:Nat)),.val (.int .i64 (0:Nat)),.val nilSlc,.val (.int .i64 s.ver),.val (.slice (some ⟨cb,0,none⟩) nc cc)] ++ .slc 603 0 (j+1) 1::[],false⟩),(603,some ⟨97,(pvs (qs++[bn])).map .val,true⟩)],joinM (joinM (joinM (joinM X H2) Hn) Hc2) HA0⟩) (by
      show Le _ _ (⟨[]++_,[(603,some ⟨_,((pvs qs).map CV.val ++ .ptr 601 0::([]:List Value).map CV.val).map (CV.fix 601 bn),true⟩)]++_,_⟩:St) _
      rw [hcells]
      exact Le.of (by exact ⟨O,O,O,O,O,trivial⟩) (by exact ⟨O,O,trivial⟩) (by exact O) (by exact O) (by repeat' (first|refine bR ?_ ?_|rfl|exact bT|exact bS|exact bU O))) ?_
    refine Leads.closeCell q2 (by rw [pvs_len,cS];simp only [cV];omega) rfl rfl rfl rfl rfl rfl fun ba oa va _ _ hOa hva => ?_
    rw [joinM_join (joinM X H2) Hn Hc2]
    rw [joinM_join (joinM X H2) Hn Hc2] at hOa
    exact hmid (qs++[bn]) va (joinM Hn Hc2) _ (hOn.join q1) hOa (by rw [htk];exact hpush) (.inr ⟨ba,hva⟩)
  have hdone:∀ (qs':List Nat) (vP':Value) (Hn' HA':Nat→Option Obj),OwnedM C (joinM X H2) Hn'→OwnedM C (joinM (joinM X H2) Hn') HA'→Refs Hn' qs' ((colsT ⟨s,set,most,0,[]⟩).take (j+1))→ArrAt HA' vP' qs'→_:=fun qs' vP' Hn' HA' y1 y2 y3 y4=>bZ (n:=Tryz.f8.ntmps) (C:=C) (Mid:=fun σ'=>∃ m',m'<nc-j∧∃ (j:Nat) (qs:List Nat) (vP:Value) (Hn HA:Nat→Option Obj),j≤nc∧m'=nc-j∧OwnedM C (joinM X H2) Hn∧OwnedM C (joinM (joinM X H2) Hn) HA∧Refs Hn qs ((colsT ⟨s,set,most,0,[]⟩).take j)∧ArrAt HA vP qs∧σ'=⟨[(7,Lp 35),(2,Ln .i64 (most:Nat)),(40,.sv (.one (vS (some ⟨cb,0,none⟩) nc cc))),(41,Ln .i64 (nc:Nat)),(42,Ln .i64 (j:Nat))],[tS 35 ⟨s,set,most,0,[]⟩ (.val nilSlc) (.slice (some ⟨cb,0,none⟩) nc cc) vP],joinM (joinM (joinM X H2) Hn) HA⟩) ⟨nc-(j+1),by omega,j+1,qs',vP',Hn',HA',by omega,rfl,y1,y2,y3,y4,rfl⟩
  (refine aA<|rgN<|klt O O (cL (by omega))<|aB<|aA<|aD O ?_;refine aG ?_;refine aA<|aF<|aA<|rgN<|aQ O O bY (by omega) hio dN<|aX O hcX (by kernel_rfl) hcsz hccs dN<|aO O dN ?_;refine aL O O O O O O dN ?_;refine aB<|aA<|rgN<|kfa O O ?_;refine kl1 O O O<|bD [(1000001,503)] (.tup [planV (rowSize c.fs:Nat) (.slc 503 0 c.fs.length 1),Sn .i64 0]) [(503,some ⟨3,(ntV (startsAt 0 c.fs)).map .val,false⟩)] (hOf) O O (by exact trivial) O O O O O (by exact (.box O (bW _ _ _ _) .nil)) dN<|kmv O<|kex O O<|kex O O<|aO O dN ?_;refine aL O O O O O O dN ?_;refine kas O<|aB ?_)
  refine LWP.le (σ':=⟨[(10,Lp 10),(7,Lp 35),(2,Ln .i64 (most:Nat)),(40,.sv (.one (vS (some ⟨cb,0,none⟩) nc cc))),(41,Ln .i64 (nc:Nat)),(42,Ln .i64 (j:Nat))],[(10,some ⟨94,[.val (.int .i64 (rowSize c.fs:Nat)),.slc 503 0 c.fs.length 1],false⟩),(503,some ⟨3,(ntV (startsAt 0 c.fs)).map .val,false⟩),tS 35 ⟨s,set,most,0,[]⟩ (.val nilSlc) (.slice (some ⟨cb,0,none⟩) nc cc) vP],joinM (joinM (joinM X H2) Hn) HA⟩) (Le.of (by exact ⟨O,O,O,O,O,O,trivial⟩) (by exact ⟨O,O,O,trivial⟩) (by exact O) (by exact O) (by repeat' (first|refine bR ?_ ?_|rfl|exact bT|exact bS|exact bU O))) ?_
  rcases hA with ⟨rfl,rfl⟩|⟨db,hd⟩
  · have hj0:j=0:=by rw [← hqs];rfl
    unfold nilSlc
    (refine rgD mixed<|kmv O<|kmv O<|bH O dN<|kfa O O ?_;refine kl1 O O O<|kfa O O ?_;refine kl1 O O O<|kmv O<|bD [(1000001,601)] (Lp 601) [cB 601 (rowSize c.fs) most []] (hNw) O O (by exact trivial) O O O O O (by exact (.box O O .nil)) dN<|aY (zs:=[.pointer none]) (sz:=1) (e:=97) (cs':=[.ptr 601 0]) (by kernel_rfl) O O O O O O dN<|K.appendNil (by_:=8) (e:=97) (e2:=97) (l2:=[.ptr 601 0]) O O O (dJ _) O O (by decide) (by kernel_rfl) (by kernel_rfl) (by omega) (by omega) O dN ?_;refine bH O dN<|kfa O O ?_;refine bF O O O O O (nl7 O O O O O O O O) dN<|aB<|rgA ?_;refine rgN<|kad O O hadd<|kmv O<|aB ?_)
    refine cA (σ':=⟨[(7,Lp 35),(2,Ln .i64 (most:Nat)),(40,.sv (.one (vS (some ⟨cb,0,none⟩) nc cc))),(41,Ln .i64 (nc:Nat)),(42,Ln .i64 (j+1:Nat))],[(603,some ⟨97,(pvs []).map .val ++ .ptr 601 0::([]:List Value).map .val,true⟩),cB 601 (rowSize c.fs) most [],tO 35 ⟨s,set,most,0,[]⟩ (.val nilSlc) (.val (.slice (some ⟨cb,0,none⟩) nc cc)) (.slc 603 0 (j+1) 1)],joinM (joinM (joinM X H2) Hn) HA⟩) (by rw [hj0];exact Le.ofR [(603,62)] (by exact ⟨rfl,rfl,rfl,rfl,rfl,trivial⟩) (by repeat' (first|exact trivial|refine cM ⟨_,rfl,?_⟩ ?_|refine cM ⟨_,rfl⟩ ?_|rfl|exact bV _ _ _ _|exact bW _ _ _ _|exact bX rfl)) (by exact rfl) (by exact rfl) (by repeat' (first|refine bR ?_ ?_|rfl|exact bT|exact bS|exact bU rfl)) (by exact rfl) (by exact rfl)) ?_
    exact hfin _ _ hOA hdone
  · have hel:(pvs qs).length=j*1:=by rw [pvs_len];omega
    have hcl1:((pvs qs).map CV.val).length=j*1:=by rw [cT];exact hel
    refine LWP.le (σ':=⟨[(10,Lp 10),(7,Lp 35),(2,Ln .i64 (most:Nat)),(40,.sv (.one (vS (some ⟨cb,0,none⟩) nc cc))),(41,Ln .i64 (nc:Nat)),(42,Ln .i64 (j:Nat))],[tS 35 ⟨s,set,most,0,[]⟩ (.val nilSlc) (.slice (some ⟨cb,0,none⟩) nc cc) vP,(10,some ⟨94,[.val (.int .i64 (rowSize c.fs:Nat)),.slc 503 0 c.fs.length 1],false⟩),(503,some ⟨3,(ntV (startsAt 0 c.fs)).map .val,false⟩)],joinM (joinM (joinM X H2) Hn) HA⟩) (Le.of (by exact ⟨O,O,O,O,O,O,trivial⟩) (by exact ⟨O,O,O,trivial⟩) (by exact O) (by exact O) (by repeat' (first|refine bR ?_ ?_|rfl|exact bT|exact bS|exact bU O))) ?_
    refine LWP.openCell (A:=[.val (.int .u32 (set:Nat)),.val (.int .i64 (most:Nat)),.val (.int .i64 (0:Nat)),.val nilSlc,.val (.int .i64 s.ver),.val (.slice (some ⟨cb,0,none⟩) nc cc)]) (B:=[]) (k:=602) (sz:=1) (len:=j) hOA hd hel (by omega) O (by repeat' (first|refine bR ?_ ?_|rfl|exact bS)) O O O ?_
    have hNw2:=cNew_ok (joinM (joinM (joinM X H2) Hn) (cutM HA db)) (rowSize c.fs) most hsz.2.1 (by omega) (by omega)
    (refine rgD mixed<|kmv O<|kmv O<|bH O dN<|kfa O O ?_;refine kl1 O O O<|kfa O O ?_;refine kl1 O O O<|kmv O<|bD [(1000001,601)] (Lp 601) [cB 601 (rowSize c.fs) most []] (hNw2) O O (by exact trivial) O O O O O (by exact (.box O O .nil)) dN<|aY (zs:=[.pointer none]) (sz:=1) (e:=97) (cs':=[.ptr 601 0]) (by kernel_rfl) O O O O O O dN<|bO (by_:=8) (e2:=97) (l2:=[.ptr 601 0]) (nl:=j+1) (nc:=(pvs qs).map .val++[.ptr 601 0]) O O hcl1 O O (dJ _) O O (by kernel_rfl) (by kernel_rfl) (by omega) (by omega) O O O dN<|bH O dN<|kfa O O ?_;refine bF O O O O O (nl7 O O O O O O O O) dN<|aB<|rgA ?_;refine rgN<|kad O O hadd<|kmv O<|aB ?_)
    refine cA (σ':=⟨[(7,Lp 35),(2,Ln .i64 (most:Nat)),(40,.sv (.one (vS (some ⟨cb,0,none⟩) nc cc))),(41,Ln .i64 (nc:Nat)),(42,Ln .i64 (j+1:Nat))],[(603,some ⟨97,(pvs qs).map .val ++ .ptr 601 0::([]:List Value).map .val,true⟩),cB 601 (rowSize c.fs) most [],tO 35 ⟨s,set,most,0,[]⟩ (.val nilSlc) (.val (.slice (some ⟨cb,0,none⟩) nc cc)) (.slc 603 0 (j+1) 1)],joinM (joinM (joinM X H2) Hn) (cutM HA db)⟩) (Le.ofR [(603,62)] (by exact ⟨rfl,rfl,rfl,rfl,rfl,trivial⟩) (by repeat' (first|exact trivial|refine cM ⟨_,rfl,?_⟩ ?_|refine cM ⟨_,rfl⟩ ?_|rfl|exact bV _ _ _ _|exact bW _ _ _ _|exact bX rfl)) (by exact rfl) (by exact rfl) (by repeat' (first|refine bR ?_ ?_|rfl|exact bT|exact bS|exact bU rfl)) (by exact rfl) (by exact rfl)) ?_
    exact hfin _ _ (hOA.cut db) hdone
end Go.Proofs.YtbpdbclndfmcgaaGreatDoor
end
section
namespace Go.Proofs.YtbpdbclndfmcgaaGreatDoor
open Go Go.Lg Go.Lg.Fld Go.Lg.Sg
set_option maxRecDepth 100000
def tMade (_:Nat):Bool:=true
theorem tMade_zero {n:Nat} (h:tMade n=false):n=0:=by cases h
section
variable {P:Program} {n:Nat} {C:Ctx} {c:Code} {Q:Exit→St→Prop} {X:Nat→Option Obj} {s:List (Nat×LV)} {bx:List (Nat×Option Box)} {k:Nat}
theorem tab_made {t:Tb} (h:∀ m:Bool,(m=false→t.l=[])→LWP P n C c Q ⟨s,tM k m t::bx,X⟩):LWP P n C c Q ⟨s,tB k t::bx,X⟩:=
  LWP.resEx (α:={ m:Bool // m=false→t.l=[] }) (fun m=>tbM m.1 t) (fun _ _ ⟨m,h⟩=>⟨⟨m,fun e=>by subst e;exact tM_nil h⟩,h⟩) fun m=>h m.1 m.2
theorem Le.unmade {t:Tb} {m:Bool}:Le n C ⟨s,tM k m t::bx,X⟩ ⟨s,tB k t::bx,X⟩:=⟨fun ι a w hr=>⟨ι,by
  obtain ⟨_,hx⟩:=hr.resEx (α:=Unit) (R2:=fun _=>tbR t) fun ρ H hh=>⟨(),_,hh⟩
  exact hx⟩⟩
end
variable (X:Nat→Option Obj)
theorem tGet_none (t:Tb) (hk:TbOk t) (row comp:Int) (_:tgetE t row comp=0) (hm:tMade (getV t row comp).length=false):MSpec Tryz.prog X 12 [Lp 1000000,Ln .i64 row,Ln .i64 comp] [tB 1000000 t] (.tup [Vnil,Sn .i64 0]) [tB 1000000 t]:=by
  have _:=hk
  cases hm
theorem tGet (t:Tb) (hk:TbOk t) (row comp:Int) (h:tgetE t row comp=0) (_:tMade (getV t row comp).length=true):MSpec Tryz.prog X 12 [Lp 1000000,Ln .i64 row,Ln .i64 comp] [tB 1000000 t] (.tup [.one (.slc 1000001 0 (getV t row comp).length 3),Sn .i64 0]) [tB 1000000 t,nmsB 1000001 (getV t row comp) true]:=tGetM X t hk row comp h
theorem tParts_none (t:Tb) (hk:TbOk t) (i:Nat) (r:Rw) (_:t.l[i]? = some r) (hm:tMade r.p.length=false):MSpec Tryz.prog X 13 [Lp 1000000,Ln .i64 (i:Nat)] [tB 1000000 t] (.tup [Vnil,Sn .i64 0]) [tB 1000000 t]:=by
  have _:=hk
  cases hm
theorem tParts (t:Tb) (hk:TbOk t) (i:Nat) (r:Rw) (h:t.l[i]? = some r) (_:tMade r.p.length=true):MSpec Tryz.prog X 13 [Lp 1000000,Ln .i64 (i:Nat)] [tB 1000000 t] (.tup [.one (.slc 1000001 0 r.p.length 2),Sn .i64 0]) [tB 1000000 t,prtB 1000001 r.p]:=tPartsM X t hk i r h
end Go.Proofs.YtbpdbclndfmcgaaGreatDoor
end
section
namespace Go.Proofs.YtbpdbclndfmcgaaGreatDoor
open Go Go.Lg Go.Lg.Fld Go.Lg.Sg Go.Lg.Arith
set_option maxRecDepth 100000
def greatB16 (cs:List Cp):Bool:=decide (30<cs.length)||cs.any fun c=>decide (12<c.fs.length)
theorem eqN16 {b b':Bool} {M N:Int} (hM:In2 M) (hN:In2 N):(b==b'&&(M/18446744073709551616==N/18446744073709551616&&M%18446744073709551616==N%18446744073709551616))=decide (((b,M):Bool×Int)=(b',N)):=by
  by_cases h:b=b'∧M=N
  · obtain ⟨rfl,rfl⟩:=h
    simp
  · rw [cK (fun e=>h (by simpa using e))]
    cases hc:(b==b'&&(M/18446744073709551616==N/18446744073709551616&&M%18446744073709551616==N%18446744073709551616)) with
    | false=>rfl
    | true =>
      simp only [Bool.and_eq_true,beq_iff_eq] at hc
      exact absurd ⟨hc.1,by omega⟩ h
variable (X:Nat→Option Obj)
set_option maxHeartbeats 3200000 in
theorem great16_spec (ver:Int) (ad:Option Addr) (cap:Nat) (cs:List Cp) (hin:CompsIn X ad cs) (r:Bool) (hr:greatB16 cs=r):PSpec Tryz.prog X 7 [Sx ver ad cs.length cap] (Lb r):=by
  subst hr
  refine cC Tryz.func7 rfl (by kernel_rfl) rfl rfl ?_
  intro C
  by_cases hn:30<cs.length
  · rw [show greatB16 cs=true by unfold greatB16;rw [cL hn];rfl]
    (refine aA<|rgN<|aK O O O dN<|kas O<|aB<|aA<|aA<|rgN<|kfa O O ?_;refine kl1 O O O<|aP O bY O dN ?_;refine aR O O (cL (by omega)) dN<|aB<|aD O ?_;refine aA<|rgN<|kas O<|aB<|aH ?_)
    exact ⟨[_],⟨O,trivial⟩,O⟩
  (refine aA<|rgN<|aK O O O dN<|kas O<|aB<|aA<|aA<|rgN<|kfa O O ?_;refine kl1 O O O<|aP O bY O dN ?_;refine aR O O (cK (by omega)) dN<|aB<|aE O ?_;refine aG ?_;refine aA<|aA<|rgN<|kas O<|aB<|aF ?_)
  refine cG (fun m σ=>∃ i:Nat,i≤cs.length∧m=cs.length-i∧(∀ (j:Nat) (y:Cp),j<i→cs[j]? = some y→decide (12<y.fs.length)=false)∧σ=⟨[(1,Lp 1),(3,Ln .i64 (i:Nat))],[sxB 1 ver ad cs.length cap],X⟩) cs.length
    ⟨_,Le.of (by exact ⟨rfl,rfl,trivial⟩) (by exact ⟨rfl,trivial⟩) (by exact rfl) (by exact rfl) (by repeat' (first|refine bR ?_ ?_|rfl|exact bT|exact bS|exact bU rfl)),0,by omega,by omega,fun j y hj=>absurd hj (by omega),rfl⟩ ?_
  rintro m σ ⟨i,hi,rfl,hpre,rfl⟩
  by_cases hlt:i<cs.length
  · obtain ⟨c,hc⟩:∃ c,cs[i]? = some c:=⟨_,cU hlt⟩
    obtain ⟨blk,off,arr,el,fr,fad,fcap,rfl,hX,hsz,hcs,g1,g2,g3,hF⟩:=hin.get hc
    have hio:off+Int.toNat (i:Int)*3=off+i*3:=by simp
    by_cases h1:12<c.fs.length
    · rw [show greatB16 cs=true by unfold greatB16;rw [any_at hc (by exact cL h1),Bool.or_true]]
      (refine aA<|aA<|rgN<|kmv O<|kfa O O ?_;refine kl1 O O O<|aP O bY O dN ?_;refine klt O O (cL (by omega))<|aB<|aD O ?_;refine aG ?_;refine aA<|aF<|aA<|rgN<|kfa O O ?_;refine kl1 O O O<|kmv O<|aQ O O bY (by omega) hio dN<|bG O O dN ?_;refine aV O hX O g3 dN<|aP O bY O dN ?_;refine aR O O (cL (by omega)) dN<|aB<|aD O ?_;refine aA<|rgN<|kas O<|aB<|aH ?_)
      exact ⟨[_],⟨O,trivial⟩,O⟩
    · (refine aA<|aA<|rgN<|kmv O<|kfa O O ?_;refine kl1 O O O<|aP O bY O dN ?_;refine klt O O (cL (by omega))<|aB<|aD O ?_;refine aG ?_;refine aA<|aF<|aA<|rgN<|kfa O O ?_;refine kl1 O O O<|kmv O<|aQ O O bY (by omega) hio dN<|bG O O dN ?_;refine aV O hX O g3 dN<|aP O bY O dN ?_;refine aR O O (cK (by omega)) dN<|aB<|aE O ?_;refine aG ?_;refine rgN<|kmv O<|kad O O (cE (by omega))<|kas O<|aB ?_)
      exact ⟨_,_,by omega,Le.of (by exact ⟨O,O,trivial⟩) (by exact ⟨O,trivial⟩) (by exact O) (by exact O) (by repeat' (first|refine bR ?_ ?_|rfl|exact bT|exact bS|exact bU O)),i+1,by omega,O,(fun j y hj hy=>by
        by_cases e:j=i
        · subst e
          rw [hc] at hy
          cases hy
          exact cK h1
        · exact hpre j y (by omega) hy),rfl⟩
  · rw [show greatB16 cs=false by unfold greatB16;rw [cK hn,any_no fun j y hy=>hpre j y (by have:=(List.getElem?_eq_some_iff.1 hy).1;omega) hy];rfl]
    (refine aA<|aA<|rgN<|kmv O<|kfa O O ?_;refine kl1 O O O<|aP O bY O dN ?_;refine klt O O (cK (by omega))<|aB<|aE O ?_;refine aI<|aA<|rgN<|kas O<|aB<|aH ?_)
    exact ⟨[_],⟨O,trivial⟩,O⟩
set_option maxHeartbeats 6400000 in
theorem values16 (l m:List (Bool×Int)) (ad ad2:Option Addr) (cap cap2:Nat) (ha:NumsIn X ad l) (hb:NumsIn X ad2 m) (hbig:l.length<4611686018427387904) (r:Bool) (hr:decide (l=m)=r):
    PSpec Tryz.prog X 33 [Lx ad l.length cap,Lx ad2 m.length cap2] (Lb r):=by
  subst hr
  refine cC Tryz.func33 rfl (by kernel_rfl) rfl rfl ?_
  intro C
  by_cases hl:l.length=m.length
  · (refine aA<|rgN<|kas O<|aB<|aA<|aA<|rgN<|kmv O<|aP O bY O dN ?_;refine kmv O<|aP O bY O dN ?_;refine kne O O (r:=false) (by rw [hl];simp)<|aB<|aE O ?_;refine aG ?_;refine aA<|aA<|rgN<|kas O<|aB<|aF ?_)
    refine cG (fun q σ=>∃ i:Nat,i≤l.length∧q=l.length-i∧l.take i=m.take i∧σ=⟨[(0,Lx ad l.length cap),(1,Lx ad2 m.length cap2),(5,Ln .i64 (i:Nat))],[],X⟩) l.length
      ⟨_,Le.of (by exact ⟨rfl,rfl,rfl,trivial⟩) (by exact trivial) (by exact rfl) (by exact rfl) (by exact rfl),0,by omega,rfl,rfl,rfl⟩ ?_
    rintro q σ ⟨i,hi,rfl,hpre,rfl⟩
    by_cases hlt:i<l.length
    · obtain ⟨⟨b1,N1⟩,hf⟩:∃ v,l[i]? = some v:=⟨_,cU hlt⟩
      obtain ⟨⟨b2,N2⟩,hf'⟩:∃ v,m[i]? = some v:=⟨_,cU (by omega)⟩
      obtain ⟨hN1,blk,off,arr,el,fr,rfl,hX,hsz,hcells⟩:=ha.at hf
      obtain ⟨hN2,blk',off',arr',el',fr',rfl,hX',hsz',hcells'⟩:=hb.at hf'
      have hio:off+Int.toNat (i:Int)*3=off+i*3:=by simp
      have hio':off'+Int.toNat (i:Int)*3=off'+i*3:=by simp
      have hadd:IntKind.i64.wrap (((i:Nat):Int)+1)=((i+1:Nat):Int):=by rw [cE (by omega)];omega
      have q:=eqI (b:=b1) (b':=b2) (h:=N1/18446744073709551616) (h':=N2/18446744073709551616) (l:=N1%18446744073709551616) (l':=N2%18446744073709551616) _ (eqN16 hN1 hN2)
      by_cases hq:((b1,N1):Bool×Int)=(b2,N2)
      · rw [cL hq] at q
        (refine aA<|aA<|rgN<|kmv O<|kmv O<|aP O bY O dN ?_;refine klt O O (cL (by omega))<|aB<|aD O ?_;refine aG ?_;refine aA<|aF<|aA<|rgD mixed<|kmv O<|kmv O<|aQ O O bY (by omega) hio dN<|aX O hX (by kernel_rfl) hsz hcells dN<|kmv O<|kmv O<|aQ O O bY (by omega) hio' dN<|aX O hX' (by kernel_rfl) hsz' hcells' dN<|K.aggEq O O O O (by kernel_rfl) q (.inr ⟨O,O⟩) dN<|aB ?_;refine rgA ?_;refine aE O ?_;refine aG ?_;refine rgN<|kmv O<|kad O O hadd<|kas O<|aB ?_)
        exact ⟨_,_,by omega,Le.of (by exact ⟨rfl,rfl,rfl,trivial⟩) (by exact trivial) (by exact rfl) (by exact rfl) (by exact rfl),i+1,by omega,rfl,by rw [take_snoc hf,take_snoc hf',hpre,hq],rfl⟩
      · rw [cK (show ¬l=m from fun e=>hq (by rw [e,hf'] at hf;exact (Option.some.inj hf).symm))]
        rw [cK hq] at q
        (refine aA<|aA<|rgN<|kmv O<|kmv O<|aP O bY O dN ?_;refine klt O O (cL (by omega))<|aB<|aD O ?_;refine aG ?_;refine aA<|aF<|aA<|rgD mixed<|kmv O<|kmv O<|aQ O O bY (by omega) hio dN<|aX O hX (by kernel_rfl) hsz hcells dN<|kmv O<|kmv O<|aQ O O bY (by omega) hio' dN<|aX O hX' (by kernel_rfl) hsz' hcells' dN<|K.aggEq O O O O (by kernel_rfl) q (.inr ⟨O,O⟩) dN<|aB ?_;refine rgA ?_;refine aD O ?_;refine aA<|rgN<|kas O<|aB<|aH ?_)
        exact ⟨[_],⟨O,trivial⟩,O⟩
    · have e:i=l.length:=by omega
      subst e
      rw [dB,List.take_of_length_le (by omega)] at hpre
      rw [cL hpre]
      (refine aA<|aA<|rgN<|kmv O<|kmv O<|aP O bY O dN ?_;refine klt O O (cK (by omega))<|aB<|aE O ?_;refine aI<|aA<|rgN<|kas O<|aB<|aH ?_)
      exact ⟨[_],⟨O,trivial⟩,O⟩
  · rw [cK (show ¬l=m from fun e=>hl (by rw [e]))]
    (refine aA<|rgN<|kas O<|aB<|aA<|aA<|rgN<|kmv O<|aP O bY O dN ?_;refine kmv O<|aP O bY O dN ?_;refine kne O O (r:=true) (by rw [bne_iff_ne];omega)<|aB<|aD O ?_;refine aA<|rgN<|kas O<|aB<|aH ?_)
    exact ⟨[_],⟨O,trivial⟩,O⟩
theorem greatB16_no {cs:List Cp} (h:greatB16 cs=false):cs.length≤30∧∀ c∈cs,c.fs.length≤12:=by
  unfold greatB16 at h
  rw [Bool.or_eq_false_iff,decide_eq_false_iff_not,List.any_eq_false] at h
  exact ⟨by omega,fun c hc=>by have:=h.2 c hc;simpa using this⟩
end Go.Proofs.YtbpdbclndfmcgaaGreatDoor
end
section
namespace Go.Proofs.YtbpdbclndfmcgaaGreatDoor
open Go Go.Lg Go.Lg.Fld Go.Lg.Sg
set_option maxRecDepth 100000
structure EnIn (X:Nat→Option Obj) (ad:Option Addr) (l:List Nat):Prop where
  at_:∀ (i:Nat) (h:Nat),l[i]? = some h→∃ (blk off:Nat) (arr:Array Value) (el:TypeId) (fr:Nat×Nat),ad=some ⟨blk,off,none⟩∧X blk=some (.cells arr el fr)∧arr[off+i*1]? = some (.int .u64 (h:Nat))
theorem EnIn.nil {X:Nat→Option Obj}:EnIn X none []:=⟨fun i h hi=>by simp at hi⟩
theorem en_block {Y:Nat→Option Obj} {blk:Nat} {arr:Array Value} {el:TypeId} {fr:Nat×Nat} {l:List Nat} (hY:Y blk=some (.cells arr el fr)) (h:∃ sp,arr.toList=(l.map fun h=>Value.int .u64 (h:Nat))++sp):EnIn Y (some ⟨blk,0,none⟩) l:=⟨fun i v hv=>by
  obtain ⟨sp,h⟩:=h
  refine ⟨blk,0,arr,el,fr,O,hY,?_⟩
  rw [← Array.getElem?_toList,h,Nat.zero_add,Nat.mul_one,dM (by rw [cT];exact (List.getElem?_eq_some_iff.1 hv).1),dH,hv];rfl⟩
theorem entsT_at {t:Tb} {i:Nat} {r:Rw} (h:t.l[i]? = some r):(entsT t)[i]? = some r.e:=by unfold entsT;rw [dH,h];rfl
theorem parts_nil16 {X:Nat→Option Obj} {ad:Option Addr}:PartsIn X ad []:=⟨fun i p hp=>by simp at hp,fun p hp=>by cases hp⟩
variable (X:Nat→Option Obj)
end Go.Proofs.YtbpdbclndfmcgaaGreatDoor
end
section
namespace Go.Proofs.YtbpdbclndfmcgaaGreatDoor
open Go Go.Lg Go.Lg.Fld Go.Lg.Sg
set_option maxRecDepth 100000
structure Ac where
  kind:Int
  i:Int
  e:Nat
  p:List Pt
structure AcsIn (X:Nat→Option Obj) (ad:Option Addr) (acs:List Ac):Prop where
  at_:∀ (i:Nat) (a:Ac),acs[i]? = some a→∃ (blk off:Nat) (arr:Array Value) (el:TypeId) (fr:Nat×Nat) (pad:Option Addr) (pcap:Nat),ad=some ⟨blk,off,none⟩∧X blk=some (.cells arr el fr)∧off+i*4+4≤arr.size ∧
    (arr.toList.drop (off+i*4)).take 4=[.int .i64 a.kind,.int .i64 a.i,.int .u64 (a.e:Nat),.slice pad a.p.length pcap]∧PartsC X pad a.p
  small:∀ a∈acs,(-9223372036854775808≤a.kind∧a.kind<9223372036854775808)∧(-9223372036854775808≤a.i∧a.i<9223372036854775808)∧a.e<18446744073709551616∧a.p.length<4611686018427387904∧∀ x∈a.p,x.val.length<4611686018427387904
theorem rest_u16 {v:Int} (k:Nat) (hk:0<k) (hk2:k<9223372036854775808):∃ r:Nat,r<k∧(IntKind.u64.wrap v).tmod (k:Int)=(r:Nat):=by
  have h0:0≤IntKind.u64.wrap v∧IntKind.u64.wrap v<18446744073709551616:=by
    simp only [IntKind.wrap,IntKind.bits,IntKind.signed]
    simp
    omega
  refine ⟨((IntKind.u64.wrap v).tmod (k:Int)).toNat,?_,?_⟩
  · have:=Int.tmod_lt_of_pos (IntKind.u64.wrap v) (show (0:Int)<(k:Int) by omega)
    have:=Int.tmod_nonneg (k:Int) h0.1
    omega
  · have:=Int.tmod_nonneg (k:Int) h0.1
    omega
variable (X:Nat→Option Obj)
end Go.Proofs.YtbpdbclndfmcgaaGreatDoor
end
section
namespace Go.Proofs.YtbpdbclndfmcgaaGreatDoor
open Go Go.Lg Go.Lg.Fld Go.Lg.Sg Go.RowKit Go.ChangeShapes Go.WideShapes Go.Joins
set_option maxRecDepth 100000
section
variable {H:Type} {enc:TypeId×Value→H} {w:World}
theorem open_acts16_w {fuel:Nat} {l:List Value} {x:DataW H×List MemPlace} (h:DataW.trod enc Tryz.prog w 0 (fun _=>true) true fuel 26 l=some x) (hw:Light Tryz.prog 26 x.1):
    ∃ (ad:Option Addr) (cap:Nat) (ls:List Ac),l=[.slice ad ls.length cap]∧ls.length≤4398046511104*4∧AcsIn (fun b=>w.heap[b]?) ad ls:=by
  obtain ⟨ad,cap,rows,rfl,hb,h1,_,h3,h4⟩:=open_rows_w (e:=64) (sz:=4) (by kernel_rfl) (by kernel_rfl) (by decide) h hw
  obtain ⟨ts,rfl,h5⟩:=map_of (f:=fun t:Ac×Option Addr×Nat=>[.int .i64 t.1.kind,.int .i64 t.1.i,.int .u64 (t.1.e:Nat),.slice t.2.1 t.1.p.length t.2.2]) (q:=fun t=>(PartsC (fun b=>w.heap[b]?) t.2.1 t.1.p∧t.1.p.length≤4398046511104*4∧∀ x∈t.1.p,x.val.length≤4398046511104*4)∧(-9223372036854775808≤t.1.kind∧t.1.kind<9223372036854775808)∧(-9223372036854775808≤t.1.i∧t.1.i<9223372036854775808)∧t.1.e<18446744073709551616) (vs:=rows) (fun u hu=>by
    obtain ⟨hlen,n,x,hx,hxw⟩:=h4 u hu
    obtain ⟨y0,y1,y2,y3,n',ex,_,g0,g1,g2,g3⟩:=trod_struct4 (t:=64) Tryz.underlying64 hx
    rw [ex] at hxw
    have hF3:=(Light.struct4 Tryz.underlying64 hxw).2.2.2
    obtain ⟨c0,c1,c2,c3,rfl⟩:∃ c0 c1 c2 c3,u=[c0,c1,c2,c3]:=by
      match u,hlen with
      | [c0,c1,c2,c3],_=>exact ⟨c0,c1,c2,c3,rfl⟩
    obtain ⟨k,e0,_,wa0⟩:=DataW.trod_int (k:=.i64) (by kernel_rfl) g0
    obtain ⟨i,e1,_,wa1⟩:=DataW.trod_int (k:=.i64) (by kernel_rfl) g1
    obtain ⟨s,e2,_,wa2⟩:=DataW.trod_int (k:=.u64) (by kernel_rfl) g2
    obtain ⟨vad,vcap,ps,e3,_,hF1,hF,hF2⟩:=open_parts_w g3 hF3
    have q0:c0 = .int .i64 k:=by simpa using (show ([c0,c1,c2,c3].drop 0).take 1=[.int .i64 k] from e0)
    have q1:c1 = .int .i64 i:=by simpa using (show ([c0,c1,c2,c3].drop 1).take 1=[.int .i64 i] from e1)
    have q2:c2 = .int .u64 s:=by simpa using (show ([c0,c1,c2,c3].drop 2).take 1=[.int .u64 s] from e2)
    have q3:c3 = .slice vad ps.length vcap:=by simpa using (show ([c0,c1,c2,c3].drop 3).take 1=[.slice vad ps.length vcap] from e3)
    subst q0 q1 q2 q3
    have b0:=bounds_i64 wa0
    have b1:=bounds_i64 wa1
    have b2:=bounds_u64 wa2
    obtain ⟨s',rfl⟩:∃ s':Nat,s=(s':Int):=⟨s.toNat,by omega⟩
    exact ⟨(⟨k,i,s',ps⟩,vad,vcap),O,⟨hF,hF1,hF2⟩,(show (-9223372036854775808≤k∧k<9223372036854775808)∧(-9223372036854775808≤i∧i<9223372036854775808)∧s'<18446744073709551616 by omega)⟩)
  refine ⟨ad,cap,ts.map (·.1),by rw [cT,cT],by rw [cT,show Tryz.prog.bytesOf 64=48 by kernel_rfl,show reachBytes=140737488351232 by decide] at hb;rw [cT];omega,⟨fun i c hc => ?_,fun c hc => ?_⟩⟩
  · rw [dH] at hc
    cases ht:ts[i]? with
    | none=>rw [ht] at hc;cases hc
    | some t =>
      rw [ht] at hc
      simp only [Option.map_some,Option.some.injEq] at hc
      subst hc
      obtain ⟨blk,off,arr,el,fr,g1,g2,g3,g4⟩:=h3 i _ (by rw [dH,ht];rfl)
      exact ⟨blk,off,arr,el,fr,t.2.1,t.2.2,g1,g2,g3,g4,(h5 t (cZ ht)).1.1⟩
  · obtain ⟨t,ht,rfl⟩:=List.mem_map.1 hc
    obtain ⟨⟨_,k1,k2⟩,k3,k4,k5⟩:=h5 t ht
    exact ⟨k3,k4,k5,by omega,fun x hx=>by have:=k2 x hx;omega⟩
theorem open_acts16 {r:Reach} {b0:Nat} {v:Value} {d:DataW H} {p:List MemPlace} (hv:Value.okWide Tryz.prog w r b0 26 v) (h:DataW.Trod enc Tryz.prog w 0 (fun _=>true) true 26 v d p) (hw:Light Tryz.prog 26 d):
    ∃ (ad:Option Addr) (cap:Nat) (ls:List Ac),v = .slice ad ls.length cap∧ls.length≤4398046511104*4∧AcsIn (fun b=>w.heap[b]?) ad ls:=by
  obtain ⟨a,len,cap0,rfl⟩:=okWide_slice (e:=64) (by kernel_rfl) hv
  obtain ⟨fuel,hf⟩:=h
  obtain ⟨ad,cap,ls,e1,h1,h2⟩:=open_acts16_w hf hw
  simp [Value.cells] at e1
  obtain ⟨rfl,rfl,rfl⟩:=e1
  exact ⟨_,_,ls,O,h1,h2⟩
end
end Go.Proofs.YtbpdbclndfmcgaaGreatDoor
end
section
namespace Go.Proofs.YtbpdbclndfmcgaaGreatDoor
open Go Go.Lg Go.Lg.Fld Go.Lg.Sg
set_option maxRecDepth 100000
theorem dropL_perm {α:Type} {l:List α} {i:Nat} {x:α} (h:l[i]? = some x):l.Perm (x::dropL l i):=by
  obtain ⟨hi,e⟩:=List.getElem?_eq_some_iff.1 h
  have hne:l≠[]:=fun h0=>by rw [h0] at hi;simp at hi
  obtain ⟨A,y,rfl⟩:∃ A y,l=A++[y]:=⟨l.dropLast,l.getLast hne,(List.dropLast_concat_getLast hne).symm⟩
  have hl:(A++[y]).length=A.length+1:=by rw [cS];rfl
  unfold dropL
  rw [hl,Nat.add_sub_cancel,List.getElem?_append_right (dJ _),Nat.sub_self]
  simp only [List.getElem?_cons_zero]
  by_cases hc:i<A.length
  · rw [List.set_append_left _ _ hc,List.take_append_of_le_length (by rw [List.length_set];exact dJ _),List.take_of_length_le (by rw [List.length_set];exact dJ _)]
    rw [dM hc] at h
    obtain ⟨hi2,e2⟩:=List.getElem?_eq_some_iff.1 h
    have hA:A=A.take i++x::A.drop (i+1):=by rw [← e2,List.getElem_cons_drop,List.take_append_drop]
    rw [List.set_eq_take_append_cons_drop,if_pos hc]
    conv=>lhs;rw [hA]
    refine (List.perm_append_singleton _ _).trans ?_
    refine ((List.perm_middle (a:=x)).cons y).trans ((List.Perm.swap x y _).trans (List.Perm.cons x ?_))
    exact (List.perm_middle (a:=y)).symm
  · have e3:i=A.length:=by omega
    subst e3
    rw [List.getElem?_append_right (dJ _),Nat.sub_self] at h
    simp only [List.getElem?_cons_zero,Option.some.injEq] at h
    subst h
    rw [List.set_append_right _ _ (dJ _),List.take_append_of_le_length (dJ _),List.take_of_length_le (dJ _)]
    exact List.perm_append_singleton _ _
abbrev keyT (r:Rw):Value:=.int .u64 (r.e:Nat)
structure MvI (Y:Nat→Option Obj) (l:List Rw) (n:Nat) (m:List (Value×Value)):Prop where
  len:m.length=l.length
  nd:(l.map Rw.e).Nodup
  small:∀ r∈l,r.e≤n
  has:∀ r∈l,∃ (pad:Option Addr) (cap:Nat),(keyT r,Value.slice pad r.p.length cap)∈m∧PartsIn Y pad r.p
  keys:∀ p∈m,∃ r∈l,p.1=keyT r
  ks:(m.map (·.1)).Nodup
theorem MvI.nil (Y:Nat→Option Obj):MvI Y [] 0 []:=⟨rfl,List.nodup_nil,fun r h=>(by cases h),fun r h=>(by cases h),fun r h=>(by cases h),List.nodup_nil⟩
theorem MvI.mono {Y Z:Nat→Option Obj} {l:List Rw} {n n':Nat} {m:List (Value×Value)} (h:MvI Y l n m) (hYZ:∀ b o,Y b=some o→Z b=some o) (hn:n≤n'):MvI Z l n' m:=
  ⟨h.len,h.nd,fun r hr=>Nat.le_trans (h.small r hr) hn,fun r hr=>by
    obtain ⟨pad,cap,h1,h2⟩:=h.has r hr
    exact ⟨pad,cap,h1,parts_mono hYZ h2⟩,h.keys,h.ks⟩
theorem keyT_inj {r s:Rw} (h:keyT r=keyT s):r.e=s.e:=by
  have h:=(Value.int.inj h).2
  omega
theorem MvI.one {Y:Nat→Option Obj} {l:List Rw} {n:Nat} {m:List (Value×Value)} (h:MvI Y l n m) {r s:Rw} (hr:r∈l) (hs:s∈l) (e:r.e=s.e):r=s:=by
  obtain ⟨i,hi⟩:=List.mem_iff_getElem?.1 hr
  obtain ⟨j,hj⟩:=List.mem_iff_getElem?.1 hs
  have hil:=(List.getElem?_eq_some_iff.1 hi).1
  have hjl:=(List.getElem?_eq_some_iff.1 hj).1
  have hij:i=j:=by
    have h1:(l.map Rw.e)[i]? = some r.e:=by rw [dH,hi];rfl
    have h2:(l.map Rw.e)[j]? = some r.e:=by rw [dH,hj,e];rfl
    exact (List.getElem?_inj (by rw [cT];exact hil) h.nd).1 (h1.trans h2.symm)
  subst hij
  rw [hi] at hj
  exact Option.some.inj hj
theorem MvI.at {Y:Nat→Option Obj} {l:List Rw} {n:Nat} {m:List (Value×Value)} (h:MvI Y l n m) {r:Rw} (hr:r∈l):∃ (pad:Option Addr) (cap:Nat),At m (keyT r) (.slice pad r.p.length cap) (.slice none 0 0)∧PartsIn Y pad r.p:=by
  obtain ⟨pad,cap,h1,h2⟩:=h.has r hr
  exact ⟨pad,cap,.inl h1,h2⟩
theorem MvI.add {Y:Nat→Option Obj} {l:List Rw} {n:Nat} {m:List (Value×Value)} (h:MvI Y l n m) {r:Rw} (he:r.e=n+1) {pad:Option Addr} {cap:Nat} (hP:PartsIn Y pad r.p):
    Put m (keyT r) (.slice pad r.p.length cap) (m++[(keyT r,.slice pad r.p.length cap)])∧MvI Y (l++[r]) (n+1) (m++[(keyT r,.slice pad r.p.length cap)]):=by
  have hno:∀ p∈m,p.1≠keyT r:=fun p hp e=>by
    obtain ⟨s,hs,e2⟩:=h.keys p hp
    have:=h.small s hs
    have:=keyT_inj (e2.symm.trans e)
    omega
  refine ⟨.inr ⟨hno,rfl⟩,⟨by rw [cS,cS,h.len];rfl,?_,?_,?_,?_,?_⟩⟩
  · rw [dD]
    refine List.nodup_append.2 ⟨h.nd,by simp,fun x hx y hy e => ?_⟩
    obtain ⟨s,hs,rfl⟩:=List.mem_map.1 hx
    have:=h.small s hs
    simp at hy
    omega
  · intro s hs
    rcases List.mem_append.1 hs with hs|hs
    · exact Nat.le_succ_of_le (h.small s hs)
    · rw [List.mem_singleton.1 hs,he];exact dJ _
  · intro s hs
    rcases List.mem_append.1 hs with hs|hs
    · obtain ⟨p,c,h1,h2⟩:=h.has s hs
      exact ⟨p,c,List.mem_append_left _ h1,h2⟩
    · obtain rfl:=List.mem_singleton.1 hs
      exact ⟨pad,cap,List.mem_append_right _ (List.mem_singleton.2 O),hP⟩
  · intro p hp
    rcases List.mem_append.1 hp with hp|hp
    · obtain ⟨s,hs,e⟩:=h.keys p hp
      exact ⟨s,List.mem_append_left _ hs,e⟩
    · rw [List.mem_singleton.1 hp]
      exact ⟨r,List.mem_append_right _ (List.mem_singleton.2 O),O⟩
  · rw [dD]
    refine List.nodup_append.2 ⟨h.ks,by simp,fun x hx y hy e => ?_⟩
    obtain ⟨p,hp,rfl⟩:=List.mem_map.1 hx
    simp at hy
    exact hno p hp (by rw [e,hy])
theorem MvI.drop {Y:Nat→Option Obj} {l:List Rw} {n:Nat} {m:List (Value×Value)} (h:MvI Y l n m) {i:Nat} {r:Rw} (hr:l[i]? = some r):∃ m',Del m (keyT r) m'∧MvI Y (dropL l i) n m':=by
  have hp:=dropL_perm hr
  have hmem:=cZ hr
  obtain ⟨pad,cap,h1,_⟩:=h.has r hmem
  obtain ⟨k,hk⟩:=List.mem_iff_getElem?.1 h1
  have hkl:=(List.getElem?_eq_some_iff.1 hk).1
  have hnd:=(hp.map Rw.e).nodup_iff.1 h.nd
  rw [List.map_cons,List.nodup_cons] at hnd
  have hin:∀ s∈dropL l i,s∈l∧s.e≠r.e:=fun s hs=>⟨hp.mem_iff.2 (List.mem_cons_of_mem _ hs),fun e=>hnd.1 (e▸List.mem_map.2 ⟨s,hs,rfl⟩)⟩
  have hpm:m.Perm (((keyT r,Value.slice pad r.p.length cap))::m.eraseIdx k):=by
    have e:=(List.getElem?_eq_some_iff.1 hk).2
    have hA:m=m.take k++(keyT r,Value.slice pad r.p.length cap)::m.drop (k+1):=by rw [← e,List.getElem_cons_drop,List.take_append_drop]
    rw [List.eraseIdx_eq_take_drop_succ]
    conv=>lhs;rw [hA]
    exact List.perm_middle
  have hmk:=(hpm.map (·.1)).nodup_iff.1 h.ks
  rw [List.map_cons,List.nodup_cons] at hmk
  refine ⟨m.eraseIdx k,.inl ⟨k,_,hk,O⟩,⟨?_,hnd.2,fun s hs=>h.small s (hin s hs).1,fun s hs => ?_,fun p hp' => ?_,hmk.2⟩⟩
  · have h2:=hp.length_eq
    have h3:=hpm.length_eq
    have h4:=h.len
    simp only [dE] at h2 h3
    omega
  · obtain ⟨p,c,g1,g2⟩:=h.has s (hin s hs).1
    refine ⟨p,c,?_,g2⟩
    rcases List.mem_cons.1 (hpm.mem_iff.1 g1) with e|e
    · exact absurd (keyT_inj (Prod.mk.inj e).1) (hin s hs).2
    · exact e
  · obtain ⟨s,hs,e⟩:=h.keys p (hpm.mem_iff.2 (List.mem_cons_of_mem _ hp'))
    refine ⟨s,?_,e⟩
    rcases List.mem_cons.1 (hp.mem_iff.1 hs) with rfl|hs
    · exact absurd (List.mem_map.2 ⟨p,hp',e⟩) hmk.1
    · exact hs
theorem MvI.set {Y:Nat→Option Obj} {l:List Rw} {n:Nat} {m:List (Value×Value)} (h:MvI Y l n m) {i:Nat} {r r':Rw} (hr:l[i]? = some r) (he:r'.e=r.e) {pad:Option Addr} {cap:Nat} (hP:PartsIn Y pad r'.p):
    ∃ m',Put m (keyT r) (.slice pad r'.p.length cap) m'∧MvI Y (l.set i r') n m':=by
  have hil:=(List.getElem?_eq_some_iff.1 hr).1
  have hmem:=cZ hr
  obtain ⟨pad0,cap0,h1,_⟩:=h.has r hmem
  obtain ⟨k,hk⟩:=List.mem_iff_getElem?.1 h1
  have hkl:=(List.getElem?_eq_some_iff.1 hk).1
  have hsame:(l.set i r').map Rw.e=l.map Rw.e:=by
    rw [List.map_set,he]
    apply List.ext_getElem?
    intro j
    rw [List.getElem?_set]
    by_cases e:i=j
    · subst e;rw [if_pos rfl,if_pos (by rw [cT];exact hil),dH,hr];rfl
    · rw [if_neg e]
  have hsamek:(m.set k (keyT r,Value.slice pad r'.p.length cap)).map (·.1)=m.map (·.1):=by
    rw [List.map_set]
    apply List.ext_getElem?
    intro j
    rw [List.getElem?_set]
    by_cases e:k=j
    · subst e;rw [if_pos rfl,if_pos (by rw [cT];exact hkl),dH,hk];rfl
    · rw [if_neg e]
  have hold:∀ s∈l,s≠r→∀ v,(keyT s,v)∈m→(keyT s,v)∈m.set k (keyT r,Value.slice pad r'.p.length cap):=fun s hs hne v hv=>by
    obtain ⟨j,hj⟩:=List.mem_iff_getElem?.1 hv
    refine List.mem_iff_getElem?.2 ⟨j,?_⟩
    rw [List.getElem?_set,if_neg (fun e => ?_)]
    · exact hj
    · subst e
      rw [hk] at hj
      exact hne (h.one hs hmem (keyT_inj (Prod.mk.inj (Option.some.inj hj)).1.symm))
  refine ⟨m.set k (keyT r,.slice pad r'.p.length cap),.inl ⟨k,_,hk,rfl⟩,⟨by rw [List.length_set,List.length_set];exact h.len,by rw [hsame];exact h.nd,?_,?_,?_,by rw [hsamek];exact h.ks⟩⟩
  · intro s hs
    rcases List.mem_or_eq_of_mem_set hs with hs|rfl
    · exact h.small s hs
    · rw [he];exact h.small r hmem
  · intro s hs
    by_cases e:s=r'
    · subst e
      refine ⟨pad,cap,?_,hP⟩
      rw [show keyT s=keyT r by unfold keyT;rw [he]]
      exact List.mem_iff_getElem?.2 ⟨k,List.getElem?_set_self hkl⟩
    · have hsl:s∈l:=(List.mem_or_eq_of_mem_set hs).resolve_right e
      by_cases e2:s=r
      · exfalso
        obtain ⟨j,hj⟩:=List.mem_iff_getElem?.1 hs
        rw [List.getElem?_set] at hj
        by_cases e3:i=j
        · subst e3
          rw [if_pos rfl,if_pos hil] at hj
          exact e (Option.some.inj hj).symm
        · rw [if_neg e3,e2] at hj
          have hj1:(l.map Rw.e)[i]? = (l.map Rw.e)[j]? := by rw [dH,dH,hr,hj]
          exact e3 ((List.getElem?_inj (by rw [cT];exact hil) h.nd).1 hj1)
      · obtain ⟨p,c,g1,g2⟩:=h.has s hsl
        exact ⟨p,c,hold s hsl e2 _ g1,g2⟩
  · intro p hp
    rcases List.mem_or_eq_of_mem_set hp with hp|rfl
    · obtain ⟨s,hs,e⟩:=h.keys p hp
      by_cases e2:s=r
      · exact ⟨r',List.mem_iff_getElem?.2 ⟨i,List.getElem?_set_self hil⟩,by rw [e,e2];unfold keyT;rw [he]⟩
      · obtain ⟨j,hj⟩:=List.mem_iff_getElem?.1 hs
        refine ⟨s,List.mem_iff_getElem?.2 ⟨j,?_⟩,e⟩
        rw [List.getElem?_set,if_neg (fun e3 => ?_)]
        · exact hj
        · subst e3
          rw [hr] at hj
          exact e2 (Option.some.inj hj).symm
    · exact ⟨r',List.mem_iff_getElem?.2 ⟨i,List.getElem?_set_self hil⟩,by show keyT r=keyT r';unfold keyT;rw [he]⟩
end Go.Proofs.YtbpdbclndfmcgaaGreatDoor
end
section
namespace Go.Proofs.YtbpdbclndfmcgaaGreatDoor
open Go Go.Lg Go.Lg.Fld Go.Lg.Sg
set_option maxRecDepth 100000
def fl16:List Fl:=[⟨[120],6,1⟩]
def sc16:Sc:=⟨1,[⟨1,[97],fl16⟩,⟨2,[98],[]⟩]⟩
def p16:List Pt:=[⟨1,[(false,7)]⟩]
def t16:Tb:=⟨sc16,2,2,0,[]⟩
def t16a:Tb:=addT t16 9 p16
def t16b:Tb:=addT t16a 8 p16
def t16c:Tb:=dropT t16b 0
def t16d:Tb:={ t16c with kept:=t16c.kept+1 }
theorem good16:goodT sc16 2 2=true:=by decide +kernel
theorem good16n:goodT sc16 8 1=false:=by decide +kernel
theorem q16a:addE t16 9 p16=0:=by decide +kernel
theorem q16b:addE t16a 8 p16=0:=by decide +kernel
theorem q16c:addE t16b 6 p16=5:=by decide +kernel
theorem q16d:tgetE t16b 0 1=0:=by decide +kernel
theorem q16e:bytesT t16b 0 1=[7]:=by decide +kernel
theorem q16f:movedT t16b 0=8:=by decide +kernel
theorem q16g:tgetE t16c 0 2=6:=by decide +kernel
theorem q16h:roomT t16c=1:=by decide +kernel
theorem q16i:roomT t16d=0:=by decide +kernel
theorem ok16:TbOk t16:=TbOk.new (by decide) good16
theorem ok16a:TbOk t16a:=(ok16.add (by decide) q16a).1
theorem ok16b:TbOk t16b:=(ok16a.add (by decide) q16b).1
theorem ok16c:TbOk t16c:=ok16b.drop (by decide +kernel)
theorem ok16d:TbOk t16d:=ok16c.kept (by rw [q16h];decide)
theorem inb16:InB sc16.cs:=by
  intro c hc
  simp only [sc16,List.mem_cons,List.not_mem_nil,or_false] at hc
  rcases hc with rfl|rfl
  · refine ⟨by decide,fun f hf => ?_⟩
    simp only [fl16,List.mem_cons,List.not_mem_nil,or_false] at hf
    subst hf;decide
  · exact ⟨by decide,fun f hf=>by cases hf⟩
theorem few16:sc16.cs.length≤30∧∀ c∈sc16.cs,c.fs.length≤12:=⟨by decide,fun c hc=>by
  simp only [sc16,List.mem_cons,List.not_mem_nil,or_false] at hc
  rcases hc with rfl|rfl<;>decide⟩
theorem lent_sc16 {S:Nat→Option (Option Box)} {Y:Nat→Option Obj} {k n:Nat} {cs:List Cp} {e:TypeId} {cc:List CV} {u:Value} (hk:S k=some (some ⟨e,cc,.res (scR cs)⟩)) (hu:LentC S Y (.slc k 0 n 3) u):∃ (blk cap:Nat),u = .slice (some ⟨blk,0,none⟩) n cap∧CompsIn Y (some ⟨blk,0,none⟩) cs:=by
  obtain ⟨b,blk,cap2,m,hk',rfl,hc,hfit,hB⟩:=hu
  rw [hk] at hk'
  simp only [Option.some.injEq] at hk'
  subst hk'
  obtain ⟨H,hR,hHY⟩:=hB
  exact ⟨blk,cap2,O,scR_in hR hHY⟩
variable (X:Nat→Option Obj)
abbrev c16v (c:CV):List CV:=[.val (.int .i64 1),.val (.string ⟨#[97]⟩),c,.val (.int .i64 2),.val (.string ⟨#[98]⟩),.val (.slice none 0 0)]
theorem one16_spec:MSpec Tryz.prog X 34 [] [] (.sv (.agg [.val (.int .i64 1),.slc 1000001 0 2 3])) [scB 1000001 sc16.cs]:=by
  refine cD Tryz.func34 rfl (by kernel_rfl) rfl rfl (by exact (by repeat' (first|refine bR ?_ ?_|rfl|exact bT|exact bS|exact bU rfl))) rfl rfl ?_
  intro C
  refine LWP.ends ?_
  (refine aA<|rgN<|aO O dN ?_;refine aB<|aA<|rgN<|aS O O (by exact O) (by exact nl3 O O O O) dN ?_;refine aY (zs:=[Value.string ⟨#[]⟩,.int .i64 0,.int .i64 0]) (sz:=3) (e:=125) (cs':=(flV fl16).map .val) (by kernel_rfl) O O O O O O dN<|aS O O (by exact O) (by exact nl3 O O O O) dN ?_;refine aS O O (by exact O) (by exact nl3 O O O O) dN ?_;refine aY (zs:=(List.replicate 2 [Value.int .i64 0,.string ⟨#[]⟩,.slice none 0 0]).flatten) (sz:=3) (e:=86) (cs':=c16v (.slc 2 0 1 3)) (by kernel_rfl) O O O O O O dN<|aS O O (by exact O) (by exact nl2 O O O) dN ?_;refine aL O O O O O O dN ?_;refine aB<|aH ?_)
  refine cA (σ':=⟨[(0,Lp 0)],[(5,some ⟨86,[.val (.int .i64 1),.val (.string ⟨#[97]⟩)] ++ .slc 2 0 1 3::[.val (.int .i64 2),.val (.string ⟨#[98]⟩),.val (.slice none 0 0)],false⟩),(2,some ⟨125,(flV fl16).map .val,false⟩),(0,some ⟨24,[.val (.int .i64 1),.slc 5 0 2 3],false⟩)],joinM X (fun _=>none)⟩) (by rw [joinM_nil];exact Le.of (by exact ⟨rfl,trivial⟩) (by exact ⟨rfl,rfl,rfl,trivial⟩) (by exact rfl) (by exact rfl) (by repeat' (first|refine bR ?_ ?_|rfl|exact bT|exact bS|exact bU rfl))) ?_
  refine Leads.closeCell (OwnedM.nil C X) O O O O O O O fun b o v g1 _ hO3 hv => ?_
  have G:Twigs (withBlock (fun _=>none) b o) 125 3 [] [v,.slice none 0 0] (sc16.cs.map fun c=>flV c.fs):=((Twigs.nil _ _ _ _).push g1 hv (by decide)).pushZ none 0
  refine cA (σ':=⟨[(0,Lp 0)],[(5,some ⟨86,(rowsZ sc16.cs [v,.slice none 0 0]++[]).map .val,false⟩),(0,some ⟨24,[.val (.int .i64 1),.slc 5 0 2 3],false⟩)],joinM X (withBlock (fun _=>none) b o)⟩) (Le.of (by exact ⟨O,trivial⟩) (by exact ⟨O,O,trivial⟩) (by exact O) (by exact O) (by repeat' (first|refine bR ?_ ?_|rfl|exact bT|exact bS|exact bU O))) ?_
  refine sc_shut hO3 G inb16 (bZ ?_)
  exact ⟨[(1000001,5)],⟨[_],⟨⟨_,_,rfl,rfl,rfl,.inl ⟨AggT.h,rfl⟩⟩,trivial⟩,rfl⟩,(by repeat' (first|exact trivial|refine cM ⟨_,rfl,?_⟩ ?_|refine cM ⟨_,rfl⟩ ?_|rfl|exact bV _ _ _ _|exact bW _ _ _ _|exact bX rfl)),rfl,rfl⟩
theorem names16s:NamesIn sc16.cs:=fun c hc=>by
  have:∀ c∈sc16.cs,c.nm.length≤9223372036854775807∧∀ f∈c.fs,f.nm.length≤9223372036854775807:=by decide
  exact this c hc
theorem new16_lent:MSpec Tryz.prog X 8 [.sv (.agg [.val (.int .i64 1),.slc 1000000 0 2 3]),Ln .u32 2,Ln .i64 2] [scB 1000000 sc16.cs] (Lp 1000001) ([scB 1000000 sc16.cs]++[tB 1000001 t16]):=by
  refine MSpec.lend (by kernel_rfl) O (by exact (by repeat' (first|refine bR ?_ ?_|rfl|exact bT|exact bS|exact bU O))) (by exact (by repeat' (first|refine bR ?_ ?_|rfl|exact bT|exact bS|exact bU O))) O O fun Y us hY hL => ?_
  obtain ⟨u1,us1,rfl,⟨av,rfl,a1,av1,rfl,g1,a2,av2,rfl,g2,rfl⟩,u2,us2,rfl,h2,u3,us3,rfl,h3,rfl⟩:=hL
  have g1:a1 = .int .i64 1:=g1
  have h2:u2 = .int .u32 2:=h2
  have h3:u3 = .int .i64 2:=h3
  subst g1 h2 h3
  obtain ⟨blk,cap,rfl,hin⟩:=lent_sc16 (S:=stOf [scB 1000000 sc16.cs]) (k:=1000000) rfl g2
  exact tNew Y sc16 2 2 (some ⟨blk,0,none⟩) cap hin names16s few16 (by decide) good16
theorem new16_no {S:Nat→Option (Option Box)} {k:Nat} {e:TypeId} {cc:List CV} (hk:S k=some (some ⟨e,cc,.res (scR sc16.cs)⟩)):
    ∀ (Y:Nat→Option Obj) (us:List Value),(∀ b o,X b=some o→Y b=some o)→LentLs S Y [.sv (.agg [.val (.int .i64 1),.slc k 0 2 3]),Ln .u32 8,Ln .i64 1] us→PSpec Tryz.prog Y 8 (us.map toLV) LnilT:=by
  intro Y us hY hL
  obtain ⟨u1,us1,rfl,⟨av,rfl,a1,av1,rfl,g1,a2,av2,rfl,g2,rfl⟩,u2,us2,rfl,h2,u3,us3,rfl,h3,rfl⟩:=hL
  have g1:a1 = .int .i64 1:=g1
  have h2:u2 = .int .u32 8:=h2
  have h3:u3 = .int .i64 1:=h3
  subst g1 h2 h3
  obtain ⟨blk,cap,rfl,hin⟩:=lent_sc16 hk g2
  exact tNew_no Y sc16 8 1 (some ⟨blk,0,none⟩) cap hin names16s few16 (by decide) good16n
end Go.Proofs.YtbpdbclndfmcgaaGreatDoor
end
section
namespace Go.Proofs.YtbpdbclndfmcgaaGreatDoor
open Go Go.Lg Go.Lg.Fld Go.Lg.Sg
set_option maxRecDepth 100000
variable (X:Nat→Option Obj)
set_option maxHeartbeats 25600000 in
theorem awake16_spec:PSpec Tryz.prog X 6 [] (Lb true):=by
  have h1:=one16_spec X
  have h2:=new16_lent X
  refine cC Tryz.func6 rfl (by kernel_rfl) rfl rfl ?_
  intro C
  (refine aA<|rgN<|kas O<|aB<|aA<|rgN<|bD [(1000001,701)] (.sv (.agg [.val (.int .i64 1),.slc 701 0 2 3])) [scB 701 sc16.cs] (h1) O O (by exact trivial) O O O O O (by exact (.box O O .nil)) dN<|bD [(1000000,701),(1000001,500)] (Lp 500) [scB 701 sc16.cs,tB 500 t16] (h2) O O (by exact (cM ⟨_,O,O⟩ trivial)) (by exact (bR O O)) O O O O (by exact (.box O O (.box O O .nil))) dN<|kas O<|aB<|aA ?_)
  have o7:=Of_spec X 7 (by decide)
  (refine rgN<|kca O O o7<|aY (zs:=[.bool false,.int .u64 0,.int .u64 0]) (sz:=3) (e:=82) (cs':=(nmsV [(false,7)]).map .val) (by kernel_rfl) O O O O O O dN<|aS O O (by exact O) (by exact nl2 O O O) dN ?_;refine aY (zs:=[.int .i64 0,.slice none 0 0]) (sz:=2) (e:=50) (cs':=[.val (.int .i64 1),.slc 18 0 1 3]) (by kernel_rfl) O O O O O O dN<|kas O<|aB<|aA ?_)
  refine LWP.le (σ':=⟨[(2,.sv (.one (.slc 20 0 1 2))),(1,Lp 500)],[(20,some ⟨50,[.val (.int .i64 1)] ++ .slc 18 0 1 3::[],false⟩),(18,some ⟨82,(nmsV [(false,7)]).map .val,false⟩),tB 500 t16],X⟩) (Le.of (by exact ⟨O,O,trivial⟩) (by exact ⟨O,O,O,trivial⟩) (by exact O) (by exact O) (by repeat' (first|refine bR ?_ ?_|rfl|exact bT|exact bS|exact bU O))) ?_
  refine LWP.freezeCell O O O O O O fun k1 cp1 arr1 fr1 hn1 _ hc1 _ hv1 => ?_
  have hN:NumsIn (withBlock X k1 (.cells arr1 82 fr1)) (some ⟨k1,0,none⟩) [(false,7)]:=nms_in (cJ _ _ _) (fun u hu=>by rw [List.mem_singleton.1 hu];exact ⟨by decide,by decide⟩) hv1
  clear hv1 hn1 h1 h2 o7
  generalize withBlock X k1 (.cells arr1 82 fr1)=Y at *
  generalize (some ⟨k1,0,none⟩:Option Addr)=vad at *
  refine LWP.le (σ':=⟨[(2,.sv (.one (.slc 20 0 1 2))),(1,Lp 500)],[(20,some ⟨50,[Value.int .i64 1,.slice vad 1 cp1].map .val,false⟩),tB 500 t16],Y⟩) (Le.of (by exact ⟨O,O,trivial⟩) (by exact ⟨O,O,trivial⟩) (by exact O) (by exact O) (by repeat' (first|refine bR ?_ ?_|rfl|exact bT|exact bS|exact bU O))) ?_
  refine LWP.freeze O (by exact (by repeat' (first|refine bR ?_ ?_|rfl|exact bT|exact bS|exact bU O))) O fun k2 cp2 arr2 fr2 hn2 _ _ _ hv2 => ?_
  have hP:PartsC (withBlock Y k2 (.cells arr2 50 fr2)) (some ⟨k2,0,none⟩) p16:=by
    obtain ⟨sp,hv⟩:=hv2
    refine ⟨fun i p hp => ?_,fun p hp=>by rw [List.mem_singleton.1 hp];exact ⟨by decide,by decide⟩⟩
    obtain ⟨rfl,rfl⟩:i=0∧p=⟨1,[(false,7)]⟩:=by
      cases i with
      | zero=>exact ⟨rfl,(Option.some.inj hp).symm⟩
      | succ i=>simp [p16] at hp
    refine ⟨k2,0,arr2,_,fr2,vad,cp1,O,cJ _ _ _,?_,?_,⟨hN.rows.mono (cF hn2),hN.in2⟩,hc1⟩
    · rw [← Array.length_toList,hv];simp
    · rw [hv];rfl
  clear hv2 hn2 hN hc1
  generalize withBlock Y k2 (.cells arr2 50 fr2)=Z at *
  generalize (some ⟨k2,0,none⟩:Option Addr)=pad at *
  have hl12:p16.length≤12∧∀ x∈p16,x.val.length<4611686018427387904:=⟨by decide,fun x hx=>by rw [List.mem_singleton.1 hx];decide⟩
  have a1:=tAdd Z t16 ok16 9 (by decide) p16 pad cp2 hP hl12 q16a
  have a2:=tAdd Z t16a ok16a 8 (by decide) p16 pad cp2 hP hl12 q16b
  have a3:=tAdd_no Z t16b ok16b 6 (by decide) p16 pad cp2 hP hl12 (by rw [q16c];decide)
  have a4:=tBytes Z t16b ok16b 0 1 q16d
  have a5:=tDrop Z t16b ok16b 0 (by decide +kernel)
  have a6:=tGet_no Z t16c ok16c 0 2 (by rw [q16g];decide)
  have a7:=tLen Z t16c ok16c
  have a8:=tRoom Z t16c ok16c
  have a9:=tKeep Z t16c ok16c (by rw [q16h];decide)
  have a10:=tKept Z t16d ok16d
  have a11:=tRoom Z t16d ok16d
  rw [q16c] at a3
  rw [q16e] at a4
  rw [q16f] at a5
  rw [q16g] at a6
  rw [q16h] at a8
  rw [q16i] at a11
  rw [show t16.l.length=0 from rfl,show addT t16 9 p16=t16a from rfl] at a1
  rw [show t16a.l.length=1 by decide +kernel,show addT t16a 8 p16=t16b from rfl] at a2
  rw [show dropT t16b 0=t16c from rfl] at a5
  rw [show t16c.l.length=1 by decide +kernel] at a7
  rw [show { t16c with kept:=t16c.kept+1 }=t16d from rfl] at a9
  rw [show t16d.kept=1 by decide +kernel] at a10
  have b1:=one16_spec Z
  have b2:=fun (S:Nat→Option (Option Box)) h=>new16_no Z (S:=S) (k:=702) (e:=0) (cc:=[]) h
  have hpl:p16.length=1:=rfl
  generalize p16=p at *
  generalize t16=t at *
  generalize t16a=ta at *
  generalize t16b=tb at *
  generalize t16c=tc at *
  generalize t16d=td at *
  rw [hpl] at a1 a2 a3
  (refine rgN<|kmv O<|kmv O<|aT [(1000000,500)] [tB 500 ta] (a1) O O (by exact (cM ⟨_,O,O⟩ trivial)) (by exact (bR O O)) O O O O (by exact (.box O O .nil)) dN<|kmv O<|kex O O<|kex O O<|kas O<|kas O<|aB<|aA<|rgN<|kmv O<|kmv O ?_;refine aT [(1000000,500)] [tB 500 tb] (a2) O O (by exact (cM ⟨_,O,O⟩ trivial)) (by exact (bR O O)) O O O O (by exact (.box O O .nil)) dN<|kmv O<|kex O O<|kex O O<|kas O<|kas O<|aB<|aA<|rgN<|kmv O<|kmv O<|aT [(1000000,500)] [tB 500 tb] (a3) O O (by exact (cM ⟨_,O,O⟩ trivial)) (by exact (bR O O)) O O O O (by exact (.box O O .nil)) dN<|kmv O<|kex O O ?_;refine kex O O<|kas O<|kas O<|aB<|aA<|rgN<|kmv O<|aT [(1000000,500)] [tB 500 tb] (a4) O O (by exact (cM ⟨_,O,O⟩ trivial)) (by exact (bR O O)) O O O O (by exact (.box O O .nil)) dN<|kmv O<|kex O O<|kex O O<|kas O<|kas O<|aB ?_;refine aA<|rgN<|kmv O<|aT [(1000000,500)] [tB 500 tc] (a5) O O (by exact (cM ⟨_,O,O⟩ trivial)) (by exact (bR O O)) O O O O (by exact (.box O O .nil)) dN<|kmv O<|kex O O<|kex O O<|kas O<|kas O<|aB<|aA<|rgN<|kmv O<|aT [(1000000,500)] [tB 500 tc] (a6) O O (by exact (cM ⟨_,O,O⟩ trivial)) (by exact (bR O O)) O O O O (by exact (.box O O .nil)) dN ?_;refine kmv O<|kex O O<|kex O O<|kas O<|kas O<|aB<|aA ?_)
  ((refine rgN<|kmv O<|keq O O (r:=true) O<|kmv O<|gmv O O O<|bB O O (r:=true) O (dO O O) ?_;refine kpt O O<|kmv O<|gmv O O O<|bB O O (r:=true) O (dO O O) ?_;refine kpt O O<|kmv O<|gmv O O O<|bB O O (r:=true) O (dO O O) ?_;refine kpt O O<|kmv O<|gmv O O O<|bB O O (r:=true) O (dO O O) ?_;refine kpt O O<|kmv O<|gmv O O O<|bB O O (r:=true) O (dO O O) ?_;refine kpt O O<|kmv O<|gmv O O O<|K.strEq O O (strs_eq (r:=true) O) (dO O O) ?_;refine kpt O O<|kmv O<|gmv O O O<|bB O O (r:=true) O (dO O O) ?_;refine kpt O O<|kmv O<|gmv O O O<|bB O O (r:=true) O (dO O O) ?_;refine kpt O O<|kmv O<|gmv O O O<|bB O O (r:=true) O (dO O O) ?_;refine kpt O O<|kmv O<|gmv O O O<|aT [(1000000,500)] [tB 500 tc] (a7) O O (by exact (cM ⟨_,O,O⟩ trivial)) (by exact (bR O O)) O O O O (by exact (.box O O .nil)) (dO O O) ?_;refine bB O O (r:=true) O (dO O O) ?_;refine kpt O O<|kmv O<|gmv O O O<|aT [(1000000,500)] [tB 500 tc] (a8) O O (by exact (cM ⟨_,O,O⟩ trivial)) (by exact (bR O O)) O O O O (by exact (.box O O .nil)) (dO O O) ?_);(refine bB O O (r:=true) O (dO O O) ?_;refine kpt O O<|kmv O<|gmv O O O<|aT [(1000000,500)] [tB 500 td] (a9) O O (by exact (cM ⟨_,O,O⟩ trivial)) (by exact (bR O O)) O O O O (by exact (.box O O .nil)) (dO O O) ?_;refine bB O O (r:=true) O (dO O O) ?_;refine kpt O O<|kmv O<|gmv O O O<|aT [(1000000,500)] [tB 500 td] (a10) O O (by exact (cM ⟨_,O,O⟩ trivial)) (by exact (bR O O)) O O O O (by exact (.box O O .nil)) (dO O O) ?_;refine bB O O (r:=true) O (dO O O) ?_;refine kpt O O<|kmv O<|gmv O O O<|aT [(1000000,500)] [tB 500 td] (a11) O O (by exact (cM ⟨_,O,O⟩ trivial)) (by exact (bR O O)) O O O O (by exact (.box O O .nil)) (dO O O) ?_;refine bB O O (r:=true) O (dO O O) ?_;refine kpt O O<|kmv O<|bD [(1000001,702)] (.sv (.agg [.val (.int .i64 1),.slc 702 0 2 3])) [scB 702 sc16.cs] (b1) O O (by exact trivial) O O O O O (by exact (.box O O .nil)) (dO O O) ?_;refine K.callL [702] O O (by kernel_rfl) (b2 _ O) (dO O O) ?_;refine K.nilNil O (by kernel_rfl) (.inl ⟨O,O⟩) (dO O O) ?_;refine kpt O O<|kas O<|aB<|aH ?_))
  exact ⟨[_],⟨O,trivial⟩,O⟩
end Go.Proofs.YtbpdbclndfmcgaaGreatDoor
end
section
namespace Go.Proofs.YtbpdbclndfmcgaaGreatDoor
open Go Go.Lg Go.Lg.Fld Go.Lg.Sg
set_option maxRecDepth 100000
theorem key16 {h:Nat} (hh:h<18446744073709551616):Go.keyOf Tryz.prog 37 (.int .u64 (h:Nat))=some (.int .u64 (h:Nat)):=by
  rw [keyOf_int (q:=.u64) (by kernel_rfl)]
  unfold mapKey
  rw [show Tryz.prog.underlying 37=some (.int .u64) by kernel_rfl]
  have hw:(Lit.int .u64 (h:Nat)).wf=true:=by
    show (decide (IntKind.u64.min≤((h:Nat):Int))&&decide (((h:Nat):Int)≤IntKind.u64.max))=true
    rw [show IntKind.u64.min=0 from rfl,show IntKind.u64.max=18446744073709551615 from rfl,cL (show (0:Int)≤(h:Nat) by omega),cL (show ((h:Nat):Int)≤18446744073709551615 by omega)];rfl
  simp only [hw]
  rfl
abbrev mB (k:Nat) (m:List (Value×Value)):Nat×Option Box:=(k,some ⟨0,[],.res (mapR Tryz.prog 37 m)⟩)
theorem nums_nil16 {X:Nat→Option Obj} {ad:Option Addr}:NumsIn X ad []:=⟨fun i r hr=>by simp at hr,fun u hu=>by cases hu⟩
theorem fit_few {fs:List Fl} {ns:List (Bool×Int)} (h:fitErr fs ns=0):ns.length≤64:=by
  obtain ⟨h1,h2,_⟩:=fitErr_facts h
  unfold layErr at h1
  split at h1
  · cases h1
  split at h1
  · rename_i h8 hall
    have:=(elems_len fs 0 hall).2
    omega
  · cases h1
theorem row_few {t:Tb} (hk:TbOk t) {r:Rw} (hr:r∈t.l) {p:Pt} (hp:p∈r.p):p.val.length≤64:=fit_few ((hk.rows r hr).fit p hp)
theorem row_big {t:Tb} (hk:TbOk t) {r:Rw} (hr:r∈t.l) {p:Pt} (hp:p∈r.p):p.val.length<4611686018427387904:=by have:=row_few hk hr hp;omega
theorem tset_ok {t:Tb} {row:Int} {p:Pt} (h:tsetE t row p=0):∃ k,placeT t.set p.comp=some k∧fitErr (fsAt t.sc.cs p.comp) p.val=0:=by
  unfold tsetE at h
  by_cases c:tgetE t row p.comp=0
  · rw [if_pos c] at h
    unfold tgetE at c
    split at c
    · split at c
      · rename_i h2
        obtain ⟨k,hk⟩:=Option.isSome_iff_exists.1 h2
        exact ⟨k,hk,h⟩
      · cases c
    · cases c
  · rw [if_neg c] at h
    exact absurd h c
theorem set_row {t:Tb} (hk:TbOk t) {i k:Nat} {r:Rw} {p:Pt} (hr:t.l[i]? = some r) (hpl:placeT t.set p.comp=some k):
    ∃ r':Rw,r'.e=r.e∧(setT t i k p).l[i]? = some r'∧(setT t i k p).l=t.l.set i r'∧getV (setT t i k p) (i:Nat) p.comp=p.val∧tgetE (setT t i k p) (i:Nat) p.comp=0:=by
  have hil:=(List.getElem?_eq_some_iff.1 hr).1
  have hset:setT t i k p={ t with l:=t.l.set i (setR r k p) }:=by unfold setT;rw [hr]
  rw [hset]
  have hget:(t.l.set i (setR r k p))[i]? = some (setR r k p):=List.getElem?_set_self hil
  have hkl:k<r.p.length:=by
    rw [(hk.rows r (cZ hr)).len]
    exact (List.getElem?_eq_some_iff.1 (place_at hpl)).1
  refine ⟨setR r k p,O,hget,O,?_,?_⟩
  · unfold getV
    rw [hpl]
    show valT _ (Int.toNat ((i:Nat):Int)) k=_
    rw [dC]
    unfold valT
    rw [hget]
    show (match (r.p.set k p)[k]? with|some p=>p.val|none=>[])=p.val
    rw [List.getElem?_set_self hkl]
  · unfold tgetE
    have hb:rowB { t with l:=t.l.set i (setR r k p) } (i:Nat)=true:=by
      unfold rowB
      rw [List.length_set,cL (by omega),cL (by omega)];rfl
    rw [if_pos hb,if_pos (by rw [hpl];rfl)]
variable (X:Nat→Option Obj)
set_option maxHeartbeats 51200000 in
theorem tableMoves_law (s:Sc) (set:Nat) (acs:List Ac) (ad aad:Option Addr) (cap acap:Nat) (hin:CompsIn X ad s.cs) (hnm:NamesIn s.cs) (hset:set<4294967296) (hA:AcsIn X aad acs) (hb:acs.length<9223372036854775808):
    PSpec Tryz.prog X 4 [Sx s.ver ad s.cs.length cap,Ln .u32 (set:Nat),.sv (.one (.val (.slice aad acs.length acap)))] (Lb true):=by
  have hW:=awake16_spec X
  have hG:=great16_spec X s.ver ad cap s.cs hin (greatB16 s.cs) rfl
  refine cC Tryz.func4 rfl (by kernel_rfl) rfl rfl ?_
  intro C
  cases hg:greatB16 s.cs with
  | true =>
    rw [hg] at hG
    (refine aA<|rgN<|aK O O O dN<|kas O<|aB<|aA<|aA<|rgN<|kca O O (hW)<|aU O O dN<|aB<|aE O ?_;refine aG ?_;refine aA<|aA<|rgN<|aJ O O O dN ?_;refine kca O O hG<|kmv O<|aC O O O<|aC O O O<|aC O O O<|kpt O O<|aB<|aD O ?_;refine aA<|rgN<|kas O<|aB<|aH ?_)
    exact ⟨[_],⟨O,trivial⟩,O⟩
  | false =>
  rw [hg] at hG
  obtain ⟨s1,s2⟩:=greatB16_no hg
  by_cases h80:80<acs.length
  · (refine aA<|rgN<|aK O O O dN<|kas O<|aB<|aA<|aA<|rgN<|kca O O (hW)<|aU O O dN<|aB<|aE O ?_;refine aG ?_;refine aA<|aA<|rgN<|aJ O O O dN ?_;refine kca O O hG<|kmv O<|gmv O O O<|aP O bY O (dO O O) ?_;refine aR O O (cL (by omega)) (dO O O) ?_;refine kpf O O<|aB<|aD O ?_;refine aA<|rgN<|kas O<|aB<|aH ?_)
    exact ⟨[_],⟨O,trivial⟩,O⟩
  cases hgt:goodT s set 40 with
  | false =>
    have hN:=tNew_no X s set 40 ad cap hin hnm ⟨s1,s2⟩ hset hgt
    (refine aA<|rgN<|aK O O O dN<|kas O<|aB<|aA<|aA<|rgN<|kca O O (hW)<|aU O O dN<|aB<|aE O ?_;refine aG ?_;refine aA<|aA<|rgN<|aJ O O O dN ?_;refine kca O O hG<|kmv O<|gmv O O O<|aP O bY O (dO O O) ?_;refine aR O O (cK (by omega)) (dO O O) ?_;refine kpf O O<|aB<|aE O ?_;refine aG ?_;refine aA<|rgN<|aJ O O O dN ?_;refine kmv O<|kca O O hN<|kas O<|aB<|aA<|aA<|rgN<|kmv O<|K.nilNil O (by kernel_rfl) (.inl ⟨O,O⟩) dN<|aB<|aD O ?_;refine aA<|rgN<|kas O<|aB<|aH ?_)
    exact ⟨[_],⟨O,trivial⟩,O⟩
  | true =>
  have hN:MSpec Tryz.prog X 8 [Sx s.ver ad s.cs.length cap,Ln .u32 (set:Nat),Ln .i64 40] [] (Lp 1000001) [tB 1000001 ⟨s,set,40,0,[]⟩]:=tNew X s set 40 ad cap hin hnm ⟨s1,s2⟩ hset hgt
  (refine aA<|rgN<|aK O O O dN<|kas O<|aB<|aA<|aA<|rgN<|kca O O (hW)<|aU O O dN<|aB<|aE O ?_;refine aG ?_;refine aA<|aA<|rgN<|aJ O O O dN ?_;refine kca O O hG<|kmv O<|gmv O O O<|aP O bY O (dO O O) ?_;refine aR O O (cK (by omega)) (dO O O) ?_;refine kpf O O<|aB<|aE O ?_;refine aG ?_;refine aA<|rgN<|aJ O O O dN ?_;refine kmv O<|bD [(1000001,500)] (Lp 500) [tB 500 ⟨s,set,40,0,[]⟩] (hN) O O (by exact trivial) O O O O O (by exact (.box O O .nil)) dN<|kas O<|aB<|aA<|aA<|rgN<|kmv O<|K.ptrNil O (by kernel_rfl) (.inl ⟨O,O⟩) dN<|aB<|aE O ?_;refine aG ?_;refine aA<|rgN<|K.makeMap 37 O dN ?_;refine kas O<|aB<|aA<|aA<|rgN<|kas O<|aB<|aF ?_)
  have hOk0:TbOk ⟨s,set,40,0,[]⟩:=TbOk.new hset hgt
  have hI0:MvI X (⟨s,set,40,0,[]⟩:Tb).l 0 []:=MvI.nil X
  have hmo0:(⟨s,set,40,0,[]⟩:Tb).most=40:=rfl
  clear hN hW hG hgt
  generalize (⟨s,set,40,0,[]⟩:Tb)=t0 at *
  refine LWP.le (σ':=⟨[(2,.sv (.one (.val (.slice aad acs.length acap)))),(7,Lp 500),(8,.sv (.one (.mp 502))),(9,Ln .i64 (0:Nat))],[tB 500 (t0),mB 502 ([])],X⟩) (Le.ofR [(502,44)] (by exact ⟨O,O,O,O,trivial⟩) (by repeat' (first|exact trivial|refine cM ⟨_,O,?_⟩ ?_|refine cM ⟨_,O⟩ ?_|rfl|exact bV _ _ _ _|exact bW _ _ _ _|exact bX O)) (by exact O) (by exact O) (by repeat' (first|refine bR ?_ ?_|rfl|exact bT|exact bS|exact bU O)) (by exact O) (by exact O)) ?_
  refine cH (fun z σ=>∃ (i:Nat) (t:Tb) (m:List (Value×Value)) (Y:Nat→Option Obj),i≤acs.length∧z=acs.length-i∧TbOk t∧MvI Y t.l i m∧(∀ b o,X b=some o→Y b=some o)∧σ=⟨[(2,.sv (.one (.val (.slice aad acs.length acap)))),(7,Lp 500),(8,.sv (.one (.mp 502))),(9,Ln .i64 (i:Nat))],[tB 500 (t),mB 502 (m)],Y⟩) acs.length
    (bZ ⟨0,t0,[],X,by omega,by omega,hOk0,hI0,fun _ _ h=>h,rfl⟩) ?_
  clear hOk0 hI0 hmo0
  clear t0
  rintro z σ ⟨i,t,m,Y,hi,rfl,hkt,hI,hXY,rfl⟩
  by_cases hlt:i<acs.length
  case neg =>
    (refine aA<|aA<|rgN<|kmv O<|kmv O<|aP O bY O dN ?_;refine klt O O (cK (by omega))<|aB<|aE O ?_;refine aI<|aA<|rgN<|kas O<|aB<|aH ?_)
    exact ⟨[_],⟨O,trivial⟩,O⟩
  obtain ⟨a,ha⟩:∃ a,acs[i]? = some a:=⟨_,cU hlt⟩
  obtain ⟨ab,ao,arr,el,fr,pad,pcap,rfl,hX,hsz,hc4,hP⟩:=hA.at_ i a ha
  obtain ⟨ak,ai,ae,apl,apv⟩:=hA.small a (cZ ha)
  have hXa:=hXY _ _ hX
  have hcells:((arr.toList.drop (ao+i*4)).take 4).map CV.val=[.val (.int .i64 a.kind),.val (.int .i64 a.i),.val (.int .u64 (a.e:Nat)),.val (.slice pad a.p.length pcap)]:=by rw [hc4];rfl
  have hao:ao+Int.toNat (i:Int)*4=ao+i*4:=by simp
  have hadd:IntKind.i64.wrap (((i:Nat):Int)+1)=((i+1:Nat):Int):=by rw [cE (by omega)];omega
  have hcw:IntKind.u64.wrap ((i+1:Nat):Int)=((i+1:Nat):Int):=wrap_u64 (by omega)
  by_cases h12:12<a.p.length
  · (refine aA<|aA<|rgN<|kmv O<|kmv O<|aP O bY O dN ?_;refine klt O O (cL (by omega))<|aB<|aD O ?_;refine aG ?_;refine aA<|aF<|aA<|rgN<|kmv O<|kmv O<|aQ O O bY (by omega) hao dN<|aX O hXa (by kernel_rfl) hsz hcells dN<|aO O dN ?_;refine aL O O O O O O dN ?_;refine aB<|aA<|aA<|rgN<|kfa O O ?_;refine kl1 O O O<|aP O bY O dN ?_;refine aR O O (cL (by omega)) dN<|aB<|aD O ?_;refine aA<|rgN<|kas O<|aB<|aH ?_)
    exact ⟨[_],⟨O,trivial⟩,O⟩
  (refine aA<|aA<|rgN<|kmv O<|kmv O<|aP O bY O dN ?_;refine klt O O (cL (by omega))<|aB<|aD O ?_;refine aG ?_;refine aA<|aF<|aA<|rgN<|kmv O<|kmv O<|aQ O O bY (by omega) hao dN<|aX O hXa (by kernel_rfl) hsz hcells dN<|aO O dN ?_;refine aL O O O O O O dN ?_;refine aB<|aA<|aA<|rgN<|kfa O O ?_;refine kl1 O O O<|aP O bY O dN ?_;refine aR O O (cK (by omega)) dN<|aB<|aE O ?_;refine aG ?_;refine aA ?_)
  refine LWP.meetL (fun σ=>∃ (Y1:Nat→Option Obj) (ead:Option Addr) (ecap:Nat),(∀ b o,Y b=some o→Y1 b=some o)∧EnIn Y1 ead (entsT t)∧σ=⟨[(2,.sv (.one (.val (.slice (some ⟨ab,ao,none⟩) acs.length acap)))),(7,Lp 500),(8,.sv (.one (.mp 502))),(9,Ln .i64 (i:Nat)),(10,Lp 10),(11,.sv (.one (.val (.slice ead t.l.length ecap))))],[(10,some ⟨64,[.val (.int .i64 a.kind),.val (.int .i64 a.i),.val (.int .u64 (a.e:Nat)),.val (.slice pad a.p.length pcap)],false⟩),tB 500 (t),mB 502 (m)],Y1⟩) ?_ ?_
  · refine LWP.le (σ':=⟨[(2,.sv (.one (.val (.slice (some ⟨ab,ao,none⟩) acs.length acap)))),(7,Lp 500),(8,.sv (.one (.mp 502))),(9,Ln .i64 (i:Nat)),(10,Lp 10)],[tB 500 (t),(10,some ⟨64,[.val (.int .i64 a.kind),.val (.int .i64 a.i),.val (.int .u64 (a.e:Nat)),.val (.slice pad a.p.length pcap)],false⟩),mB 502 (m)],Y⟩) (Le.of (by exact ⟨O,O,O,O,O,trivial⟩) (by exact ⟨O,O,O,trivial⟩) (by exact O) (by exact O) (by repeat' (first|refine bR ?_ ?_|rfl|exact bT|exact bS|exact bU O))) ?_
    refine tab_made fun mm hmm => ?_
    cases mm with
    | false =>
      have hE:=tEnts_none Y t hkt
      have hz:t.l.length=0:=by rw [hmm rfl];rfl
      (refine rgN<|kmv O<|aT [(1000000,500)] [tM 500 false (t)] (hE) O O (by exact (cM ⟨_,O,O⟩ trivial)) (by exact (bR O O)) O O O O (by exact (.box O O .nil)) dN<|kas O<|aB ?_)
      refine cA (σ':=⟨[(2,.sv (.one (.val (.slice (some ⟨ab,ao,none⟩) acs.length acap)))),(7,Lp 500),(8,.sv (.one (.mp 502))),(9,Ln .i64 (i:Nat)),(10,Lp 10),(11,.sv (.one (.val (.slice none 0 0))))],[tM 500 false (t),(10,some ⟨64,[.val (.int .i64 a.kind),.val (.int .i64 a.i),.val (.int .u64 (a.e:Nat)),.val (.slice pad a.p.length pcap)],false⟩),mB 502 (m)],Y⟩) (Le.of (by exact ⟨O,O,O,O,O,O,trivial⟩) (by exact ⟨O,O,O,trivial⟩) (by exact O) (by exact O) (by repeat' (first|refine bR ?_ ?_|rfl|exact bT|exact bS|exact bU O))) ?_
      refine cA Le.unmade ?_
      exact Leads.here (σ':=⟨[(2,.sv (.one (.val (.slice (some ⟨ab,ao,none⟩) acs.length acap)))),(7,Lp 500),(8,.sv (.one (.mp 502))),(9,Ln .i64 (i:Nat)),(10,Lp 10),(11,.sv (.one (.val (.slice none 0 0))))],[(10,some ⟨64,[.val (.int .i64 a.kind),.val (.int .i64 a.i),.val (.int .u64 (a.e:Nat)),.val (.slice pad a.p.length pcap)],false⟩),tB 500 (t),mB 502 (m)],Y⟩) (Le.of (by exact ⟨rfl,rfl,rfl,rfl,rfl,rfl,trivial⟩) (by exact ⟨rfl,rfl,rfl,trivial⟩) (by exact rfl) (by exact rfl) (by repeat' (first|refine bR ?_ ?_|rfl|exact bT|exact bS|exact bU rfl))) ⟨Y,none,0,fun _ _ h=>h,by rw [List.eq_nil_of_length_eq_zero (show (entsT t).length=0 by unfold entsT;rw [cT];exact hz)];exact EnIn.nil,by rw [hz]⟩
    | true =>
      have hE:=tEnts Y t hkt
      (refine rgN<|kmv O<|bD [(1000000,500),(1000001,601)] (.sv (.one (.slc 601 0 t.l.length 1))) [tM 500 true (t),enB 601 (entsT t)] (hE) O O (by exact (cM ⟨_,O,O⟩ trivial)) (by exact (bR O O)) O O O O (by exact (.box O O (.box O (bW _ _ _ _) .nil))) dN<|kas O<|aB ?_)
      refine cA (σ':=⟨[(11,.sv (.one (.slc 601 0 t.l.length 1))),(2,.sv (.one (.val (.slice (some ⟨ab,ao,none⟩) acs.length acap)))),(7,Lp 500),(8,.sv (.one (.mp 502))),(9,Ln .i64 (i:Nat)),(10,Lp 10)],[enB 601 (entsT t),(10,some ⟨64,[.val (.int .i64 a.kind),.val (.int .i64 a.i),.val (.int .u64 (a.e:Nat)),.val (.slice pad a.p.length pcap)],false⟩),tM 500 true (t),mB 502 (m)],Y⟩) (Le.of (by exact ⟨O,O,O,O,O,O,trivial⟩) (by exact ⟨O,O,O,O,trivial⟩) (by exact O) (by exact O) (by repeat' (first|refine bR ?_ ?_|rfl|exact bT|exact bS|exact bU O))) ?_
      refine Leads.freeze O (by repeat' (first|refine bR ?_ ?_|rfl|exact bS)) O fun blk c2 arr fr hn _ _ _ hsp => ?_
      refine cA (σ':=⟨[(2,.sv (.one (.val (.slice (some ⟨ab,ao,none⟩) acs.length acap)))),(7,Lp 500),(8,.sv (.one (.mp 502))),(9,Ln .i64 (i:Nat)),(10,Lp 10),(11,.sv (.one (.val (.slice (some ⟨blk,0,none⟩) t.l.length c2))))],[tM 500 true (t),(10,some ⟨64,[.val (.int .i64 a.kind),.val (.int .i64 a.i),.val (.int .u64 (a.e:Nat)),.val (.slice pad a.p.length pcap)],false⟩),mB 502 (m)],withBlock Y blk (.cells arr 37 fr)⟩) (Le.of (by exact ⟨O,O,O,O,O,O,trivial⟩) (by exact ⟨O,O,O,trivial⟩) (by exact O) (by exact O) (by repeat' (first|refine bR ?_ ?_|rfl|exact bT|exact bS|exact bU O))) ?_
      refine cA Le.unmade ?_
      exact Leads.here (σ':=⟨[(2,.sv (.one (.val (.slice (some ⟨ab,ao,none⟩) acs.length acap)))),(7,Lp 500),(8,.sv (.one (.mp 502))),(9,Ln .i64 (i:Nat)),(10,Lp 10),(11,.sv (.one (.val (.slice (some ⟨blk,0,none⟩) t.l.length c2))))],[(10,some ⟨64,[.val (.int .i64 a.kind),.val (.int .i64 a.i),.val (.int .u64 (a.e:Nat)),.val (.slice pad a.p.length pcap)],false⟩),tB 500 (t),mB 502 (m)],withBlock Y blk (.cells arr 37 fr)⟩) (Le.of (by exact ⟨O,O,O,O,O,O,trivial⟩) (by exact ⟨O,O,O,trivial⟩) (by exact O) (by exact O) (by repeat' (first|refine bR ?_ ?_|rfl|exact bT|exact bS|exact bU O))) ⟨_,some ⟨blk,0,none⟩,c2,cF hn,en_block (cJ _ _ _) hsp,O⟩
  rintro σ ⟨Y1,ead,ecap,hY1,hE,rfl⟩
  have hI1:=hI.mono hY1 (dJ i)
  have hXY1:∀ b o,X b=some o→Y1 b=some o:=fun b o h=>hY1 b o (hXY b o h)
  have hP1:=hP.mono hXY1
  have hroom:=hkt.room
  have hmost:=hkt.most
  clear hXa hX hP hI hY1 hcells hsz hc4 hao
  clear hXY
  clear Y
  repeat refine aA ?_
  refine LWP.meetL (fun σ=>∃ (u:Tb) (m2:List (Value×Value)) (Z:Nat→Option Obj),TbOk u∧MvI Z u.l (i+1) m2∧(∀ b o,X b=some o→Z b=some o)∧σ=⟨[(2,.sv (.one (.val (.slice (some ⟨ab,ao,none⟩) acs.length acap)))),(7,Lp 500),(8,.sv (.one (.mp 502))),(9,Ln .i64 (i:Nat))],[tB 500 (u),mB 502 (m2)],Z⟩) ?_ ?_
  · have hl12:a.p.length≤12∧∀ x∈a.p,x.val.length<4611686018427387904:=⟨by omega,apv⟩
    by_cases c1:a.kind≤3
    · by_cases hz:addE t (i+1) a.p=0
      case neg =>
        have hAd:=tAdd_no Y1 t hkt (i+1) (by omega) a.p pad pcap hP1 hl12 hz
        generalize addE t (i+1) a.p=e at *
        (refine aF<|aA<|rgN<|kfa O O ?_;refine kl1 O O O<|K.leq O O (cL c1) dN<|kas O<|aB<|aD O ?_;refine aA<|rgN<|kmv O<|kad O O hadd<|kcv O hcw ?_;refine kas O<|aB<|aA<|rgN<|kmv O<|kmv O<|kfa O O ?_;refine kl1 O O O<|aT [(1000000,500)] [tB 500 (t)] (hAd) O O (by exact (cM ⟨_,O,O⟩ trivial)) (by exact (bR O O)) O O O O (by exact (.box O O .nil)) dN<|kmv O<|kex O O<|kex O O<|kas O<|kas O<|aB<|aA<|rgN<|kmv O<|keq O O (r:=false) (cN hz)<|aB<|aE O ?_;refine aG ?_)
        exact Leads.here (σ':=⟨[(2,.sv (.one (.val (.slice (some ⟨ab,ao,none⟩) acs.length acap)))),(7,Lp 500),(8,.sv (.one (.mp 502))),(9,Ln .i64 (i:Nat))],[tB 500 (t),mB 502 (m)],Y1⟩) (Le.of (by exact ⟨O,O,O,O,trivial⟩) (by exact ⟨O,O,trivial⟩) (by exact O) (by exact O) (by repeat' (first|refine bR ?_ ?_|rfl|exact bT|exact bS|exact bU O))) ⟨t,m,Y1,hkt,hI1.mono (fun _ _ h=>h) (Nat.le_succ i),hXY1,O⟩
      have hAd:=tAdd Y1 t hkt (i+1) (by omega) a.p pad pcap hP1 hl12 hz
      obtain ⟨hku,hju,_,_,_⟩:=hkt.add (by omega) hz
      have hql:(sortP (idsL t.set) a.p).length=a.p.length:=by rw [sort_len hju];exact (just_iff.1 hju).1.symm
      have hul:(addT t (i+1) a.p).l=t.l++[⟨i+1,sortP (idsL t.set) a.p⟩]:=rfl
      generalize sortP (idsL t.set) a.p=q at *
      generalize addT t (i+1) a.p=u at *
      have hr:u.l[t.l.length]? = some ⟨i+1,q⟩:=by rw [hul,List.getElem?_append_right (dJ _),Nat.sub_self];rfl
      obtain ⟨r,hrd⟩:∃ r:Rw,r=⟨i+1,q⟩:=⟨_,rfl⟩
      rw [← hrd] at hr hul
      have hre:r.e=i+1:=by rw [hrd]
      have hrq:r.p.length=a.p.length:=by rw [hrd];exact hql
      (refine aF<|aA<|rgN<|kfa O O ?_;refine kl1 O O O<|K.leq O O (cL c1) dN<|kas O<|aB<|aD O ?_;refine aA<|rgN<|kmv O<|kad O O hadd<|kcv O hcw ?_;refine kas O<|aB<|aA<|rgN<|kmv O<|kmv O<|kfa O O ?_;refine kl1 O O O<|aT [(1000000,500)] [tB 500 (u)] (hAd) O O (by exact (cM ⟨_,O,O⟩ trivial)) (by exact (bR O O)) O O O O (by exact (.box O O .nil)) dN<|kmv O<|kex O O<|kex O O<|kas O<|kas O<|aB<|aA<|rgN<|kmv O<|keq O O (r:=true) O<|aB<|aD O ?_;refine aA ?_)
      repeat refine aA ?_
      refine LWP.meetL (fun σ=>∃ (Z:Nat→Option Obj) (pd:Option Addr) (pc:Nat),(∀ b o,Y1 b=some o→Z b=some o)∧PartsIn Z pd r.p∧σ=⟨[(15,.sv (.one (.val (.slice pd r.p.length pc)))),(16,Ln .i64 0),(13,Ln .i64 (t.l.length:Nat)),(12,Ln .u64 (i+1:Nat)),(2,.sv (.one (.val (.slice (some ⟨ab,ao,none⟩) acs.length acap)))),(7,Lp 500),(8,.sv (.one (.mp 502))),(9,Ln .i64 (i:Nat)),(10,Lp 10),(11,.sv (.one (.val (.slice ead t.l.length ecap))))],[(10,some ⟨64,[.val (.int .i64 a.kind),.val (.int .i64 a.i),.val (.int .u64 (a.e:Nat)),.val (.slice pad a.p.length pcap)],false⟩),tB 500 (u),mB 502 (m)],Z⟩) ?_ ?_
      · cases hmm:tMade r.p.length with
        | false =>
          have hP:=tParts_none Y1 u hku t.l.length r hr hmm
          have hz:=tMade_zero hmm
          (refine rgN<|kmv O<|kmv O<|aT [(1000000,500)] [tB 500 (u)] (hP) O O (by exact (cM ⟨_,O,O⟩ trivial)) (by exact (bR O O)) O O O O (by exact (.box O O .nil)) dN<|kmv O<|kex O O<|kex O O<|kas O<|kas O<|aB ?_)
          exact Leads.here (σ':=⟨[(15,.sv (.one (.val (.slice none 0 0)))),(16,Ln .i64 0),(13,Ln .i64 (t.l.length:Nat)),(12,Ln .u64 (i+1:Nat)),(2,.sv (.one (.val (.slice (some ⟨ab,ao,none⟩) acs.length acap)))),(7,Lp 500),(8,.sv (.one (.mp 502))),(9,Ln .i64 (i:Nat)),(10,Lp 10),(11,.sv (.one (.val (.slice ead t.l.length ecap))))],[(10,some ⟨64,[.val (.int .i64 a.kind),.val (.int .i64 a.i),.val (.int .u64 (a.e:Nat)),.val (.slice pad a.p.length pcap)],false⟩),tB 500 (u),mB 502 (m)],Y1⟩) (Le.of (by exact ⟨rfl,rfl,rfl,rfl,rfl,rfl,rfl,rfl,rfl,rfl,trivial⟩) (by exact ⟨rfl,rfl,rfl,trivial⟩) (by exact rfl) (by exact rfl) (by repeat' (first|refine bR ?_ ?_|rfl|exact bT|exact bS|exact bU rfl))) ⟨Y1,none,0,fun _ _ h=>h,by rw [List.eq_nil_of_length_eq_zero hz];exact parts_nil16,by rw [hz]⟩
        | true =>
          have hP:=tParts Y1 u hku t.l.length r hr hmm
          (refine rgN<|kmv O<|kmv O<|bD [(1000000,500),(1000001,602)] (.tup [.one (.slc 602 0 r.p.length 2),Sn .i64 0]) [tB 500 (u),prtB 602 r.p] (hP) O O (by exact (cM ⟨_,O,O⟩ trivial)) (by exact (bR O O)) O O O O (by exact (.box O O (.box O O .nil))) dN<|kmv O<|kex O O<|kex O O<|kas O<|kas O<|aB ?_)
          refine cA (σ':=⟨[(15,.sv (.one (.slc 602 0 r.p.length 2))),(16,Ln .i64 0),(13,Ln .i64 (t.l.length:Nat)),(12,Ln .u64 (i+1:Nat)),(2,.sv (.one (.val (.slice (some ⟨ab,ao,none⟩) acs.length acap)))),(7,Lp 500),(8,.sv (.one (.mp 502))),(9,Ln .i64 (i:Nat)),(10,Lp 10),(11,.sv (.one (.val (.slice ead t.l.length ecap))))],[prtB 602 r.p,(10,some ⟨64,[.val (.int .i64 a.kind),.val (.int .i64 a.i),.val (.int .u64 (a.e:Nat)),.val (.slice pad a.p.length pcap)],false⟩),tB 500 (u),mB 502 (m)],Y1⟩) (Le.of (by exact ⟨O,O,O,O,O,O,O,O,O,O,trivial⟩) (by exact ⟨O,O,O,O,trivial⟩) (by exact O) (by exact O) (by repeat' (first|refine bR ?_ ?_|rfl|exact bT|exact bS|exact bU O))) ?_
          refine Leads.fixRes O (by repeat' (first|refine bR ?_ ?_|rfl|exact bS)) O fun ρ H pc0 hR hO _ _ => ?_
          exact bZ ⟨joinM Y1 H,some ⟨ρ.1,0,none⟩,pc0,fun _ _ h=>joinM_has hO h,parts_mono (fun _ _ h=>joinM_in h) hR.2,O⟩
      rintro σ ⟨Z,pd,pc,hZ,hPq,rfl⟩
      have hI3:=hI1.mono hZ (dJ i)
      obtain ⟨hput,hI2⟩:=hI3.add (pad:=pd) (cap:=pc) hre hPq
      rw [← hul] at hI2
      rw [show keyT r = .int .u64 (i+1:Nat) by unfold keyT;rw [hre]] at hput
      obtain ⟨m2,hm2⟩:∃ m2,m++[(keyT r,Value.slice pd r.p.length pc)]=m2:=⟨_,rfl⟩
      rw [show keyT r = .int .u64 (i+1:Nat) by unfold keyT;rw [hre]] at hm2
      rw [show keyT r = .int .u64 (i+1:Nat) by unfold keyT;rw [hre]] at hI2
      rw [hm2] at hput hI2
      (refine aA<|aA<|rgN<|kmv O<|kne O O (r:=false) O<|kmv O<|gmv O O O<|aP O bY O (dO O O) ?_;refine aM O O (dO O O) ?_;refine aN O O O (dO O O) ?_;refine aP O bY O (dO O O) ?_;refine aW O O (r:=false) (cO (by rw [hrq])) (dO O O) ?_;refine kpf O O<|aB<|aE O ?_;refine aG ?_;refine rgN<|kmv O<|kmv O<|kmv O<|K.mapUpdate (kt:=37) (et:=43) m2 O O O O (by kernel_rfl) (KL.int (q:=.u64) (by kernel_rfl)) (key16 (by omega)) hput dN ?_;refine aB ?_)
      exact Leads.here (σ':=⟨[(2,.sv (.one (.val (.slice (some ⟨ab,ao,none⟩) acs.length acap)))),(7,Lp 500),(8,.sv (.one (.mp 502))),(9,Ln .i64 (i:Nat))],[tB 500 (u),mB 502 (m2)],Z⟩) (Le.of (by exact ⟨O,O,O,O,trivial⟩) (by exact ⟨O,O,trivial⟩) (by exact O) (by exact O) (by repeat' (first|refine bR ?_ ?_|rfl|exact bT|exact bS|exact bU O))) ⟨u,m2,Z,hku,hI2,fun b o h=>hZ b o (hXY1 b o h),O⟩
    have hlw:IntKind.u64.wrap ((t.l.length:Nat):Int)=((t.l.length:Nat):Int):=wrap_u64 (by omega)
    by_cases c2:a.kind=4
    · by_cases c0:t.l.length=0
      · have c3:¬a.kind=5:=by omega
        (refine aF<|aA<|rgN<|kfa O O ?_;refine kl1 O O O<|K.leq O O (cK c1) dN<|kas O<|aB<|aE O ?_;refine aA<|rgN<|kfa O O ?_;refine kl1 O O O<|keq O O (r:=true) (cR c2)<|kmv O<|gmv O O O<|aP O bY O (dO O O) ?_;refine aR O O (cK (by omega)) (dO O O) ?_;refine kpt O O<|kas O<|aB<|aE O ?_;refine aA<|rgN<|kfa O O ?_;refine kl1 O O O<|keq O O (r:=false) (cN c3)<|kmv O<|aC O O O<|aC O O O<|aC O O O<|kpf O O<|kmv O<|aC O O O<|aC O O O<|aC O O O<|aC O O O<|kpf O O<|kas O ?_;refine aB<|aE O ?_;refine aG ?_)
        exact Leads.here (σ':=⟨[(2,.sv (.one (.val (.slice (some ⟨ab,ao,none⟩) acs.length acap)))),(7,Lp 500),(8,.sv (.one (.mp 502))),(9,Ln .i64 (i:Nat))],[tB 500 (t),mB 502 (m)],Y1⟩) (Le.of (by exact ⟨O,O,O,O,trivial⟩) (by exact ⟨O,O,trivial⟩) (by exact O) (by exact O) (by repeat' (first|refine bR ?_ ?_|rfl|exact bT|exact bS|exact bU O))) ⟨t,m,Y1,hkt,hI1.mono (fun _ _ h=>h) (Nat.le_succ i),hXY1,O⟩
      obtain ⟨j,hjl,hr⟩:=rest_u16 (v:=a.i) t.l.length (by omega) (by omega)
      have hjw:IntKind.i64.wrap ((j:Nat):Int)=((j:Nat):Int):=cE (by omega)
      obtain ⟨rj,hrj⟩:∃ r,t.l[j]? = some r:=⟨_,cU hjl⟩
      have hlm:IntKind.i64.wrap (((t.l.length:Nat):Int)-1)=((t.l.length-1:Nat):Int):=by rw [cE (by omega)];omega
      obtain ⟨eb,eo,earr,eel,efr,rfl,hEX,hEJ⟩:=hE.at_ j rj.e (entsT_at hrj)
      have hEJX:=hEX
      have hjo:eo+Int.toNat ((j:Nat):Int)*1=eo+j*1:=by simp
      have hjs:rj.e<18446744073709551616:=((hkt.rows rj (cZ hrj)).e).2
      obtain ⟨m2,hdel,hI2⟩:=hI1.drop hrj
      have hI2:MvI Y1 (dropT t j).l i m2:=hI2
      have hku:=hkt.drop hjl
      have hD:=tDrop Y1 t hkt j hjl
      by_cases clast:j=t.l.length-1
      · rw [show movedT t j=0 from if_pos clast] at hD
        generalize dropT t j=u at *
        ((refine aF<|aA<|rgN<|kfa O O ?_;refine kl1 O O O<|K.leq O O (cK c1) dN<|kas O<|aB<|aE O ?_;refine aA<|rgN<|kfa O O ?_;refine kl1 O O O<|keq O O (r:=true) (cR c2)<|kmv O<|gmv O O O<|aP O bY O (dO O O) ?_;refine aR O O (cL (by omega)) (dO O O) ?_;refine kpt O O<|kas O<|aB<|aD O ?_;refine aA<|rgN<|kfa O O ?_;refine kl1 O O O<|kcv O O ?_;refine kmv O<|aP O bY O dN ?_;refine kcv O hlw ?_;refine K.rem O O (by omega) hr dN<|kcv O hjw ?_;refine kas O<|aB<|aA<|rgN<|kmv O<|kmv O<|aT [(1000000,500)] [tB 500 (u)] (hD) O O (by exact (cM ⟨_,O,O⟩ trivial)) (by exact (bR O O)) O O O O (by exact (.box O O .nil)) dN<|kmv O<|kex O O<|kex O O<|kas O<|kas O<|aB<|aA ?_);(refine aA<|rgN<|kmv O<|kne O O (r:=false) O<|kmv O<|gmv O O O<|gmv O O O<|aP O bY O (dO O O) ?_;refine aZ O O hlm (dO O O) ?_;refine bB O O (r:=true) (cR (by omega)) (dO O O) ?_;refine gmv O O O<|gmv O O O<|aW O O (r:=false) O (dO O O) ?_;refine K.pickT O O (dO O O) ?_;refine kpf O O<|kmv O<|gmv O O O<|gmv O O O<|aP O bY O (dO O O) ?_;refine aZ O O hlm (dO O O) ?_;refine bJ O O (cK (by omega)) (dO O O) ?_;refine gmv O O O<|aC O O O<|aC O O O<|aC O O O<|aC O O O<|aC O O O<|aC O O O<|aC O O O<|aC O O O<|K.pickF O O (dO O O) ?_;refine kpf O O<|aB<|aE O ?_;refine aG ?_;refine rgN<|kmv O<|kmv O<|kmv O<|aQ O O bY (by omega) hjo dN<|aV O hEJX O hEJ dN<|K.mapDelete (kt:=37) (et:=43) m2 O O O (by kernel_rfl) (KL.int (q:=.u64) (by kernel_rfl)) (key16 hjs) hdel dN ?_);(refine aB ?_))
        exact Leads.here (σ':=⟨[(2,.sv (.one (.val (.slice (some ⟨ab,ao,none⟩) acs.length acap)))),(7,Lp 500),(8,.sv (.one (.mp 502))),(9,Ln .i64 (i:Nat))],[tB 500 (u),mB 502 (m2)],Y1⟩) (Le.of (by exact ⟨O,O,O,O,trivial⟩) (by exact ⟨O,O,trivial⟩) (by exact O) (by exact O) (by repeat' (first|refine bR ?_ ?_|rfl|exact bT|exact bS|exact bU O))) ⟨u,m2,Y1,hku,hI2.mono (fun _ _ h=>h) (Nat.le_succ i),hXY1,O⟩
      · obtain ⟨rl,hrl⟩:∃ r,t.l[t.l.length-1]? = some r:=⟨_,cU (by omega)⟩
        obtain ⟨_,_,_,_,_,he,hELX,hEL⟩:=hE.at_ (t.l.length-1) rl.e (entsT_at hrl)
        cases he
        have hlo:eo+Int.toNat ((t.l.length-1:Nat):Int)*1=eo+(t.l.length-1)*1:=by simp
        rw [show movedT t j=rl.e by unfold movedT entT;rw [if_neg clast,hrl]] at hD
        generalize dropT t j=u at *
        ((refine aF<|aA<|rgN<|kfa O O ?_;refine kl1 O O O<|K.leq O O (cK c1) dN<|kas O<|aB<|aE O ?_;refine aA<|rgN<|kfa O O ?_;refine kl1 O O O<|keq O O (r:=true) (cR c2)<|kmv O<|gmv O O O<|aP O bY O (dO O O) ?_;refine aR O O (cL (by omega)) (dO O O) ?_;refine kpt O O<|kas O<|aB<|aD O ?_;refine aA<|rgN<|kfa O O ?_;refine kl1 O O O<|kcv O O ?_;refine kmv O<|aP O bY O dN ?_;refine kcv O hlw ?_;refine K.rem O O (by omega) hr dN<|kcv O hjw ?_;refine kas O<|aB<|aA<|rgN<|kmv O<|kmv O<|aT [(1000000,500)] [tB 500 (u)] (hD) O O (by exact (cM ⟨_,O,O⟩ trivial)) (by exact (bR O O)) O O O O (by exact (.box O O .nil)) dN<|kmv O<|kex O O<|kex O O<|kas O<|kas O<|aB<|aA ?_);(refine aA<|rgN<|kmv O<|kne O O (r:=false) O<|kmv O<|gmv O O O<|gmv O O O<|aP O bY O (dO O O) ?_;refine aZ O O hlm (dO O O) ?_;refine bB O O (r:=false) (cN (by omega)) (dO O O) ?_;refine gmv O O O<|aC O O O<|aC O O O<|K.pickF O O (dO O O) ?_;refine kpf O O<|kmv O<|gmv O O O<|gmv O O O<|aP O bY O (dO O O) ?_;refine aZ O O hlm (dO O O) ?_;refine bJ O O (cL (by omega)) (dO O O) ?_;refine gmv O O O<|gmv O O O<|gmv O O O<|gmv O O O<|aP O bY O (dO O O) ?_;refine aZ O O hlm (dO O O) ?_;refine aQ O O bY (by omega) hlo (dO O O) ?_;refine aV O hELX O hEL (dO O O) ?_;refine aW O O (r:=false) (cO O) (dO O O) ?_);(refine K.pickT O O (dO O O) ?_;refine kpf O O<|aB<|aE O ?_;refine aG ?_;refine rgN<|kmv O<|kmv O<|kmv O<|aQ O O bY (by omega) hjo dN<|aV O hEJX O hEJ dN<|K.mapDelete (kt:=37) (et:=43) m2 O O O (by kernel_rfl) (KL.int (q:=.u64) (by kernel_rfl)) (key16 hjs) hdel dN ?_;refine aB ?_))
        exact Leads.here (σ':=⟨[(2,.sv (.one (.val (.slice (some ⟨ab,ao,none⟩) acs.length acap)))),(7,Lp 500),(8,.sv (.one (.mp 502))),(9,Ln .i64 (i:Nat))],[tB 500 (u),mB 502 (m2)],Y1⟩) (Le.of (by exact ⟨O,O,O,O,trivial⟩) (by exact ⟨O,O,trivial⟩) (by exact O) (by exact O) (by repeat' (first|refine bR ?_ ?_|rfl|exact bT|exact bS|exact bU O))) ⟨u,m2,Y1,hku,hI2.mono (fun _ _ h=>h) (Nat.le_succ i),hXY1,O⟩
    by_cases c3:a.kind=5
    case neg =>
      (refine aF<|aA<|rgN<|kfa O O ?_;refine kl1 O O O<|K.leq O O (cK c1) dN<|kas O<|aB<|aE O ?_;refine aA<|rgN<|kfa O O ?_;refine kl1 O O O<|keq O O (r:=false) (cN c2)<|kmv O<|aC O O O<|aC O O O<|aC O O O<|kpf O O<|kas O<|aB<|aE O ?_;refine aA<|rgN<|kfa O O ?_;refine kl1 O O O<|keq O O (r:=false) (cN c3)<|kmv O<|aC O O O<|aC O O O<|aC O O O<|kpf O O<|kmv O<|aC O O O<|aC O O O<|aC O O O<|aC O O O<|kpf O O<|kas O ?_;refine aB<|aE O ?_;refine aG ?_)
      exact Leads.here (σ':=⟨[(2,.sv (.one (.val (.slice (some ⟨ab,ao,none⟩) acs.length acap)))),(7,Lp 500),(8,.sv (.one (.mp 502))),(9,Ln .i64 (i:Nat))],[tB 500 (t),mB 502 (m)],Y1⟩) (Le.of (by exact ⟨O,O,O,O,trivial⟩) (by exact ⟨O,O,trivial⟩) (by exact O) (by exact O) (by repeat' (first|refine bR ?_ ?_|rfl|exact bT|exact bS|exact bU O))) ⟨t,m,Y1,hkt,hI1.mono (fun _ _ h=>h) (Nat.le_succ i),hXY1,O⟩
    by_cases c0:t.l.length=0
    · (refine aF<|aA<|rgN<|kfa O O ?_;refine kl1 O O O<|K.leq O O (cK c1) dN<|kas O<|aB<|aE O ?_;refine aA<|rgN<|kfa O O ?_;refine kl1 O O O<|keq O O (r:=false) (cN c2)<|kmv O<|aC O O O<|aC O O O<|aC O O O<|kpf O O<|kas O<|aB<|aE O ?_;refine aA<|rgN<|kfa O O ?_;refine kl1 O O O<|keq O O (r:=true) (cR c3)<|kmv O<|gmv O O O<|aP O bY O (dO O O) ?_;refine aR O O (cK (by omega)) (dO O O) ?_;refine kpt O O<|kmv O<|aC O O O<|aC O O O<|aC O O O<|aC O O O<|kpf O O<|kas O<|aB<|aE O ?_;refine aG ?_)
      exact Leads.here (σ':=⟨[(2,.sv (.one (.val (.slice (some ⟨ab,ao,none⟩) acs.length acap)))),(7,Lp 500),(8,.sv (.one (.mp 502))),(9,Ln .i64 (i:Nat))],[tB 500 (t),mB 502 (m)],Y1⟩) (Le.of (by exact ⟨O,O,O,O,trivial⟩) (by exact ⟨O,O,trivial⟩) (by exact O) (by exact O) (by repeat' (first|refine bR ?_ ?_|rfl|exact bT|exact bS|exact bU O))) ⟨t,m,Y1,hkt,hI1.mono (fun _ _ h=>h) (Nat.le_succ i),hXY1,O⟩
    by_cases c4:a.p.length=0
    · (refine aF<|aA<|rgN<|kfa O O ?_;refine kl1 O O O<|K.leq O O (cK c1) dN<|kas O<|aB<|aE O ?_;refine aA<|rgN<|kfa O O ?_;refine kl1 O O O<|keq O O (r:=false) (cN c2)<|kmv O<|aC O O O<|aC O O O<|aC O O O<|kpf O O<|kas O<|aB<|aE O ?_;refine aA<|rgN<|kfa O O ?_;refine kl1 O O O<|keq O O (r:=true) (cR c3)<|kmv O<|gmv O O O<|aP O bY O (dO O O) ?_;refine aR O O (cL (by omega)) (dO O O) ?_;refine kpt O O<|kmv O<|aM O O (dO O O) ?_;refine aN O O O (dO O O) ?_;refine aP O bY O (dO O O) ?_;refine aR O O (cK (by omega)) (dO O O) ?_;refine kpt O O<|kas O<|aB<|aE O ?_;refine aG ?_)
      exact Leads.here (σ':=⟨[(2,.sv (.one (.val (.slice (some ⟨ab,ao,none⟩) acs.length acap)))),(7,Lp 500),(8,.sv (.one (.mp 502))),(9,Ln .i64 (i:Nat))],[tB 500 (t),mB 502 (m)],Y1⟩) (Le.of (by exact ⟨O,O,O,O,trivial⟩) (by exact ⟨O,O,trivial⟩) (by exact O) (by exact O) (by repeat' (first|refine bR ?_ ?_|rfl|exact bT|exact bS|exact bU O))) ⟨t,m,Y1,hkt,hI1.mono (fun _ _ h=>h) (Nat.le_succ i),hXY1,O⟩
    obtain ⟨j,hjl,hr⟩:=rest_u16 (v:=a.i) t.l.length (by omega) (by omega)
    have hjw:IntKind.i64.wrap ((j:Nat):Int)=((j:Nat):Int):=cE (by omega)
    obtain ⟨rj,hrj⟩:∃ r,t.l[j]? = some r:=⟨_,cU hjl⟩
    obtain ⟨eb,eo,earr,eel,efr,rfl,hEX,hEJ⟩:=hE.at_ j rj.e (entsT_at hrj)
    have hjo:eo+Int.toNat ((j:Nat):Int)*1=eo+j*1:=by simp
    have hjs:rj.e<18446744073709551616:=((hkt.rows rj (cZ hrj)).e).2
    obtain ⟨p,hp⟩:∃ p,a.p[0]? = some p:=⟨_,cU (by omega)⟩
    obtain ⟨pb,po,parr,pel,pfr,vad,vcap,rfl,hPX,hpsz,hpc,hp1,hp2,hN,hvc⟩:=hP1.get hp
    have hpo:po+Int.toNat (0:Int)*2=po+0*2:=rfl
    have hpb:=apv p (cZ hp)
    by_cases hte:tsetE t (j:Nat) p=0
    case neg =>
      have hSe:=tSet_no Y1 t hkt (j:Nat) p vad vcap hN hpb hvc hte
      generalize tsetE t (j:Nat) p=e at *
      (refine aF<|aA<|rgN<|kfa O O ?_;refine kl1 O O O<|K.leq O O (cK c1) dN<|kas O<|aB<|aE O ?_;refine aA<|rgN<|kfa O O ?_;refine kl1 O O O<|keq O O (r:=false) (cN c2)<|kmv O<|aC O O O<|aC O O O<|aC O O O<|kpf O O<|kas O<|aB<|aE O ?_;refine aA<|rgN<|kfa O O ?_;refine kl1 O O O<|keq O O (r:=true) (cR c3)<|kmv O<|gmv O O O<|aP O bY O (dO O O) ?_;refine aR O O (cL (by omega)) (dO O O) ?_;refine kpt O O<|kmv O<|aM O O (dO O O) ?_;refine aN O O O (dO O O) ?_;refine aP O bY O (dO O O) ?_;refine aR O O (cL (by omega)) (dO O O) ?_;refine kpt O O<|kas O<|aB<|aD O ?_;refine aA<|rgN<|kfa O O ?_;refine kl1 O O O<|kcv O O ?_;refine kmv O<|aP O bY O dN ?_;refine kcv O hlw ?_;refine K.rem O O (by omega) hr dN<|kcv O hjw ?_;refine kas O<|aB<|aA<|rgN<|kmv O<|kmv O<|kfa O O ?_;refine kl1 O O O<|aQ O O bY (by omega) hpo dN<|aX O hPX (by kernel_rfl) hpsz hpc dN<|aT [(1000000,500)] [tB 500 (t)] (hSe) O O (by exact (cM ⟨_,O,O⟩ trivial)) (by exact (bR O O)) O O O O (by exact (.box O O .nil)) dN<|keq O O (r:=false) (cN hte)<|aB<|aE O ?_;refine aG ?_)
      exact Leads.here (σ':=⟨[(2,.sv (.one (.val (.slice (some ⟨ab,ao,none⟩) acs.length acap)))),(7,Lp 500),(8,.sv (.one (.mp 502))),(9,Ln .i64 (i:Nat))],[tB 500 (t),mB 502 (m)],Y1⟩) (Le.of (by exact ⟨O,O,O,O,trivial⟩) (by exact ⟨O,O,trivial⟩) (by exact O) (by exact O) (by repeat' (first|refine bR ?_ ?_|rfl|exact bT|exact bS|exact bU O))) ⟨t,m,Y1,hkt,hI1.mono (fun _ _ h=>h) (Nat.le_succ i),hXY1,O⟩
    obtain ⟨kk,hpl,hfit⟩:=tset_ok hte
    have hSe:=tSet Y1 t hkt j kk p vad vcap hN hpb hvc hjl hpl hfit
    have hku:=hkt.setV (i:=j) hpl hfit
    obtain ⟨r',hre,hr',hsl,hgv,hge⟩:=set_row hkt hrj hpl
    have hplu:(setT t j kk p).l.length=t.l.length:=by rw [hsl,List.length_set]
    generalize setT t j kk p=u at *
    (refine aF<|aA<|rgN<|kfa O O ?_;refine kl1 O O O<|K.leq O O (cK c1) dN<|kas O<|aB<|aE O ?_;refine aA<|rgN<|kfa O O ?_;refine kl1 O O O<|keq O O (r:=false) (cN c2)<|kmv O<|aC O O O<|aC O O O<|aC O O O<|kpf O O<|kas O<|aB<|aE O ?_;refine aA<|rgN<|kfa O O ?_;refine kl1 O O O<|keq O O (r:=true) (cR c3)<|kmv O<|gmv O O O<|aP O bY O (dO O O) ?_;refine aR O O (cL (by omega)) (dO O O) ?_;refine kpt O O<|kmv O<|aM O O (dO O O) ?_;refine aN O O O (dO O O) ?_;refine aP O bY O (dO O O) ?_;refine aR O O (cL (by omega)) (dO O O) ?_;refine kpt O O<|kas O<|aB<|aD O ?_;refine aA<|rgN<|kfa O O ?_;refine kl1 O O O<|kcv O O ?_;refine kmv O<|aP O bY O dN ?_;refine kcv O hlw ?_;refine K.rem O O (by omega) hr dN<|kcv O hjw ?_;refine kas O<|aB<|aA<|rgN<|kmv O<|kmv O<|kfa O O ?_;refine kl1 O O O<|aQ O O bY (by omega) hpo dN<|aX O hPX (by kernel_rfl) hpsz hpc dN<|aT [(1000000,500)] [tB 500 (u)] (hSe) O O (by exact (cM ⟨_,O,O⟩ trivial)) (by exact (bR O O)) O O O O (by exact (.box O O .nil)) dN<|keq O O (r:=true) O<|aB<|aD O ?_;refine aA ?_)
    repeat refine aA ?_
    refine LWP.meetL (fun σ=>∃ (Z:Nat→Option Obj) (pd:Option Addr) (pc:Nat),(∀ b o,Y1 b=some o→Z b=some o)∧PartsIn Z pd r'.p∧σ=⟨[(21,.sv (.one (.val (.slice pd r'.p.length pc)))),(22,Ln .i64 0),(20,Ln .i64 (j:Nat)),(2,.sv (.one (.val (.slice (some ⟨ab,ao,none⟩) acs.length acap)))),(7,Lp 500),(8,.sv (.one (.mp 502))),(9,Ln .i64 (i:Nat)),(10,Lp 10),(11,.sv (.one (.val (.slice (some ⟨eb,eo,none⟩) t.l.length ecap))))],[(10,some ⟨64,[.val (.int .i64 a.kind),.val (.int .i64 a.i),.val (.int .u64 (a.e:Nat)),.val (.slice (some ⟨pb,po,none⟩) a.p.length pcap)],false⟩),tB 500 (u),mB 502 (m)],Z⟩) ?_ ?_
    · cases hmm:tMade r'.p.length with
      | false =>
        have hP:=tParts_none Y1 u hku j r' hr' hmm
        have hz:=tMade_zero hmm
        (refine rgN<|kmv O<|kmv O<|aT [(1000000,500)] [tB 500 (u)] (hP) O O (by exact (cM ⟨_,O,O⟩ trivial)) (by exact (bR O O)) O O O O (by exact (.box O O .nil)) dN<|kmv O<|kex O O<|kex O O<|kas O<|kas O<|aB ?_)
        exact Leads.here (σ':=⟨[(21,.sv (.one (.val (.slice none 0 0)))),(22,Ln .i64 0),(20,Ln .i64 (j:Nat)),(2,.sv (.one (.val (.slice (some ⟨ab,ao,none⟩) acs.length acap)))),(7,Lp 500),(8,.sv (.one (.mp 502))),(9,Ln .i64 (i:Nat)),(10,Lp 10),(11,.sv (.one (.val (.slice (some ⟨eb,eo,none⟩) t.l.length ecap))))],[(10,some ⟨64,[.val (.int .i64 a.kind),.val (.int .i64 a.i),.val (.int .u64 (a.e:Nat)),.val (.slice (some ⟨pb,po,none⟩) a.p.length pcap)],false⟩),tB 500 (u),mB 502 (m)],Y1⟩) (Le.of (by exact ⟨rfl,rfl,rfl,rfl,rfl,rfl,rfl,rfl,rfl,trivial⟩) (by exact ⟨rfl,rfl,rfl,trivial⟩) (by exact rfl) (by exact rfl) (by repeat' (first|refine bR ?_ ?_|rfl|exact bT|exact bS|exact bU rfl))) ⟨Y1,none,0,fun _ _ h=>h,by rw [List.eq_nil_of_length_eq_zero hz];exact parts_nil16,by rw [hz]⟩
      | true =>
        have hP:=tParts Y1 u hku j r' hr' hmm
        (refine rgN<|kmv O<|kmv O<|bD [(1000000,500),(1000001,602)] (.tup [.one (.slc 602 0 r'.p.length 2),Sn .i64 0]) [tB 500 (u),prtB 602 r'.p] (hP) O O (by exact (cM ⟨_,O,O⟩ trivial)) (by exact (bR O O)) O O O O (by exact (.box O O (.box O O .nil))) dN<|kmv O<|kex O O<|kex O O<|kas O<|kas O<|aB ?_)
        refine cA (σ':=⟨[(21,.sv (.one (.slc 602 0 r'.p.length 2))),(22,Ln .i64 0),(20,Ln .i64 (j:Nat)),(2,.sv (.one (.val (.slice (some ⟨ab,ao,none⟩) acs.length acap)))),(7,Lp 500),(8,.sv (.one (.mp 502))),(9,Ln .i64 (i:Nat)),(10,Lp 10),(11,.sv (.one (.val (.slice (some ⟨eb,eo,none⟩) t.l.length ecap))))],[prtB 602 r'.p,(10,some ⟨64,[.val (.int .i64 a.kind),.val (.int .i64 a.i),.val (.int .u64 (a.e:Nat)),.val (.slice (some ⟨pb,po,none⟩) a.p.length pcap)],false⟩),tB 500 (u),mB 502 (m)],Y1⟩) (Le.of (by exact ⟨O,O,O,O,O,O,O,O,O,trivial⟩) (by exact ⟨O,O,O,O,trivial⟩) (by exact O) (by exact O) (by repeat' (first|refine bR ?_ ?_|rfl|exact bT|exact bS|exact bU O))) ?_
        refine Leads.fixRes O (by repeat' (first|refine bR ?_ ?_|rfl|exact bS)) O fun ρ H pc0 hR hO _ _ => ?_
        exact bZ ⟨joinM Y1 H,some ⟨ρ.1,0,none⟩,pc0,fun _ _ h=>joinM_has hO h,parts_mono (fun _ _ h=>joinM_in h) hR.2,O⟩
    rintro σ ⟨Z,pd,pc,hZ,hPq,rfl⟩
    repeat refine aA ?_
    have hNv:NumsIn Z vad p.val:=⟨hN.rows.mono hZ,hN.in2⟩
    refine LWP.meetL (fun σ=>∃ (W:Nat→Option Obj) (wd:Option Addr) (wc:Nat),(∀ b o,Z b=some o→W b=some o)∧NumsIn W wd p.val∧σ=⟨[(23,.sv (.one (.val (.slice wd p.val.length wc)))),(24,Ln .i64 0),(21,.sv (.one (.val (.slice pd r'.p.length pc)))),(20,Ln .i64 (j:Nat)),(2,.sv (.one (.val (.slice (some ⟨ab,ao,none⟩) acs.length acap)))),(7,Lp 500),(8,.sv (.one (.mp 502))),(9,Ln .i64 (i:Nat)),(10,Lp 10),(11,.sv (.one (.val (.slice (some ⟨eb,eo,none⟩) t.l.length ecap))))],[(10,some ⟨64,[.val (.int .i64 a.kind),.val (.int .i64 a.i),.val (.int .u64 (a.e:Nat)),.val (.slice (some ⟨pb,po,none⟩) a.p.length pcap)],false⟩),tB 500 (u),mB 502 (m)],W⟩) ?_ ?_
    · cases hmm:tMade p.val.length with
      | false =>
        have hG:=tGet_none Z u hku (j:Nat) p.comp hge (by rw [hgv];exact hmm)
        have hz:=tMade_zero hmm
        (refine rgN<|kmv O<|kmv O<|kfa O O ?_;refine kl1 O O O<|aQ O O bY (by omega) hpo dN<|bG O O dN ?_;refine aV O (hZ _ _ hPX) O hp1 dN<|aT [(1000000,500)] [tB 500 (u)] (hG) O O (by exact (cM ⟨_,O,O⟩ trivial)) (by exact (bR O O)) O O O O (by exact (.box O O .nil)) dN<|kmv O<|kex O O<|kex O O<|kas O<|kas O<|aB ?_)
        exact Leads.here (σ':=⟨[(23,.sv (.one (.val (.slice none 0 0)))),(24,Ln .i64 0),(21,.sv (.one (.val (.slice pd r'.p.length pc)))),(20,Ln .i64 (j:Nat)),(2,.sv (.one (.val (.slice (some ⟨ab,ao,none⟩) acs.length acap)))),(7,Lp 500),(8,.sv (.one (.mp 502))),(9,Ln .i64 (i:Nat)),(10,Lp 10),(11,.sv (.one (.val (.slice (some ⟨eb,eo,none⟩) t.l.length ecap))))],[(10,some ⟨64,[.val (.int .i64 a.kind),.val (.int .i64 a.i),.val (.int .u64 (a.e:Nat)),.val (.slice (some ⟨pb,po,none⟩) a.p.length pcap)],false⟩),tB 500 (u),mB 502 (m)],Z⟩) (Le.of (by exact ⟨rfl,rfl,rfl,rfl,rfl,rfl,rfl,rfl,rfl,rfl,trivial⟩) (by exact ⟨rfl,rfl,rfl,trivial⟩) (by exact rfl) (by exact rfl) (by repeat' (first|refine bR ?_ ?_|rfl|exact bT|exact bS|exact bU rfl))) ⟨Z,none,0,fun _ _ h=>h,by rw [List.eq_nil_of_length_eq_zero hz];exact nums_nil16,by rw [hz]⟩
      | true =>
        have hG:=tGet Z u hku (j:Nat) p.comp hge (by rw [hgv];exact hmm)
        rw [hgv] at hG
        (refine rgN<|kmv O<|kmv O<|kfa O O ?_;refine kl1 O O O<|aQ O O bY (by omega) hpo dN<|bG O O dN ?_;refine aV O (hZ _ _ hPX) O hp1 dN<|bD [(1000000,500),(1000001,603)] (.tup [.one (.slc 603 0 p.val.length 3),Sn .i64 0]) [tB 500 (u),nmsB 603 p.val true] (hG) O O (by exact (cM ⟨_,O,O⟩ trivial)) (by exact (bR O O)) O O O O (by exact (.box O O (.box O (bW _ _ _ _) .nil))) dN<|kmv O<|kex O O<|kex O O<|kas O<|kas O<|aB ?_)
        refine cA (σ':=⟨[(23,.sv (.one (.slc 603 0 p.val.length 3))),(24,Ln .i64 0),(21,.sv (.one (.val (.slice pd r'.p.length pc)))),(20,Ln .i64 (j:Nat)),(2,.sv (.one (.val (.slice (some ⟨ab,ao,none⟩) acs.length acap)))),(7,Lp 500),(8,.sv (.one (.mp 502))),(9,Ln .i64 (i:Nat)),(10,Lp 10),(11,.sv (.one (.val (.slice (some ⟨eb,eo,none⟩) t.l.length ecap))))],[nmsB 603 p.val true,(10,some ⟨64,[.val (.int .i64 a.kind),.val (.int .i64 a.i),.val (.int .u64 (a.e:Nat)),.val (.slice (some ⟨pb,po,none⟩) a.p.length pcap)],false⟩),tB 500 (u),mB 502 (m)],Z⟩) (Le.of (by exact ⟨O,O,O,O,O,O,O,O,O,O,trivial⟩) (by exact ⟨O,O,O,O,trivial⟩) (by exact O) (by exact O) (by repeat' (first|refine bR ?_ ?_|rfl|exact bT|exact bS|exact bU O))) ?_
        refine Leads.freeze O (by repeat' (first|refine bR ?_ ?_|rfl|exact bS)) O fun blk c2 arr fr hn _ _ _ hsp => ?_
        exact Leads.here (σ':=⟨[(23,.sv (.one (.val (.slice (some ⟨blk,0,none⟩) p.val.length c2)))),(24,Ln .i64 0),(21,.sv (.one (.val (.slice pd r'.p.length pc)))),(20,Ln .i64 (j:Nat)),(2,.sv (.one (.val (.slice (some ⟨ab,ao,none⟩) acs.length acap)))),(7,Lp 500),(8,.sv (.one (.mp 502))),(9,Ln .i64 (i:Nat)),(10,Lp 10),(11,.sv (.one (.val (.slice (some ⟨eb,eo,none⟩) t.l.length ecap))))],[(10,some ⟨64,[.val (.int .i64 a.kind),.val (.int .i64 a.i),.val (.int .u64 (a.e:Nat)),.val (.slice (some ⟨pb,po,none⟩) a.p.length pcap)],false⟩),tB 500 (u),mB 502 (m)],withBlock Z blk (.cells arr 82 fr)⟩) (Le.of (by exact ⟨O,O,O,O,O,O,O,O,O,O,trivial⟩) (by exact ⟨O,O,O,trivial⟩) (by exact O) (by exact O) (by repeat' (first|refine bR ?_ ?_|rfl|exact bT|exact bS|exact bU O))) ⟨_,some ⟨blk,0,none⟩,c2,cF hn,nms_in (cJ _ _ _) hN.in2 hsp,O⟩
    rintro σ ⟨W,wd,wc,hW,hNw,rfl⟩
    have hPW:=hW _ _ (hZ _ _ hPX)
    have hV:=values16 W p.val p.val wd vad wc vcap hNw ⟨hNv.rows.mono hW,hNv.in2⟩ hpb true (cL rfl)
    have hEW:=hW _ _ (hZ _ _ hEX)
    have hI3:=hI1.mono (fun b o h=>hW b o (hZ b o h)) (Nat.le_succ i)
    obtain ⟨m2,hput,hI2⟩:=hI3.set (r':=r') (pad:=pd) (cap:=pc) hrj hre (parts_mono hW hPq)
    rw [← hsl] at hI2
    (refine aA<|aA<|rgN<|kmv O<|kne O O (r:=false) O<|kmv O<|gmv O O O<|aM O O (dO O O) ?_;refine aN O O O (dO O O) ?_;refine aQ O O bY (by omega) hpo (dO O O) ?_;refine bG O O (dO O O) ?_;refine aV O hPW O hp2 (dO O O) ?_;refine gca O O hV O O<|aU O O (dO O O) ?_;refine kpf O O<|aB<|aE O ?_;refine aG ?_;refine rgN<|kmv O<|kmv O<|kmv O<|aQ O O bY (by omega) hjo dN<|aV O hEW O hEJ dN<|kmv O<|K.mapUpdate (kt:=37) (et:=43) m2 O O O O (by kernel_rfl) (KL.int (q:=.u64) (by kernel_rfl)) (key16 hjs) hput dN ?_;refine aB ?_)
    exact Leads.here (σ':=⟨[(2,.sv (.one (.val (.slice (some ⟨ab,ao,none⟩) acs.length acap)))),(7,Lp 500),(8,.sv (.one (.mp 502))),(9,Ln .i64 (i:Nat))],[tB 500 (u),mB 502 (m2)],W⟩) (Le.of (by exact ⟨O,O,O,O,trivial⟩) (by exact ⟨O,O,trivial⟩) (by exact O) (by exact O) (by repeat' (first|refine bR ?_ ?_|rfl|exact bT|exact bS|exact bU O))) ⟨u,m2,W,hku,hI2,fun b o h=>hW b o (hZ b o (hXY1 b o h)),O⟩
  rintro σ ⟨u,m2,Z,hku,hIZ,hXZ,rfl⟩
  clear hI1 hXY1 hP1 hroom hmost hkt hE
  clear Y1 t
  have hroom:=hku.room
  have hmost:=hku.most
  repeat refine aA ?_
  refine LWP.meetL (fun σ=>∃ (W:Nat→Option Obj) (ead:Option Addr) (ecap:Nat),(∀ b o,Z b=some o→W b=some o)∧EnIn W ead (entsT u)∧σ=⟨[(2,.sv (.one (.val (.slice (some ⟨ab,ao,none⟩) acs.length acap)))),(7,Lp 500),(8,.sv (.one (.mp 502))),(9,Ln .i64 (i:Nat)),(11,.sv (.one (.val (.slice ead u.l.length ecap))))],[tB 500 (u),mB 502 (m2)],W⟩) ?_ ?_
  · refine LWP.le (σ':=⟨[(2,.sv (.one (.val (.slice (some ⟨ab,ao,none⟩) acs.length acap)))),(7,Lp 500),(8,.sv (.one (.mp 502))),(9,Ln .i64 (i:Nat))],[tB 500 (u),mB 502 (m2)],Z⟩) (Le.of (by exact ⟨O,O,O,O,trivial⟩) (by exact ⟨O,O,trivial⟩) (by exact O) (by exact O) (by repeat' (first|refine bR ?_ ?_|rfl|exact bT|exact bS|exact bU O))) ?_
    refine tab_made fun mm hmm => ?_
    cases mm with
    | false =>
      have hE:=tEnts_none Z u hku
      have hz:u.l.length=0:=by rw [hmm rfl];rfl
      (refine rgN<|kmv O<|aT [(1000000,500)] [tM 500 false (u)] (hE) O O (by exact (cM ⟨_,O,O⟩ trivial)) (by exact (bR O O)) O O O O (by exact (.box O O .nil)) dN<|kas O<|aB ?_)
      refine cA (σ':=⟨[(2,.sv (.one (.val (.slice (some ⟨ab,ao,none⟩) acs.length acap)))),(7,Lp 500),(8,.sv (.one (.mp 502))),(9,Ln .i64 (i:Nat)),(11,.sv (.one (.val (.slice none 0 0))))],[tM 500 false (u),mB 502 (m2)],Z⟩) (Le.of (by exact ⟨O,O,O,O,O,trivial⟩) (by exact ⟨O,O,trivial⟩) (by exact O) (by exact O) (by repeat' (first|refine bR ?_ ?_|rfl|exact bT|exact bS|exact bU O))) ?_
      refine cA Le.unmade ?_
      exact Leads.here (σ':=⟨[(2,.sv (.one (.val (.slice (some ⟨ab,ao,none⟩) acs.length acap)))),(7,Lp 500),(8,.sv (.one (.mp 502))),(9,Ln .i64 (i:Nat)),(11,.sv (.one (.val (.slice none 0 0))))],[tB 500 (u),mB 502 (m2)],Z⟩) (Le.of (by exact ⟨rfl,rfl,rfl,rfl,rfl,trivial⟩) (by exact ⟨rfl,rfl,trivial⟩) (by exact rfl) (by exact rfl) (by repeat' (first|refine bR ?_ ?_|rfl|exact bT|exact bS|exact bU rfl))) ⟨Z,none,0,fun _ _ h=>h,by rw [List.eq_nil_of_length_eq_zero (show (entsT u).length=0 by unfold entsT;rw [cT];exact hz)];exact EnIn.nil,by rw [hz]⟩
    | true =>
      have hE:=tEnts Z u hku
      (refine rgN<|kmv O<|bD [(1000000,500),(1000001,601)] (.sv (.one (.slc 601 0 u.l.length 1))) [tM 500 true (u),enB 601 (entsT u)] (hE) O O (by exact (cM ⟨_,O,O⟩ trivial)) (by exact (bR O O)) O O O O (by exact (.box O O (.box O (bW _ _ _ _) .nil))) dN<|kas O<|aB ?_)
      refine cA (σ':=⟨[(11,.sv (.one (.slc 601 0 u.l.length 1))),(2,.sv (.one (.val (.slice (some ⟨ab,ao,none⟩) acs.length acap)))),(7,Lp 500),(8,.sv (.one (.mp 502))),(9,Ln .i64 (i:Nat))],[enB 601 (entsT u),tM 500 true (u),mB 502 (m2)],Z⟩) (Le.of (by exact ⟨O,O,O,O,O,trivial⟩) (by exact ⟨O,O,O,trivial⟩) (by exact O) (by exact O) (by repeat' (first|refine bR ?_ ?_|rfl|exact bT|exact bS|exact bU O))) ?_
      refine Leads.freeze O (by repeat' (first|refine bR ?_ ?_|rfl|exact bS)) O fun blk c2 arr fr hn _ _ _ hsp => ?_
      refine cA (σ':=⟨[(2,.sv (.one (.val (.slice (some ⟨ab,ao,none⟩) acs.length acap)))),(7,Lp 500),(8,.sv (.one (.mp 502))),(9,Ln .i64 (i:Nat)),(11,.sv (.one (.val (.slice (some ⟨blk,0,none⟩) u.l.length c2))))],[tM 500 true (u),mB 502 (m2)],withBlock Z blk (.cells arr 37 fr)⟩) (Le.of (by exact ⟨O,O,O,O,O,trivial⟩) (by exact ⟨O,O,trivial⟩) (by exact O) (by exact O) (by repeat' (first|refine bR ?_ ?_|rfl|exact bT|exact bS|exact bU O))) ?_
      refine cA Le.unmade ?_
      exact Leads.here (σ':=⟨[(2,.sv (.one (.val (.slice (some ⟨ab,ao,none⟩) acs.length acap)))),(7,Lp 500),(8,.sv (.one (.mp 502))),(9,Ln .i64 (i:Nat)),(11,.sv (.one (.val (.slice (some ⟨blk,0,none⟩) u.l.length c2))))],[tB 500 (u),mB 502 (m2)],withBlock Z blk (.cells arr 37 fr)⟩) (Le.of (by exact ⟨O,O,O,O,O,trivial⟩) (by exact ⟨O,O,trivial⟩) (by exact O) (by exact O) (by repeat' (first|refine bR ?_ ?_|rfl|exact bT|exact bS|exact bU O))) ⟨_,some ⟨blk,0,none⟩,c2,cF hn,en_block (cJ _ _ _) hsp,O⟩
  rintro σ ⟨W,ead,ecap,hW,hE,rfl⟩
  have hI:=hIZ.mono hW (dJ (i+1))
  have hXW:∀ b o,X b=some o→W b=some o:=fun b o h=>hW b o (hXZ b o h)
  (refine aA<|aA<|rgN<|kmv O<|aP O bY O dN ?_;refine kmv O<|K.lenMap (kt:=37) (et:=43) O O (by kernel_rfl) (by rw [hI.len]) dN ?_;refine kne O O (r:=false) (cO O)<|aB<|aE O ?_;refine aG ?_;refine aA<|rgN<|kas O<|aB<|aF ?_)
  repeat refine aA ?_
  refine cH (fun z σ=>∃ k:Nat,k≤u.l.length∧z=u.l.length-k∧σ=⟨[(2,.sv (.one (.val (.slice (some ⟨ab,ao,none⟩) acs.length acap)))),(7,Lp 500),(8,.sv (.one (.mp 502))),(9,Ln .i64 (i:Nat)),(11,.sv (.one (.val (.slice ead u.l.length ecap)))),(25,Ln .i64 (k:Nat))],[tB 500 (u),mB 502 (m2)],W⟩) u.l.length
    (cA (σ':=⟨[(2,.sv (.one (.val (.slice (some ⟨ab,ao,none⟩) acs.length acap)))),(7,Lp 500),(8,.sv (.one (.mp 502))),(9,Ln .i64 (i:Nat)),(11,.sv (.one (.val (.slice ead u.l.length ecap)))),(25,Ln .i64 (0:Nat))],[tB 500 (u),mB 502 (m2)],W⟩) (Le.of (by exact ⟨rfl,rfl,rfl,rfl,rfl,rfl,trivial⟩) (by exact ⟨rfl,rfl,trivial⟩) (by exact rfl) (by exact rfl) (by repeat' (first|refine bR ?_ ?_|rfl|exact bT|exact bS|exact bU rfl))) (bZ ⟨0,by omega,by omega,rfl⟩)) ?_
  rintro z σ ⟨k,hkk,rfl,rfl⟩
  by_cases hkl:k<u.l.length
  case neg =>
    (refine aA<|aA<|rgN<|kmv O<|kmv O<|aP O bY O dN ?_;refine klt O O (cK (by omega))<|aB<|aE O ?_;refine aI<|rgN<|kmv O<|kad O O hadd<|kas O<|aB ?_)
    exact cA (σ':=⟨[(2,.sv (.one (.val (.slice (some ⟨ab,ao,none⟩) acs.length acap)))),(7,Lp 500),(8,.sv (.one (.mp 502))),(9,Ln .i64 (i+1:Nat))],[tB 500 (u),mB 502 (m2)],W⟩) (Le.of (by exact ⟨O,O,O,O,trivial⟩) (by exact ⟨O,O,trivial⟩) (by exact O) (by exact O) (by repeat' (first|refine bR ?_ ?_|rfl|exact bT|exact bS|exact bU O))) (bZ ⟨acs.length-(i+1),by omega,i+1,u,m2,W,by omega,O,hku,hI,hXW,O⟩)
  obtain ⟨r,hr⟩:∃ r,u.l[k]? = some r:=⟨_,cU hkl⟩
  have haddk:IntKind.i64.wrap (((k:Nat):Int)+1)=((k+1:Nat):Int):=by rw [cE (by omega)];omega
  (refine aA<|aA<|rgN<|kmv O<|kmv O<|aP O bY O dN ?_;refine klt O O (cL (by omega))<|aB<|aD O ?_;refine aG ?_;refine aA<|aF<|aA ?_)
  repeat refine aA ?_
  refine LWP.meetL (fun σ=>∃ (V:Nat→Option Obj) (pd:Option Addr) (pc:Nat),(∀ b o,W b=some o→V b=some o)∧PartsIn V pd r.p∧σ=⟨[(26,.sv (.one (.val (.slice pd r.p.length pc)))),(27,Ln .i64 0),(2,.sv (.one (.val (.slice (some ⟨ab,ao,none⟩) acs.length acap)))),(7,Lp 500),(8,.sv (.one (.mp 502))),(9,Ln .i64 (i:Nat)),(11,.sv (.one (.val (.slice ead u.l.length ecap)))),(25,Ln .i64 (k:Nat))],[tB 500 (u),mB 502 (m2)],V⟩) ?_ ?_
  · cases hmm:tMade r.p.length with
    | false =>
      have hP:=tParts_none W u hku k r hr hmm
      have hz:=tMade_zero hmm
      (refine rgN<|kmv O<|kmv O<|aT [(1000000,500)] [tB 500 (u)] (hP) O O (by exact (cM ⟨_,O,O⟩ trivial)) (by exact (bR O O)) O O O O (by exact (.box O O .nil)) dN<|kmv O<|kex O O<|kex O O<|kas O<|kas O<|aB ?_)
      exact Leads.here (σ':=⟨[(26,.sv (.one (.val (.slice none 0 0)))),(27,Ln .i64 0),(2,.sv (.one (.val (.slice (some ⟨ab,ao,none⟩) acs.length acap)))),(7,Lp 500),(8,.sv (.one (.mp 502))),(9,Ln .i64 (i:Nat)),(11,.sv (.one (.val (.slice ead u.l.length ecap)))),(25,Ln .i64 (k:Nat))],[tB 500 (u),mB 502 (m2)],W⟩) (Le.of (by exact ⟨rfl,rfl,rfl,rfl,rfl,rfl,rfl,rfl,trivial⟩) (by exact ⟨rfl,rfl,trivial⟩) (by exact rfl) (by exact rfl) (by repeat' (first|refine bR ?_ ?_|rfl|exact bT|exact bS|exact bU rfl))) ⟨W,none,0,fun _ _ h=>h,by rw [List.eq_nil_of_length_eq_zero hz];exact parts_nil16,by rw [hz]⟩
    | true =>
      have hP:=tParts W u hku k r hr hmm
      (refine rgN<|kmv O<|kmv O<|bD [(1000000,500),(1000001,602)] (.tup [.one (.slc 602 0 r.p.length 2),Sn .i64 0]) [tB 500 (u),prtB 602 r.p] (hP) O O (by exact (cM ⟨_,O,O⟩ trivial)) (by exact (bR O O)) O O O O (by exact (.box O O (.box O O .nil))) dN<|kmv O<|kex O O<|kex O O<|kas O<|kas O<|aB ?_)
      refine cA (σ':=⟨[(26,.sv (.one (.slc 602 0 r.p.length 2))),(27,Ln .i64 0),(2,.sv (.one (.val (.slice (some ⟨ab,ao,none⟩) acs.length acap)))),(7,Lp 500),(8,.sv (.one (.mp 502))),(9,Ln .i64 (i:Nat)),(11,.sv (.one (.val (.slice ead u.l.length ecap)))),(25,Ln .i64 (k:Nat))],[prtB 602 r.p,tB 500 (u),mB 502 (m2)],W⟩) (Le.of (by exact ⟨O,O,O,O,O,O,O,O,trivial⟩) (by exact ⟨O,O,O,trivial⟩) (by exact O) (by exact O) (by repeat' (first|refine bR ?_ ?_|rfl|exact bT|exact bS|exact bU O))) ?_
      refine Leads.fixRes O (by repeat' (first|refine bR ?_ ?_|rfl|exact bS)) O fun ρ H pc0 hR hO _ _ => ?_
      exact bZ ⟨joinM W H,some ⟨ρ.1,0,none⟩,pc0,fun _ _ h=>joinM_has hO h,parts_mono (fun _ _ h=>joinM_in h) hR.2,O⟩
  rintro σ ⟨V,pd,pc,hV,hPq,rfl⟩
  obtain ⟨eb,eo,earr,eel,efr,rfl,hEX,hEJ⟩:=hE.at_ k r.e (entsT_at hr)
  have hEV:=hV _ _ hEX
  have hko:eo+Int.toNat ((k:Nat):Int)*1=eo+k*1:=by simp
  obtain ⟨wd,wc,hat,hQ⟩:=hI.at (cZ hr)
  have hQV:=parts_mono hV hQ
  have hrs:r.e<18446744073709551616:=((hku.rows r (cZ hr)).e).2
  have hrl:r.p.length≤24:=by rw [(hku.rows r (cZ hr)).len];exact ids_le _
  (refine aA<|rgN<|kmv O<|kmv O<|kmv O<|aQ O O bY (by omega) hko dN<|aV O hEV O hEJ dN<|K.lookup (kt:=37) (et:=43) (v:=.slice wd r.p.length wc) (z:=.slice none 0 0) O O O (by kernel_rfl) (KL.int (q:=.u64) (by kernel_rfl)) (key16 hrs) (by kernel_rfl) hat dN ?_;refine kas O<|aB<|aA<|aA<|rgN<|kmv O<|aP O bY O dN ?_;refine kmv O<|aP O bY O dN ?_;refine kne O O (r:=false) (cO O)<|aB<|aE O ?_;refine aG ?_;refine aA<|rgN<|kas O<|aB<|aF ?_)
  repeat refine aA ?_
  refine cH (fun z σ=>∃ q:Nat,q≤r.p.length∧z=r.p.length-q∧σ=⟨[(2,.sv (.one (.val (.slice (some ⟨ab,ao,none⟩) acs.length acap)))),(7,Lp 500),(8,.sv (.one (.mp 502))),(9,Ln .i64 (i:Nat)),(11,.sv (.one (.val (.slice (some ⟨eb,eo,none⟩) u.l.length ecap)))),(25,Ln .i64 (k:Nat)),(26,.sv (.one (.val (.slice pd r.p.length pc)))),(28,.sv (.one (.val (.slice wd r.p.length wc)))),(29,Ln .i64 (q:Nat))],[tB 500 (u),mB 502 (m2)],V⟩) r.p.length
    (cA (σ':=⟨[(2,.sv (.one (.val (.slice (some ⟨ab,ao,none⟩) acs.length acap)))),(7,Lp 500),(8,.sv (.one (.mp 502))),(9,Ln .i64 (i:Nat)),(11,.sv (.one (.val (.slice (some ⟨eb,eo,none⟩) u.l.length ecap)))),(25,Ln .i64 (k:Nat)),(26,.sv (.one (.val (.slice pd r.p.length pc)))),(28,.sv (.one (.val (.slice wd r.p.length wc)))),(29,Ln .i64 (0:Nat))],[tB 500 (u),mB 502 (m2)],V⟩) (Le.of (by exact ⟨rfl,rfl,rfl,rfl,rfl,rfl,rfl,rfl,rfl,trivial⟩) (by exact ⟨rfl,rfl,trivial⟩) (by exact rfl) (by exact rfl) (by repeat' (first|refine bR ?_ ?_|rfl|exact bT|exact bS|exact bU rfl))) (bZ ⟨0,by omega,by omega,rfl⟩)) ?_
  rintro z σ ⟨q,hq,rfl,rfl⟩
  by_cases hql:q<r.p.length
  case neg =>
    (refine aA<|aA<|rgN<|kmv O<|kmv O<|aP O bY O dN ?_;refine klt O O (cK (by omega))<|aB<|aE O ?_;refine aI<|rgN<|kmv O<|kad O O haddk<|kas O<|aB ?_)
    refine cA (σ':=⟨[(2,.sv (.one (.val (.slice (some ⟨ab,ao,none⟩) acs.length acap)))),(7,Lp 500),(8,.sv (.one (.mp 502))),(9,Ln .i64 (i:Nat)),(11,.sv (.one (.val (.slice (some ⟨eb,eo,none⟩) u.l.length ecap)))),(25,Ln .i64 (k+1:Nat))],[tB 500 (u),mB 502 (m2)],V⟩) (Le.of (by exact ⟨O,O,O,O,O,O,trivial⟩) (by exact ⟨O,O,trivial⟩) (by exact O) (by exact O) (by repeat' (first|refine bR ?_ ?_|rfl|exact bT|exact bS|exact bU O))) ?_
    exact cA (Le.drop hV) (bZ ⟨u.l.length-(k+1),by omega,k+1,by omega,O,O⟩)
  obtain ⟨p,hp⟩:∃ p,r.p[q]? = some p:=⟨_,cU hql⟩
  obtain ⟨pb,po,parr,pel,pfr,vad,vcap,rfl,hPX,_,_,p1,p2,hN1⟩:=hPq.get hp
  obtain ⟨qb,qo,qarr,qel,qfr,uad,ucap,rfl,hQX,_,_,q1,q2,hN2⟩:=hQV.get hp
  have hpo:po+Int.toNat ((q:Nat):Int)*2=po+q*2:=by simp
  have hqo:qo+Int.toNat ((q:Nat):Int)*2=qo+q*2:=by simp
  have haddq:IntKind.i64.wrap (((q:Nat):Int)+1)=((q+1:Nat):Int):=by rw [cE (by omega)];omega
  have hVa:=values16 V p.val p.val vad uad vcap ucap hN1 hN2 (row_big hku (cZ hr) (cZ hp)) true (cL rfl)
  (refine aA<|aA<|rgN<|kmv O<|kmv O<|aP O bY O dN ?_;refine klt O O (cL (by omega))<|aB<|aD O ?_;refine aG ?_;refine aA<|aF<|aA<|rgD mixed<|kmv O<|kmv O<|aQ O O bY (by omega) hpo dN<|bG O O dN ?_;refine aV O hPX O p1 dN<|kmv O<|kmv O<|aQ O O bY (by omega) hqo dN<|bG O O dN ?_;refine aV O hQX O q1 dN<|kne O O (r:=false) (cO O)<|kmv O<|gmv O O O<|gmv O O O<|aQ O O bY (by omega) hpo (dO O O) ?_;refine bG O O (dO O O) ?_;refine aV O hPX O p2 (dO O O) ?_;refine gmv O O O<|gmv O O O<|aQ O O bY (by omega) hqo (dO O O) ?_;refine bG O O (dO O O) ?_;refine aV O hQX O q2 (dO O O) ?_;refine gca O O hVa O O<|aU O O (dO O O) ?_;refine kpf O O<|aB<|rgA ?_;refine aE O ?_;refine aG ?_;refine rgN<|kmv O<|kad O O haddq<|kas O<|aB ?_)
  exact cA (σ':=⟨[(2,.sv (.one (.val (.slice (some ⟨ab,ao,none⟩) acs.length acap)))),(7,Lp 500),(8,.sv (.one (.mp 502))),(9,Ln .i64 (i:Nat)),(11,.sv (.one (.val (.slice (some ⟨eb,eo,none⟩) u.l.length ecap)))),(25,Ln .i64 (k:Nat)),(26,.sv (.one (.val (.slice (some ⟨pb,po,none⟩) r.p.length pc)))),(28,.sv (.one (.val (.slice (some ⟨qb,qo,none⟩) r.p.length wc)))),(29,Ln .i64 (q+1:Nat))],[tB 500 (u),mB 502 (m2)],V⟩) (Le.of (by exact ⟨O,O,O,O,O,O,O,O,O,trivial⟩) (by exact ⟨O,O,trivial⟩) (by exact O) (by exact O) (by repeat' (first|refine bR ?_ ?_|rfl|exact bT|exact bS|exact bU O))) (bZ ⟨r.p.length-(q+1),by omega,q+1,by omega,O,O⟩)
end Go.Proofs.YtbpdbclndfmcgaaGreatDoor
end
