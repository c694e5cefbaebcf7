/- A piece of a proof over this program: contracts of its functions, and a logic to prove them by. -/
import Derived.Test.YtopiioklkkiedaaGreatDoorW6a
section
set_option maxHeartbeats 12800000
set_option maxRecDepth 100000
namespace Go.Proofs.YtopiioklkkiedaaGreatDoor
open Go Go.Lg Go.Lg.Fml Go.Lg.Fld Go.Lg.Arith Go.Lg.Sg
set_option maxRecDepth 100000
variable (X:Nat→Option Obj)
def nmsV (a:List Nm):List Value:=(a.map nmV).flatten
theorem nmsV_len (a:List Nm):((nmsV a).map CV.val).length=a.length*3:=by
 unfold nmsV
 rw [cX]
 induction a with
 | nil=>rfl
 | cons x t ih=>simp only [List.map_cons,List.flatten_cons,cW,dJ,ih,nmV,dP];omega
theorem nmsV_snoc (a:List Nm) (u:Nm):(nmsV a).map CV.val++[CV.val (.bool u.1),.val (.int .u64 (u.2/18446744073709551616)),.val (.int .u64 (u.2%18446744073709551616))]=(nmsV (a++[u])).map CV.val:=by
 unfold nmsV
 rw [dI,List.flatten_append,dI]
 rfl
theorem nms_in {Y:Nat→Option Obj} {blk:Nat} {arr:Array Value} {el:TypeId} {fr:Nat×Nat} {a:List Nm} (hY:Y blk=some (.cells arr el fr)) (hi:∀ u∈a,In2 u.2) (hsp:∃ sp,arr.toList=nmsV a++sp):NumsIn Y (some ⟨blk,0,none⟩) a:=
 ⟨rows_in hY (fun r hr=>by obtain ⟨x,_,rfl⟩:=List.mem_map.1 hr;rfl) hsp,hi⟩
theorem node_lent {S:Nat→Option (Option Box)} {k:Nat} {a:List Nm} {el:TypeId} {row:Bool} {op:Int} (hl:a.length=takes op) (hpos:0<takes op) (hi:∀ u∈a,In2 u.2) (hk:S k=some (some ⟨el,(nmsV a).map .val,row⟩)):
  ∀ (Y:Nat→Option Obj) (us:List Value),(∀ b o,X b=some o→Y b=some o)→Lent S Y [Ln .i64 op,.sv (.one (.slc k 0 a.length 3))] us→PSpec Tryz.prog Y 112 (us.map toLV) (exR (nodeX op a)):=by
 intro Y us hY hL
 obtain ⟨u1,us1,rfl,h1,u2,us2,rfl,h2,rfl⟩:=hL
 have h1:u1 = .int .i64 op:=h1
 subst h1
 obtain ⟨el',cells,row',hk',blk,cap2,arr,fr,us',sp,rfl,hYb,hc,hfit,harr,hv⟩:=h2
 rw [hk] at hk'
 simp only [Option.some.injEq,Box.mk.injEq] at hk'
 obtain ⟨rfl,rfl,rfl⟩:=hk'
 have:=hv (nmsV a) rfl
 subst this
 exact rNode_spec Y op a hl hpos (some ⟨blk,0,none⟩) cap2 (nms_in hYb hi ⟨sp,harr⟩)
theorem leaf_tree {t:Tr} (ht:t.ok) (h0:takes t.top.op=0) (fs:List (List Nm)) (at_:Int):t.ev (oneX fs at_)=leafX fs at_ t.top:=by
 obtain ⟨h1,_⟩:=ok_args ht
 rw [ev_args,show t.args=[] from List.eq_nil_of_length_eq_zero (by omega)]
 show oneX fs at_ t.top []=_
 unfold oneX
 rw [if_pos h0]
theorem node_tree {t:Tr} (h0:takes t.top.op≠0) (fs:List (List Nm)) (at_:Int) {vs:List Nm} (hv:evL (oneX fs at_) t.args = .ok vs):t.ev (oneX fs at_)=nodeX t.top.op vs:=by
 rw [ev_args,hv]
 show oneX fs at_ t.top vs=_
 unfold oneX
 rw [if_neg h0]
theorem fail_tree {t:Tr} (fs:List (List Nm)) (at_:Int) {e:Int} (hv:evL (oneX fs at_) t.args = .error e):t.ev (oneX fs at_) = .error e:=by
 rw [ev_args,hv]
theorem qn_in2 {z:Int} (h:R127 z):In2 (qn z).2:=mg_in2 h
theorem elem_mem {fs:List (List Nm)} {a b:Int} {v:Nm} (h:elemX fs a b = .ok v):∃ r∈fs,v∈r:=by
 unfold elemX at h
 by_cases h0:a<0∨b<0
 ·rw [if_pos h0] at h;cases h
 ·rw [if_neg h0] at h
  cases hr:fs[a.toNat]? with
  | none=>rw [hr] at h;cases h
  | some r =>
   rw [hr] at h
   simp only at h
   cases hu:r[b.toNat]? with
   | none=>rw [hu] at h;cases h
   | some u =>
    rw [hu] at h
    cases h
    exact ⟨r,dE hr,dE hu⟩
theorem leaf_in2 {fs:List (List Nm)} {at_:Int} {x:Ins} {v:Nm} (hf:∀ r∈fs,∀ u∈r,In2 u.2) (hx:In2 x.k.2) (hat:at_<9223372036854775808) (h:leafX fs at_ x = .ok v):In2 v.2:=by
 unfold leafX at h
 by_cases h1:x.op=1
 ·rw [if_pos h1] at h;cases h;exact hx
 ·rw [if_neg h1] at h
  by_cases h4:x.op=4
  ·rw [if_pos h4] at h
   by_cases h0:at_<0
   ·rw [if_pos h0] at h;cases h
   ·rw [if_neg h0] at h
    cases h
    show 0≤at_∧at_<_
    omega
  ·rw [if_neg h4] at h
   obtain ⟨r,hr,hv⟩:=elem_mem h
   exact hf r hr _ hv
theorem truth_in2 (b:Bool):In2 (truth b).2:=by
 unfold truth In2
 cases b<;>decide
theorem do_in2 {op:Int} {x y v:Nm} (h:doX op x y = .ok v):In2 v.2:=by
 unfold doX at h
 split at h
 ·cases h
 ·split at h
  ·cases h
  ·split at h
   ·rename_i hr;cases h;exact qn_in2 hr
   ·cases h
theorem node_in2 {op:Int} {a:List Nm} {v:Nm} (ha:∀ u∈a,In2 u.2) (h:nodeX op a = .ok v):In2 v.2:=by
 match a,ha with
 | [x],ha =>
  simp only [nodeX] at h
  split at h
  ·cases h
  ·split at h
   ·rename_i hg _
    cases h
    have:=(zv_in (ha x V21) (by simpa [gd] using hg)).1
    exact qn_in2 (by unfold R127 at *;show -_ < -(zz x) ∧ -(zz x)<_;unfold zz;omega)
   ·cases h;exact truth_in2 _
 | [x,y],ha =>
  simp only [nodeX] at h
  repeat' (split at h)
  all_goals first
   | (cases h;done)
   | exact do_in2 h
   | (cases h;first|exact truth_in2 _|exact ha _ V21|(split<;>exact ha _ V21))
 | [x,y,z],ha =>
  simp only [nodeX] at h
  split at h
  ·cases h
  ·cases h;split<;>exact ha _ V21
 | [],ha=>cases h
 | _::_::_::_::_,ha=>cases h
theorem one_in2 {fs:List (List Nm)} {at_:Int} {x:Ins} {a:List Nm} {v:Nm} (hf:∀ r∈fs,∀ u∈r,In2 u.2) (hx:In2 x.k.2) (hat:at_<9223372036854775808) (ha:∀ u∈a,In2 u.2) (h:oneX fs at_ x a = .ok v):In2 v.2:=by
 unfold oneX at h
 split at h
 ·exact leaf_in2 hf hx hat h
 ·exact node_in2 ha h
theorem tree_in2 {fs:List (List Nm)} {at_:Int} (hf:∀ r∈fs,∀ u∈r,In2 u.2) (hat:at_<9223372036854775808):∀ {t:Tr} {v:Nm},(∀ x∈t.flat,In2 x.k.2)→t.ev (oneX fs at_) = .ok v→In2 v.2
 | .n0 x,v,hx,h=>one_in2 hf (hx x (by simp [Tr.flat])) hat (a:=[]) (fun u hu=>by cases hu) h
 | .n1 x a,v,hx,h=>by
  simp only [Tr.ev] at h
  cases ha:a.ev (oneX fs at_) with
  | error e=>rw [ha] at h;cases h
  | ok u =>
   rw [ha] at h
   have h1:=tree_in2 hf hat (fun y hy=>hx y V32) ha
   exact one_in2 hf (hx x (by simp [Tr.flat])) hat (a:=[u]) (fun w hw=>by rw [List.mem_singleton.1 hw];exact h1) h
 | .n2 x a b,v,hx,h=>by
  simp only [Tr.ev] at h
  cases ha:a.ev (oneX fs at_) with
  | error e=>rw [ha] at h;cases h
  | ok u =>
   rw [ha] at h
   simp only at h
   have h1:=tree_in2 hf hat (fun y hy=>hx y V32) ha
   cases hb:b.ev (oneX fs at_) with
   | error e=>rw [hb] at h;cases h
   | ok w =>
    rw [hb] at h
    have h2:=tree_in2 hf hat (fun y hy=>hx y V32) hb
    exact one_in2 hf (hx x (by simp [Tr.flat])) hat (a:=[u,w]) (fun q hq=>by
     simp only [List.mem_cons,List.not_mem_nil,or_false] at hq
     rcases hq with rfl|rfl
     ·exact h1
     ·exact h2) h
 | .n3 x a b c,v,hx,h=>by
  simp only [Tr.ev] at h
  cases ha:a.ev (oneX fs at_) with
  | error e=>rw [ha] at h;cases h
  | ok u =>
   rw [ha] at h
   simp only at h
   have h1:=tree_in2 hf hat (fun y hy=>hx y V32) ha
   cases hb:b.ev (oneX fs at_) with
   | error e=>rw [hb] at h;cases h
   | ok w =>
    rw [hb] at h
    simp only at h
    have h2:=tree_in2 hf hat (fun y hy=>hx y V32) hb
    cases hc:c.ev (oneX fs at_) with
    | error e=>rw [hc] at h;cases h
    | ok s =>
     rw [hc] at h
     have h3:=tree_in2 hf hat (fun y hy=>hx y V32) hc
     exact one_in2 hf (hx x (by simp [Tr.flat])) hat (a:=[u,w,s]) (fun q hq=>by
      simp only [List.mem_cons,List.not_mem_nil,or_false] at hq
      rcases hq with rfl|rfl|rfl
      ·exact h1
      ·exact h2
      ·exact h3) h
theorem arg_mem {t:Tr} {a:Tr} (h:a∈t.args):∀ x∈a.flat,x∈t.flat:=fun x hx=>by
 rw [flat_args]
 refine List.mem_append_left _ ?_
 generalize t.args=us at h
 induction us with
 | nil=>cases h
 | cons b us ih =>
  rcases List.mem_cons.1 h with rfl|h
  ·exact List.mem_append_left _ hx
  ·exact List.mem_append_right _ (ih h)
theorem evL_in2 {fs:List (List Nm)} {at_:Int} (hf:∀ r∈fs,∀ u∈r,In2 u.2) (hat:at_<9223372036854775808):∀ {us:List Tr} {vs:List Nm},(∀ a∈us,∀ x∈a.flat,In2 x.k.2)→evL (oneX fs at_) us = .ok vs→∀ v∈vs,In2 v.2
 | [],vs,_,h=>by simp only [evL,Except.ok.injEq] at h;subst h;intro v hv;cases hv
 | a::us,vs,hx,h=>by
  simp only [evL] at h
  cases ha:a.ev (oneX fs at_) with
  | error e=>rw [ha] at h;cases h
  | ok u =>
   rw [ha] at h
   simp only at h
   cases hb:evL (oneX fs at_) us with
   | error e=>rw [hb] at h;cases h
   | ok ws =>
    rw [hb] at h
    simp only [Except.ok.injEq] at h
    subst h
    intro v hv
    rcases List.mem_cons.1 hv with rfl|hv
    ·exact tree_in2 hf hat (hx a V21) ha
    ·exact evL_in2 hf hat (fun b hb x hx'=>hx b (by simp [hb]) x hx') hb v hv
end Go.Proofs.YtopiioklkkiedaaGreatDoor
end
section
set_option maxHeartbeats 12800000
set_option maxRecDepth 100000
namespace Go.Proofs.YtopiioklkkiedaaGreatDoor
open Go Go.Lg Go.Lg.Fml Go.Lg.Fld Go.Lg.Arith Go.Lg.Sg
set_option maxRecDepth 100000
variable (X:Nat→Option Obj)
theorem ends_cell {p i:Nat} {us:List Tr} {a:Tr} (h:us[i]? = some a):((nuV (endsI p us)).map CV.val)[i*1]? = some (.val (.int .i64 ((p+(flatL (us.take (i+1))).length-1:Nat):Int))):=by
 refine nu_at ?_
 unfold endsI
 rw [dM,endsL_at h]
 rfl
set_option maxHeartbeats 6400000 in
theorem rTree_spec (l:List Ins) (ad:Option Addr) (cap:Nat) (hin:InsIn X ad l) (hbig:l.length<1152921504606846976) (hall:∀ x∈l,okI x=true) (fad:Option Addr) (fcap:Nat) (fs:List (List Nm)) (hfs:FssIn X fad fs) (hfl:fs.length<4611686018427387904) (hrl:∀ r∈fs,r.length<4611686018427387904) (hf2:∀ r∈fs,∀ u∈r,In2 u.2) (at_:Int) (hat : -9223372036854775808≤at_∧at_<9223372036854775808):
  ∀ (n:Nat) (t:Tr) (p:Nat) (e:Int),t.flat.length≤n→At l p t→t.ok→e=((p+t.flat.length:Nat):Int)-1 →
   PSpec Tryz.prog X 74 [Lx ad l.length cap,Ln .i64 e,Lx fad fs.length fcap,Ln .i64 at_] (exR (t.ev (oneX fs at_)))
 | 0,t,p,e,hn,_,_,_=>absurd (flat_len t) (by omega)
 | n+1,t,p,e,hn,hA,ht,he=>by
  have hlen:=hA.len
  have h1:=flat_len t
  have hfl2:t.flat.length=(flatL t.args).length+1:=by rw [flat_args];simp
  have hal:=args_le t
  obtain ⟨htop,hoks⟩:=ok_args ht
  have htl:=hA.top
  obtain ⟨blk,off,arr,el,fr,rfl,hX,hsz,hcs,hop⟩:=hin.at htl
  have hT:=rTakes_spec X t.top.op
  have hmem:=dE htl
  have hio:off+Int.toNat e*6=off+(p+t.flat.length-1)*6:=by
   have:Int.toNat e=p+t.flat.length-1:=by omega
   rw [this]
  have hin0:0≤e∧e<(l.length:Nat):=by omega
  by_cases h0:takes t.top.op=0
  ·have hL:=rLeaf_spec X t.top (hin.small _ hmem) (hall _ hmem) h0 fad fcap fs hfs hfl hrl at_ hat
   rw [leaf_tree ht h0]
   rw [h0] at hT
   cases hlv:leafX fs at_ t.top with
   | error e' =>
    rw [hlv] at hL
    refine cF Tryz.func74 rfl (by kernel_rfl) rfl rfl ?_
    intro C
    (refine aA<|rgN<|K.alloc O dS ?_;refine kas O<|RunK.nil<|aA<|aA<|rgN<|kmv O<|kmv O<|K.indexX O O cC hin0 hio dS<|K.fieldAddrX O O dS ?_;refine K.loadX O hX O hop dS<|kca O O (hT)<|keq O O (r:=true) O<|RunK.nil<|LWP.condT O ?_;refine aA<|rgN<|kmv O<|kmv O<|K.indexX O O cC hin0 hio dS<|K.loadXagg O hX (by kernel_rfl) hsz hcs dS<|kmv O<|kmv O<|kca O O (hL)<|kex O O<|kex O O<|K.storeAll O O O O O O dS ?_;refine kas O<|RunK.nil<|LWP.ret ?_)
    exact ⟨[_,_],⟨⟨_,_,O,O,O,.inl ⟨AggT.h,O⟩⟩,O,trivial⟩,O⟩
   | ok v =>
    rw [hlv] at hL
    refine cF Tryz.func74 rfl (by kernel_rfl) rfl rfl ?_
    intro C
    (refine aA<|rgN<|K.alloc O dS ?_;refine kas O<|RunK.nil<|aA<|aA<|rgN<|kmv O<|kmv O<|K.indexX O O cC hin0 hio dS<|K.fieldAddrX O O dS ?_;refine K.loadX O hX O hop dS<|kca O O (hT)<|keq O O (r:=true) O<|RunK.nil<|LWP.condT O ?_;refine aA<|rgN<|kmv O<|kmv O<|K.indexX O O cC hin0 hio dS<|K.loadXagg O hX (by kernel_rfl) hsz hcs dS<|kmv O<|kmv O<|kca O O (hL)<|kex O O<|kex O O<|K.storeAll O O O O O O dS ?_;refine kas O<|RunK.nil<|LWP.ret ?_)
    exact ⟨[_,_],⟨⟨_,_,O,O,O,.inl ⟨AggT.h,O⟩⟩,O,trivial⟩,O⟩
  have hB:=rBranches_spec X l (some ⟨blk,off,none⟩) cap hin hbig hA ht (by omega) e he
  obtain ⟨r,hr⟩:∃ r,exR (t.ev (oneX fs at_))=r:=⟨_,rfl⟩
  have hcl:∃ a b,r = .tup [a,b]∧a.closed=true∧b.closed=true:=by
   subst hr
   cases t.ev (oneX fs at_) with
   | error e'=>exact ⟨_,_,rfl,rfl,rfl⟩
   | ok v=>exact ⟨_,_,rfl,rfl,rfl⟩
  rw [hr]
  refine cF Tryz.func74 rfl (by kernel_rfl) rfl (by obtain ⟨a,b,rfl,ha,hb⟩:=hcl;show (a.closed&&(b.closed&&true))=true;rw [ha,hb];rfl) ?_
  intro C
  clear hcl
  have hEl:=endsI_len p t.args
  rw [hEl] at hB
  (refine aA<|rgN<|K.alloc O dS ?_;refine kas O<|RunK.nil<|aA<|aA<|rgN<|kmv O<|kmv O<|K.indexX O O cC hin0 hio dS<|K.fieldAddrX O O dS ?_;refine K.loadX O hX O hop dS<|kca O O (hT)<|keq O O (r:=false) (cS (by omega))<|RunK.nil<|LWP.condF O ?_;refine LWP.skip ?_;refine aA<|rgN<|kmv O<|kmv O<|bE [(1000001,500)] (.sv (.one (.slc 500 0 t.args.length))) [nuB 500 (endsI p t.args)] (hB) O O (by exact trivial) O O O O O (by exact (.box O (bY _ _ _ _) .nil)) dS<|kas O<|RunK.nil<|aA<|rgN<|aZ (zs:=[]) (sz:=3) (e:=86) (by kernel_rfl) O O O O O O dS<|kas O<|RunK.nil<|aA<|aA ?_;refine rgN<|kas O<|RunK.nil<|LWP.block ?_)
  refine cL (fun m σ=>∃ (i:Nat) (vs:List Nm) (rw_:Bool),i≤t.args.length∧m=t.args.length-i∧evL (oneX fs at_) (t.args.take i) = .ok vs∧σ=⟨[(0,Lx (some ⟨blk,off,none⟩) l.length cap),(1,Ln .i64 e),(2,Lx fad fs.length fcap),(3,Ln .i64 at_),(8,Lp 8),(10,.sv (.one (.slc 500 0 t.args.length))),(11,.sv (.one (.slc 501 0 vs.length 3))),(12,Ln .i64 (i:Nat))],[(8,some ⟨86,[.val (.bool false),.val (.int .u64 0),.val (.int .u64 0)],false⟩),nuB 500 (endsI p t.args),(501,some ⟨86,(nmsV vs).map .val,rw_⟩)],X⟩) t.args.length
   ⟨⟨[(0,Lx (some ⟨blk,off,none⟩) l.length cap),(1,Ln .i64 e),(2,Lx fad fs.length fcap),(3,Ln .i64 at_),(8,Lp 8),(10,.sv (.one (.slc 500 0 t.args.length))),(11,.sv (.one (.slc 501 0 0 3))),(12,Ln .i64 (0:Nat))],[(8,some ⟨86,[.val (.bool false),.val (.int .u64 0),.val (.int .u64 0)],false⟩),nuB 500 (endsI p t.args),(501,some ⟨86,[],false⟩)],X⟩,Le.ofR [(8,8),(500,500),(501,34)] (by exact ⟨rfl,rfl,rfl,rfl,rfl,rfl,rfl,rfl,trivial⟩) (by repeat' (first|exact trivial|refine cR ⟨_,rfl,?_⟩ ?_|refine cR ⟨_,rfl⟩ ?_|rfl|exact Box.ren_bytes _ _ _ _|exact bY _ _ _ _|exact Box.ren_mid rfl)) (by exact rfl) (by exact rfl) (by repeat' (first|refine bT ?_ ?_|rfl|exact bytes_inUse|exact bU|exact mid_inUse rfl)) (by exact rfl) (by exact rfl),0,[],false,by omega,rfl,rfl,rfl⟩ ?_
  rintro m σ ⟨i,vs,rw_,hi,rfl,hvs,rfl⟩
  have hvl:=evL_len hvs
  rw [dA,Nat.min_eq_left hi] at hvl
  have h2vs:=evL_in2 hf2 hat.2 (fun a ha x hx=>(hin.small x (by
   have hxt:=arg_mem (List.mem_of_mem_take ha) x hx
   obtain ⟨pre,suf,e1,_⟩:=hA
   rw [e1]
   exact List.mem_append_right _ (List.mem_append_left _ hxt))).2.2.2) hvs
  by_cases hlt:i<t.args.length
  ·obtain ⟨a,ha⟩:=wg hlt
   obtain ⟨hAa,_⟩:=hA.arg ha
   have hca:=ends_cell (p:=p) ha
   have htk:t.args.take (i+1)=t.args.take i++[a]:=take_snoc ha
   have hft:(flatL (t.args.take (i+1))).length=(flatL (t.args.take i)).length+a.flat.length:=by rw [htk,flatL_app,cW];simp [flatL]
   have hle:(flatL (t.args.take (i+1))).length≤(flatL t.args).length:=by
    conv=>rhs;rw [← List.take_append_drop (i+1) t.args,flatL_app,cW]
    omega
   have ha1:=flat_len a
   have hal2:=hAa.len
   have hrec:=rTree_spec l (some ⟨blk,off,none⟩) cap hin hbig hall fad fcap fs hfs hfl hrl hf2 at_ hat n a (p+(flatL (t.args.take i)).length) (((p+(flatL (t.args.take (i+1))).length-1:Nat):Int)) (by omega) hAa (hoks a (dE ha)) (by omega)
   have hstep:=evL_step hvs ha
   generalize ((p+(flatL (t.args.take (i+1))).length-1:Nat):Int)=v at *
   have hio2:0+Int.toNat (i:Int)*1=i*1:=by simp
   cases hev:a.ev (oneX fs at_) with
   | error e' =>
    rw [hev] at hrec
    have hne:=tree_err (hoks a (dE ha)) hev
    rw [fail_tree fs at_ (evL_fail hvs ha hev)] at hr
    subst hr
    (refine aA<|aA<|rgN<|kmv O<|kmv O<|K.lenSlc O cC O dS ?_;refine klt O O (cP (by omega))<|RunK.nil<|LWP.condT O ?_;refine LWP.skip ?_;refine aA<|LWP.block<|aA<|rgN<|kmv O<|kmv O<|kmv O<|K.indexSlc O O (by omega) hio2 dS ?_;refine kl1 O O hca<|kmv O<|kmv O<|kca O O hrec<|kmv O<|kex O O<|kex O O<|K.alloc O dS ?_;refine K.storeAll O O O O O O dS ?_;refine kas O<|RunK.nil<|aA<|aA<|rgN<|kmv O<|kne O O (cU hne)<|RunK.nil<|LWP.condT O ?_;refine aA<|rgN<|aT O O (by exact O) (by exact nl3 O O O O) dS ?_;refine kmv O<|K.storeAll O O O O O O dS ?_;refine kas O<|RunK.nil<|LWP.ret ?_)
    exact ⟨[_,_],⟨⟨_,_,O,O,O,.inl ⟨AggT.h,O⟩⟩,O,trivial⟩,O⟩
   | ok u =>
    rw [hev] at hrec hstep
    simp only at hstep
    have hadd:IntKind.i64.wrap ((i:Int)+1)=((i+1:Nat):Int):=by rw [cH (by omega)];omega
    have hnl:vs.length+1=(vs++[u]).length:=by rw [cW];rfl
    have hl3:=nmsV_len vs
    have hv3:vs.length≤3:=by omega
    have hnc:=nmsV_snoc vs u
    (refine aA<|aA<|rgN<|kmv O<|kmv O<|K.lenSlc O cC O dS ?_;refine klt O O (cP (by omega))<|RunK.nil<|LWP.condT O ?_;refine LWP.skip ?_;refine aA<|LWP.block<|aA<|rgN<|kmv O<|kmv O<|kmv O<|K.indexSlc O O (by omega) hio2 dS ?_;refine kl1 O O hca<|kmv O<|kmv O<|kca O O hrec<|kmv O<|kex O O<|kex O O<|K.alloc O dS ?_;refine K.storeAll O O O O O O dS ?_;refine kas O<|RunK.nil<|aA<|aA<|rgN<|kmv O<|kne O O (r:=false) O<|RunK.nil<|LWP.condF O ?_;refine LWP.skip ?_;refine rgN<|kmv O<|K.loadAll O O O dS ?_;refine aZ (zs:=[Value.bool false,.int .u64 0,.int .u64 0]) (sz:=3) (e:=86) (cs':=[.val (.bool u.1),.val (.int .u64 (u.2/18446744073709551616)),.val (.int .u64 (u.2%18446744073709551616))]) (by kernel_rfl) O O O O O O dS<|bQ (by_:=24) (e2:=86) (l2:=[.val (.bool u.1),.val (.int .u64 (u.2/18446744073709551616)),.val (.int .u64 (u.2%18446744073709551616))]) (nl:=(vs++[u]).length) (nc:=(nmsV (vs++[u])).map .val) O O hl3 O O (dO _) O O (by kernel_rfl) (by kernel_rfl) (by omega) (by omega) O hnl hnc dS<|kas O<|RunK.nil<|rgN<|kmv O<|kad O O hadd<|kas O<|RunK.nil ?_)
    exact ⟨_,⟨[(0,Lx (some ⟨blk,off,none⟩) l.length cap),(1,Ln .i64 e),(2,Lx fad fs.length fcap),(3,Ln .i64 at_),(8,Lp 8),(10,.sv (.one (.slc 500 0 t.args.length))),(11,.sv (.one (.slc 501 0 (vs++[u]).length 3))),(12,Ln .i64 (i+1:Nat))],[(8,some ⟨86,[.val (.bool false),.val (.int .u64 0),.val (.int .u64 0)],false⟩),nuB 500 (endsI p t.args),(501,some ⟨86,(nmsV (vs++[u])).map .val,true⟩)],X⟩,by omega,Le.ofR [(8,8),(500,500),(501,59)] (by exact ⟨rfl,rfl,rfl,rfl,rfl,rfl,rfl,rfl,trivial⟩) (by repeat' (first|exact trivial|refine cR ⟨_,rfl,?_⟩ ?_|refine cR ⟨_,rfl⟩ ?_|rfl|exact Box.ren_bytes _ _ _ _|exact bY _ _ _ _|exact Box.ren_mid rfl)) (by exact rfl) (by exact rfl) (by repeat' (first|refine bT ?_ ?_|rfl|exact bytes_inUse|exact bU|exact mid_inUse rfl)) (by exact rfl) (by exact rfl),i+1,vs++[u],true,by omega,rfl,hstep,rfl⟩
  ·have e2:i=t.args.length:=by omega
   subst e2
   rw [dG] at hvs
   rw [node_tree h0 fs at_ hvs] at hr
   have hN:=fun S el row hk=>node_lent X (S:=S) (k:=501) (a:=vs) (el:=el) (row:=row) (op:=t.top.op) (by omega) (by omega) h2vs hk
   cases hnv:nodeX t.top.op vs with
   | error e' =>
    rw [hnv] at hr hN
    subst hr
    (refine aA<|aA<|rgN<|kmv O<|kmv O<|K.lenSlc O cC O dS ?_;refine klt O O (cO (by omega))<|RunK.nil<|LWP.condF O ?_;refine LWP.exit<|aA<|rgN<|kmv O<|kmv O<|K.indexX O O cC hin0 hio dS<|K.fieldAddrX O O dS ?_;refine K.loadX O hX O hop dS<|kmv O<|K.callX [501] O O O (hN _ _ _ O) dS ?_;refine kex O O<|kex O O<|K.storeAll O O O O O O dS ?_;refine kas O<|RunK.nil<|LWP.ret ?_)
    exact ⟨[_,_],⟨⟨_,_,O,O,O,.inl ⟨AggT.h,O⟩⟩,O,trivial⟩,O⟩
   | ok v =>
    rw [hnv] at hr hN
    subst hr
    (refine aA<|aA<|rgN<|kmv O<|kmv O<|K.lenSlc O cC O dS ?_;refine klt O O (cO (by omega))<|RunK.nil<|LWP.condF O ?_;refine LWP.exit<|aA<|rgN<|kmv O<|kmv O<|K.indexX O O cC hin0 hio dS<|K.fieldAddrX O O dS ?_;refine K.loadX O hX O hop dS<|kmv O<|K.callX [501] O O O (hN _ _ _ O) dS ?_;refine kex O O<|kex O O<|K.storeAll O O O O O O dS ?_;refine kas O<|RunK.nil<|LWP.ret ?_)
    exact ⟨[_,_],⟨⟨_,_,O,O,O,.inl ⟨AggT.h,O⟩⟩,O,trivial⟩,O⟩
set_option maxHeartbeats 3200000 in
theorem rEval_spec (l:List Ins) (ad:Option Addr) (cap:Nat) (hin:InsIn X ad l) (hbig:l.length<1152921504606846976) (fad:Option Addr) (fcap:Nat) (fs:List (List Nm)) (hfs:FssIn X fad fs) (hfl:fs.length<4611686018427387904) (hrl:∀ r∈fs,r.length<4611686018427387904) (hf2:∀ r∈fs,∀ u∈r,In2 u.2) (at_:Int) (hat : -9223372036854775808≤at_∧at_<9223372036854775808):
  PSpec Tryz.prog X 39 [Lx ad l.length cap,Lx fad fs.length fcap,Ln .i64 at_] (exR (evX l fs at_)):=by
 have hC:=rCheck11 X l ad cap hin V3
 by_cases hz:chkX l=0
 ·obtain ⟨t,ht,hl⟩:=parse (chkX_zero hz).2
  have hA:At l 0 t:=⟨[],[],by rw [← hl];simp,rfl⟩
  have hT:=rTree_spec X l ad cap hin hbig (chkX_ok hz) fad fcap fs hfs hfl hrl hf2 at_ hat t.flat.length t 0 ((l.length:Int)-1) (dO _) hA ht (by rw [hl];omega)
  have h64:=(chkX_zero hz).1
  have hsub:IntKind.i64.wrap ((l.length:Int)-1)=(l.length:Int)-1:=cH V3
  rw [evX_tree hz ht hl]
  rw [hz] at hC
  cases hev:t.ev (oneX fs at_) with
  | error e =>
   have hne:=tree_err ht hev
   rw [hev] at hT
   refine cF Tryz.func39 rfl V5 rfl rfl ?_
   intro C
   (refine U39 ?_;refine keq rfl rfl (r:=false) (cS hne) ?_;refine U16 ?_)
   exact V4
  | ok v =>
   have hv2:=tree_in2 hf2 hat.2 (fun x hx=>(hin.small x (by rw [← hl];exact hx)).2.2.2) hev
   rw [hev] at hT
   simp only
   cases hg:gd v with
   | true =>
    have hG:=Good_spec X v.1 v.2 hv2 true hg
    rw [if_pos rfl]
    refine cF Tryz.func39 rfl V5 rfl rfl ?_
    intro C
    refine U56 ?_
    exact V4
   | false =>
    have hG:=Good_spec X v.1 v.2 hv2 false hg
    rw [if_neg (by decide)]
    refine cF Tryz.func39 rfl V5 rfl rfl ?_
    intro C
    refine U54 ?_
    exact V4
 ·have e:evX l fs at_ = .error (chkX l):=if_neg hz
  rw [e]
  refine cF Tryz.func39 rfl V5 rfl rfl ?_
  intro C
  (refine U15 ?_;refine kne rfl rfl (cU hz) ?_;refine U10 ?_)
  exact V4
end Go.Proofs.YtopiioklkkiedaaGreatDoor
end
section
set_option maxHeartbeats 12800000
set_option maxRecDepth 100000
namespace Go.Proofs.YtopiioklkkiedaaGreatDoor
open Go Go.Lg Go.Lg.Fml Go.Lg.Fld Go.Lg.Arith
set_option maxRecDepth 100000
def exV:Except Int Nm→Nm
 | .ok v=>v
 | .error _=>(false,0)
def exE:Except Int Nm→Int
 | .ok _=>0
 | .error e=>e
theorem exR_eq (r:Except Int Nm):exR r = .tup [SI (exV r).1 (exV r).2,Sn .i64 (exE r)]:=by cases r<;>rfl
variable (X:Nat→Option Obj)
theorem addR_ex (z:Int):addR z=exR (if R127 z then Except.ok (qn z) else Except.error 3:Except Int Nm):=by
 by_cases h:R127 z
 ·rw [addR_in h,if_pos h];rfl
 ·rw [addR_out h,if_neg h];rfl
theorem wAdd_do (u v:Nm) (hu:In2 u.2) (hv:In2 v.2):PSpec Tryz.prog X 183 [LI u.1 u.2,LI v.1 v.2] (exR (doX 5 u v)):=by
 cases hg:(gd u&&gd v) with
 | false =>
  rw [doX_bad hg]
  exact Add_arg X u.1 v.1 u.2 v.2 hu hv hg
 | true =>
  obtain ⟨gu,gv⟩:=Bool.and_eq_true_iff.1 hg
  obtain ⟨e1,r1⟩:=gd_q gu hu
  obtain ⟨e2,r2⟩:=gd_q gv hv
  rw [e1,e2]
  unfold doX
  rw [hg,if_neg (by decide),if_neg (by omega),show arith 5 (zz u) (zz v)=zz u+zz v from rfl,← addR_ex]
  exact Add_q X (zz u) (zz v) r1 r2
theorem wSub_do (u v:Nm) (hu:In2 u.2) (hv:In2 v.2):PSpec Tryz.prog X 184 [LI u.1 u.2,LI v.1 v.2] (exR (doX 6 u v)):=by
 cases hg:(gd u&&gd v) with
 | false =>
  rw [doX_bad hg]
  exact Sub_arg X u.1 v.1 u.2 v.2 hu hv hg
 | true =>
  obtain ⟨gu,gv⟩:=Bool.and_eq_true_iff.1 hg
  obtain ⟨e1,r1⟩:=gd_q gu hu
  obtain ⟨e2,r2⟩:=gd_q gv hv
  rw [e1,e2]
  unfold doX
  rw [hg,if_neg (by decide),if_neg (by omega),show arith 6 (zz u) (zz v)=zz u-zz v from rfl,← addR_ex]
  exact Sub_q X (zz u) (zz v) r1 r2
theorem wMul_do (u v:Nm) (hu:In2 u.2) (hv:In2 v.2):PSpec Tryz.prog X 185 [LI u.1 u.2,LI v.1 v.2] (exR (doX 7 u v)):=by
 cases hg:(gd u&&gd v) with
 | false =>
  rw [doX_bad hg]
  exact Mul_arg X u.1 v.1 u.2 v.2 hu hv hg
 | true =>
  obtain ⟨gu,gv⟩:=Bool.and_eq_true_iff.1 hg
  obtain ⟨e1,r1⟩:=gd_q gu hu
  obtain ⟨e2,r2⟩:=gd_q gv hv
  rw [e1,e2]
  unfold doX
  rw [hg,if_neg (by decide),if_neg (by omega),show arith 7 (zz u) (zz v)=zz u*zz v from rfl,← addR_ex]
  exact Mul_q X (zz u) (zz v) r1 r2
theorem wQuo_do (u v:Nm) (hu:In2 u.2) (hv:In2 v.2):PSpec Tryz.prog X 186 [LI u.1 u.2,LI v.1 v.2] (exR (doX 8 u v)):=by
 cases hg:(gd u&&gd v) with
 | false =>
  rw [doX_bad hg]
  exact Quo_arg X u.1 v.1 u.2 v.2 hu hv (by rw [show (formB u.1 u.2&&formB v.1 v.2)=false from hg];rfl)
 | true =>
  obtain ⟨gu,gv⟩:=Bool.and_eq_true_iff.1 hg
  obtain ⟨e1,r1⟩:=gd_q gu hu
  obtain ⟨e2,r2⟩:=gd_q gv hv
  by_cases h0:zz v=0
  ·have hv0:v.2=0:=by
    have h1:zv v.1 v.2=0:=h0
    have h2:=hv
    unfold zv at h1
    unfold In2 at h2
    split at h1<;>omega
   rw [show doX 8 u v = .error 1 by unfold doX;rw [hg,if_neg (by decide),if_pos ⟨by decide,h0⟩]]
   exact Quo_arg X u.1 v.1 u.2 v.2 hu hv (by rw [hv0];simp)
  ·have hq:=(parts_facts r1 r2 h0).1
   rw [e1,e2]
   unfold doX
   rw [hg,if_neg (by decide),if_neg (fun h=>h0 h.2),show arith 8 (zz u) (zz v)=(zz u).tdiv (zz v) from rfl,if_pos hq]
   exact Quo_q X (zz u) (zz v) r1 r2 h0
theorem wRem_do (u v:Nm) (hu:In2 u.2) (hv:In2 v.2):PSpec Tryz.prog X 187 [LI u.1 u.2,LI v.1 v.2] (exR (doX 9 u v)):=by
 cases hg:(gd u&&gd v) with
 | false =>
  rw [doX_bad hg]
  exact Rem_arg X u.1 v.1 u.2 v.2 hu hv (by rw [show (formB u.1 u.2&&formB v.1 v.2)=false from hg];rfl)
 | true =>
  obtain ⟨gu,gv⟩:=Bool.and_eq_true_iff.1 hg
  obtain ⟨e1,r1⟩:=gd_q gu hu
  obtain ⟨e2,r2⟩:=gd_q gv hv
  by_cases h0:zz v=0
  ·have hv0:v.2=0:=by
    have h1:zv v.1 v.2=0:=h0
    have h2:=hv
    unfold zv at h1
    unfold In2 at h2
    split at h1<;>omega
   rw [show doX 9 u v = .error 1 by unfold doX;rw [hg,if_neg (by decide),if_pos ⟨by decide,h0⟩]]
   exact Rem_arg X u.1 v.1 u.2 v.2 hu hv (by rw [hv0];simp)
  ·have hq:=(parts_facts r1 r2 h0).2.1
   rw [e1,e2]
   unfold doX
   rw [hg,if_neg (by decide),if_neg (fun h=>h0 h.2),show arith 9 (zz u) (zz v)=(zz u).tmod (zz v) from rfl,if_pos hq]
   exact Rem_q X (zz u) (zz v) r1 r2 h0
def truX (x y:Nm) (b:Bool):Except Int Nm:=if (gd x&&gd y)=false then .error 1 else .ok (truth b)
def sameX (x y:Nm):Except Int Nm:=truX x y (decide (x=y))
def lessX (x y:Nm):Except Int Nm:=truX x y (decide (zz x<zz y))
def pickX (x y z:Nm):Except Int Nm:=if gd x=false then .error 1 else .ok (if x=(false,0) then z else y)
def needX (x y:Nm):Except Int Nm:=if gd y=false then .error 1 else if y=(false,0) then .error 9 else .ok x
theorem tForm (x:Nm) (hx:In2 x.2) (r:Bool) (h:gd x=r):PSpec Tryz.prog X 106 [LI x.1 x.2] (Lb r):=Form_spec X _ _ hx r h
theorem tTruth (x y:Nm) (hx:In2 x.2) (hy:In2 y.2) (b:Bool):PSpec Tryz.prog X 221 [LI x.1 x.2,LI y.1 y.2,Lb b] (exR (truX x y b)):=by
 cases h1:gd x with
 | false =>
  have f1:=tForm X x hx false h1
  rw [show truX x y b = .error 1 by unfold truX;rw [h1];rfl]
  refine cF Tryz.func221 rfl V5 rfl rfl ?_
  intro C
  refine U29 ?_
  exact V4
 | true =>
 have f1:=tForm X x hx true h1
 cases h2:gd y with
 | false =>
  have f2:=tForm X y hy false h2
  rw [show truX x y b = .error 1 by unfold truX;rw [h1,h2];rfl]
  refine cF Tryz.func221 rfl V5 rfl rfl ?_
  intro C
  refine U29 ?_
  exact V4
 | true =>
 have f2:=tForm X y hy true h2
 rw [show truX x y b = .ok (truth b) by unfold truX;rw [h1,h2];rfl]
 cases b with
 | true =>
  have hO:=Of_spec X 1 V3
  refine cF Tryz.func221 rfl V5 rfl rfl ?_
  intro C
  refine U35 ?_
  exact V4
 | false =>
  have hO:=Of_spec X 0 V3
  refine cF Tryz.func221 rfl V5 rfl rfl ?_
  intro C
  refine U36 ?_
  exact V4
theorem tSame (x y:Nm) (hx:In2 x.2) (hy:In2 y.2):PSpec Tryz.prog X 193 [LI x.1 x.2,LI y.1 y.2] (exR (sameX x y)):=by
 have q:=eqI (b:=x.1) (b':=y.1) (h:=x.2/18446744073709551616) (h':=y.2/18446744073709551616) (l:=x.2%18446744073709551616) (l':=y.2%18446744073709551616) _ (eqN hx hy)
 unfold sameX
 have hT:=tTruth X x y hx hy (decide (x=y))
 rw [show decide (((x.1,x.2):Nm)=(y.1,y.2))=decide (x=y) from rfl] at q
 generalize decide (x=y)=z at *
 rw [exR_eq] at hT ⊢
 generalize exE (truX x y z)=e at *
 generalize exV (truX x y z)=v at *
 obtain ⟨vb,vN⟩:=v
 refine cF Tryz.func193 rfl V5 rfl rfl ?_
 intro C
 (refine U8 ?_;refine rgD mixed ?_;refine U4 ?_;refine bR O O O O V5 q (.inl ⟨O,O⟩) dS ?_;refine U8 ?_)
 exact V4
theorem tCmp (x y:Nm) (hx:In2 x.2) (hy:In2 y.2):∃ r:Int,PSpec Tryz.prog X 150 [LI x.1 x.2,LI y.1 y.2] (Ln .i64 r)∧((gd x&&gd y)=true→decide (r<0)=decide (zz x<zz y)):=by
 cases h:(gd x&&gd y) with
 | false=>exact ⟨0,Cmp_bad X _ _ _ _ hx hy h,fun h'=>by cases h'⟩
 | true =>
  obtain ⟨gx,gy⟩:=Bool.and_eq_true_iff.1 h
  obtain ⟨e1,r1⟩:=gd_q gx hx
  obtain ⟨e2,r2⟩:=gd_q gy hy
  refine ⟨cmpI (zz x) (zz y),?_,fun _=>(cmp_lz (u:=x) (v:=y)).1⟩
  rw [e1,e2]
  exact Cmp_q X _ _ r1 r2 _ O
theorem tLess (x y:Nm) (hx:In2 x.2) (hy:In2 y.2):PSpec Tryz.prog X 191 [LI x.1 x.2,LI y.1 y.2] (exR (lessX x y)):=by
 obtain ⟨r,hC,hr⟩:=tCmp X x y hx hy
 have hT:=tTruth X x y hx hy (decide (r<0))
 have e:truX x y (decide (r<0))=lessX x y:=by
  unfold lessX
  cases h:(gd x&&gd y) with
  | false=>unfold truX;rw [h];rfl
  | true=>rw [hr h]
 rw [e] at hT
 rw [exR_eq] at hT ⊢
 generalize exE (lessX x y)=e at *
 generalize exV (lessX x y)=v at *
 obtain ⟨vb,vN⟩:=v
 refine cF Tryz.func191 rfl V5 rfl rfl ?_
 intro C
 (refine U8 ?_;refine rgD mixed ?_;refine U5 ?_;refine klt rfl rfl rfl ?_;refine U8 ?_)
 exact V4
theorem sgn_qn {x:Nm} (hx:In2 x.2) (g:gd x=true):sgnI (zz x)=0↔x=(false,0):=by
 obtain ⟨e1,r1⟩:=gd_q g hx
 have h:=eqZ (b:=x.1) hx
 obtain ⟨b,N⟩:=x
 unfold In2 at hx
 unfold gd formB at g
 unfold sgnI zz zv at *
 simp only at *
 constructor
 ·intro h0
  have hN:N=0:=by
   cases b<;>simp only [Bool.false_eq_true,if_false,if_true] at h0<;>(repeat' split at h0)<;>omega
  subst hN
  cases b with
  | false=>rfl
  | true=>simp at g
 ·intro e
  cases e
  rfl
theorem tSign (x:Nm) (hx:In2 x.2) (g:gd x=true):∃ s:Int,PSpec Tryz.prog X 224 [LI x.1 x.2] (Ln .i64 s)∧(s=0↔x=(false,0)):=by
 obtain ⟨e1,r1⟩:=gd_q g hx
 exact ⟨sgnI (zz x),by rw [e1];exact Sign_q X _ r1 _ rfl,sgn_qn hx g⟩
theorem tPick (x y z:Nm) (hx:In2 x.2):PSpec Tryz.prog X 195 [LI x.1 x.2,LI y.1 y.2,LI z.1 z.2] (exR (pickX x y z)):=by
 cases h1:gd x with
 | false =>
  have f1:=tForm X x hx false h1
  rw [show pickX x y z = .error 1 by unfold pickX;rw [h1];rfl]
  refine cF Tryz.func195 rfl V5 rfl rfl ?_
  intro C
  refine U25 ?_
  exact V4
 | true =>
 have f1:=tForm X x hx true h1
 obtain ⟨s,hS,hs⟩:=tSign X x hx h1
 by_cases c:x=(false,0)
 ·rw [show pickX x y z = .ok z by unfold pickX;rw [h1,if_neg VA,if_pos c]]
  have c:=hs.2 c
  subst c
  refine cF Tryz.func195 rfl V5 rfl rfl ?_
  intro C
  refine U34 ?_
  exact V4
 ·rw [show pickX x y z = .ok y by unfold pickX;rw [h1,if_neg VA,if_neg c]]
  have c:s≠0:=fun h=>c (hs.1 h)
  refine cF Tryz.func195 rfl V5 rfl rfl ?_
  intro C
  (refine U22 ?_;refine kne rfl rfl (r:=true) (cU c) ?_;refine U10 ?_)
  exact V4
theorem tNeed (x y:Nm) (hy:In2 y.2):PSpec Tryz.prog X 196 [LI x.1 x.2,LI y.1 y.2] (exR (needX x y)):=by
 cases h1:gd y with
 | false =>
  have f1:=tForm X y hy false h1
  rw [show needX x y = .error 1 by unfold needX;rw [h1];rfl]
  refine cF Tryz.func196 rfl V5 rfl rfl ?_
  intro C
  refine U24 ?_
  exact V4
 | true =>
 have f1:=tForm X y hy true h1
 obtain ⟨s,hS,hs⟩:=tSign X y hy h1
 by_cases c:y=(false,0)
 ·rw [show needX x y = .error 9 by unfold needX;rw [h1,if_neg VA,if_pos c]]
  have c:=hs.2 c
  subst c
  refine cF Tryz.func196 rfl V5 rfl rfl ?_
  intro C
  refine U32 ?_
  exact V4
 ·rw [show needX x y = .ok x by unfold needX;rw [h1,if_neg VA,if_neg c]]
  have c:s≠0:=fun h=>c (hs.1 h)
  refine cF Tryz.func196 rfl V5 rfl rfl ?_
  intro C
  (refine U21 ?_;refine keq rfl rfl (r:=false) (cS c) ?_;refine U11 ?_)
  exact V4
end Go.Proofs.YtopiioklkkiedaaGreatDoor
end
section
set_option maxHeartbeats 12800000
set_option maxRecDepth 100000
namespace Go.Proofs.YtopiioklkkiedaaGreatDoor
open Go Go.Lg Go.Lg.Fml Go.Lg.Fld Go.Lg.Arith
set_option maxRecDepth 100000
def MoreM (X Y:Nat→Option Obj):Prop := ∀ b o,X b=some o→Y b=some o
theorem MoreM.refl (X:Nat→Option Obj):MoreM X X:=fun _ _ h=>h
theorem MoreM.trans {X Y Z:Nat→Option Obj} (h:MoreM X Y) (h':MoreM Y Z):MoreM X Z:=fun b o hb=>h' b o (h b o hb)
abbrev capL (caps:List Value):List LV:=caps.map fun v=>.sv (.one (.val v))
def OneV (Y:Nat→Option Obj) (v:Value) (F:Nm→Except Int Nm):Prop := ∃ (f:FuncId) (caps:List Value),v = .func (.func f) #[] caps.toArray∧∀ Z,MoreM Y Z→∀ x:Nm,In2 x.2→PSpec Tryz.prog Z f ([LI x.1 x.2]++capL caps) (exR (F x))
def TwoV (Y:Nat→Option Obj) (v:Value) (F:Nm→Nm→Except Int Nm):Prop := ∃ (f:FuncId) (caps:List Value),v = .func (.func f) #[] caps.toArray∧∀ Z,MoreM Y Z→∀ x y:Nm,In2 x.2→In2 y.2→PSpec Tryz.prog Z f ([LI x.1 x.2,LI y.1 y.2]++capL caps) (exR (F x y))
def ThreeV (Y:Nat→Option Obj) (v:Value) (F:Nm→Nm→Nm→Except Int Nm):Prop := ∃ (f:FuncId) (caps:List Value),v = .func (.func f) #[] caps.toArray∧∀ Z,MoreM Y Z→∀ x y z:Nm,In2 x.2→In2 y.2→In2 z.2→PSpec Tryz.prog Z f ([LI x.1 x.2,LI y.1 y.2,LI z.1 z.2]++capL caps) (exR (F x y z))
structure EnvIn (Z:Nat→Option Obj) (fad:Option Addr) (fs:List (List Nm)) (at_:Int):Prop where
 fss:FssIn Z fad fs
 len:fs.length<4611686018427387904
 rows:∀ r∈fs,r.length<4611686018427387904
 place : -9223372036854775808≤at_∧at_<9223372036854775808
theorem EnvIn.mono {Y Z:Nat→Option Obj} (h:MoreM Y Z) {fad:Option Addr} {fs:List (List Nm)} {at_:Int} (e:EnvIn Y fad fs at_):EnvIn Z fad fs at_:=⟨e.fss.mono h,e.len,e.rows,e.place⟩
def DeedV (Y:Nat→Option Obj) (v:Value) (op:Int):Prop := ∃ (f:FuncId) (caps:List Value),v = .func (.func f) #[] caps.toArray∧∀ Z,MoreM Y Z→∀ x:Ins,x.op=op→smallI x→∀ (fad:Option Addr) (fcap:Nat) (fs:List (List Nm)) (at_:Int),EnvIn Z fad fs at_ →
 ∀ (tad:Option Addr) (tcap:Nat) (ts:List Nm),NumsIn Z tad ts→ts.length=takes op→PSpec Tryz.prog Z f ([LIn x,LEnv fad fs.length fcap at_,Lx tad ts.length tcap]++capL caps) (exR (oneX fs at_ x ts))
theorem DeedV.mono {Y Z:Nat→Option Obj} (h:MoreM Y Z) {v:Value} {op:Int} (hv:DeedV Y v op):DeedV Z v op:=by
 obtain ⟨f,caps,e,hp⟩:=hv
 exact ⟨f,caps,e,fun W hW=>hp W (h.trans hW)⟩
theorem two_fn (Y:Nat→Option Obj) {f:FuncId} {F:Nm→Nm→Except Int Nm} (h:∀ (Z:Nat→Option Obj) (x y:Nm),In2 x.2→In2 y.2→PSpec Tryz.prog Z f [LI x.1 x.2,LI y.1 y.2] (exR (F x y))):TwoV Y (.func (.func f) #[] #[]) F:=⟨f,[],rfl,fun Z _ x y hx hy=>h Z x y hx hy⟩
theorem three_fn (Y:Nat→Option Obj) {f:FuncId} {F:Nm→Nm→Nm→Except Int Nm} (h:∀ (Z:Nat→Option Obj) (x y z:Nm),In2 x.2→In2 y.2→In2 z.2→PSpec Tryz.prog Z f [LI x.1 x.2,LI y.1 y.2,LI z.1 z.2] (exR (F x y z))):ThreeV Y (.func (.func f) #[] #[]) F:=⟨f,[],rfl,fun Z _ x y z hx hy hz=>h Z x y z hx hy hz⟩
abbrev pv (blk:Nat):Value:=.pointer (some ⟨blk,0,none⟩)
section
variable {Y:Nat→Option Obj} {blk:Nat} {arr:Array Value} {el:TypeId} {fr:Nat×Nat} {v:Value}
theorem two_swapped {F:Nm→Nm→Except Int Nm} (hY:Y blk=some (.cells arr el fr)) (hv:arr[0]? = some v) (hF:TwoV Y v F):TwoV Y (.func (.func 222) #[] #[pv blk]) (fun x y=>F y x):=by
 obtain ⟨f,caps,rfl,hF⟩:=hF
 refine ⟨222,[pv blk],O,fun Z hZ x y hx hy => ?_⟩
 have hP:=hF Z hZ y x hy hx
 have hX:=hZ _ _ hY
 show PSpec _ Z _ [LI x.1 x.2,LI y.1 y.2,.sv (.one (.val (pv blk)))] (exR (F y x))
 rw [exR_eq] at hP ⊢
 generalize exE (F y x)=e at *
 generalize exV (F y x)=v at *
 obtain ⟨vb,vN⟩:=v
 refine cF Tryz.func222 rfl V5 rfl rfl ?_
 intro C
 (refine U12 ?_;refine K.callF O O O hP dS ?_;refine U6 ?_)
 exact V4
def choX (G:Nm→Nm→Except Int Nm) (x y:Nm):Except Int Nm:=match G x y with | .error e=>.error e | .ok a=>pickX a x y
theorem two_chosen {F:Nm→Nm→Except Int Nm} (hY:Y blk=some (.cells arr el fr)) (hv:arr[0]? = some v) (hF:TwoV Y v F) (h2:∀ x y a,F x y = .ok a→In2 a.2) (hz:∀ x y e,F x y = .error e→e≠0):TwoV Y (.func (.func 220) #[] #[pv blk]) (choX F):=by
 obtain ⟨f,caps,rfl,hF⟩:=hF
 refine ⟨220,[pv blk],O,fun Z hZ x y hx hy => ?_⟩
 have hP:=hF Z hZ x y hx hy
 have hX:=hZ _ _ hY
 show PSpec _ Z _ [LI x.1 x.2,LI y.1 y.2,.sv (.one (.val (pv blk)))] (exR (choX F x y))
 unfold choX
 cases hf:F x y with
 | error e =>
  have he:=hz x y e hf
  rw [hf] at hP
  show PSpec _ Z _ _ (.tup [S0,Sn .i64 e])
  have hP:PSpec Tryz.prog Z f ([LI x.1 x.2,LI y.1 y.2]++capL caps) (.tup [S0,Sn .i64 e]):=hP
  refine cF Tryz.func220 rfl V5 rfl rfl ?_
  intro C
  (refine U12 ?_;refine K.callF O O O hP dS ?_;refine U11 ?_;refine kne O O (r:=true) (cU he) ?_;refine U10 ?_)
  exact V4
 | ok a =>
  have ha:=h2 x y a hf
  rw [hf] at hP
  have hP:PSpec Tryz.prog Z f ([LI x.1 x.2,LI y.1 y.2]++capL caps) (.tup [SI a.1 a.2,Sn .i64 0]):=hP
  have hK:=tPick Z a x y ha
  show PSpec _ Z _ _ (exR (pickX a x y))
  rw [exR_eq] at hK ⊢
  generalize exE (pickX a x y)=e at *
  generalize exV (pickX a x y)=v at *
  obtain ⟨vb,vN⟩:=v
  refine cF Tryz.func220 rfl V5 rfl rfl ?_
  intro C
  (refine U12 ?_;refine K.callF O O O hP dS ?_;refine U27 ?_)
  exact V4
theorem one_zero {F:Nm→Nm→Except Int Nm} (hY:Y blk=some (.cells arr el fr)) (hv:arr[0]? = some v) (hF:TwoV Y v F):OneV Y (.func (.func 219) #[] #[pv blk]) (fun x=>F (false,0) x):=by
 obtain ⟨f,caps,rfl,hF⟩:=hF
 refine ⟨219,[pv blk],O,fun Z hZ x hx => ?_⟩
 have hP:PSpec Tryz.prog Z f ([.sv S0,LI x.1 x.2]++capL caps) (exR (F (false,0) x)):=hF Z hZ (false,0) x ⟨by decide,by decide⟩ hx
 have hX:=hZ _ _ hY
 show PSpec _ Z _ [LI x.1 x.2,.sv (.one (.val (pv blk)))] (exR (F (false,0) x))
 rw [exR_eq] at hP ⊢
 generalize exE (F (false,0) x)=e at *
 generalize exV (F (false,0) x)=v at *
 obtain ⟨vb,vN⟩:=v
 refine cF Tryz.func219 rfl V5 rfl rfl ?_
 intro C
 (refine U11 ?_;refine K.callF O O O hP dS ?_;refine U6 ?_)
 exact V4
theorem deed_one {op:Int} {F:Nm→Except Int Nm} (ht:takes op=1) (hY:Y blk=some (.cells arr el fr)) (hv:arr[0]? = some v) (hF:OneV Y v F) (hop:∀ u,In2 u.2→nodeX op [u]=F u):DeedV Y (.func (.func 218) #[] #[pv blk]) op:=by
 obtain ⟨f,caps,rfl,hF⟩:=hF
 refine ⟨218,[pv blk],O,fun Z hZ x hxo hx fad fcap fs at_ hE tad tcap ts hts hlen => ?_⟩
 rw [ht] at hlen
 match ts,hlen,hts with
 | [u],_,hts =>
 have e1:oneX fs at_ x [u]=F u:=by unfold oneX;rw [hxo,if_neg (by rw [ht];decide),hop u (hts.in2 _ V21)]
 rw [e1]
 obtain ⟨tb,tof,ta,te,tf,rfl,hT,hall⟩:=hts.all (by show 0<1;omega)
 obtain ⟨i0,s0,c0⟩:=hall 0 _ _ rfl
 have h0:tof+Int.toNat 0*3=tof+0*3:=rfl
 have hb0:0≤(0:Int)∧(0:Int)<(1:Nat):=by omega
 have hP:=hF Z hZ u i0
 have hX:=hZ _ _ hY
 show PSpec _ Z _ [LIn x,LEnv fad fs.length fcap at_,Lx (some ⟨tb,tof,none⟩) 1 tcap,.sv (.one (.val (pv blk)))] (exR (F u))
 rw [exR_eq] at hP ⊢
 generalize exE (F u)=e at *
 generalize exV (F u)=v at *
 obtain ⟨vb,vN⟩:=v
 refine cF Tryz.func218 rfl V5 rfl rfl ?_
 intro C
 (refine U8 ?_;refine rgD mixed ?_;refine U4 ?_;refine K.callF O O O hP dS ?_;refine U7 ?_)
 exact V4
theorem deed_two {op:Int} {F:Nm→Nm→Except Int Nm} (ht:takes op=2) (hY:Y blk=some (.cells arr el fr)) (hv:arr[0]? = some v) (hF:TwoV Y v F) (hop:∀ u w,In2 u.2→In2 w.2→nodeX op [u,w]=F u w):DeedV Y (.func (.func 211) #[] #[pv blk]) op:=by
 obtain ⟨f,caps,rfl,hF⟩:=hF
 refine ⟨211,[pv blk],O,fun Z hZ x hxo hx fad fcap fs at_ hE tad tcap ts hts hlen => ?_⟩
 rw [ht] at hlen
 match ts,hlen,hts with
 | [u,z],_,hts =>
 have e1:oneX fs at_ x [u,z]=F u z:=by unfold oneX;rw [hxo,if_neg (by rw [ht];decide),hop u z (hts.in2 _ V21) (hts.in2 _ V21)]
 rw [e1]
 obtain ⟨tb,tof,ta,te,tf,rfl,hT,hall⟩:=hts.all V2F
 obtain ⟨i0,s0,c0⟩:=hall 0 _ _ rfl
 have h0:tof+Int.toNat 0*3=tof+0*3:=rfl
 have hb0:0≤(0:Int)∧(0:Int)<(2:Nat):=by omega
 obtain ⟨i1,s1,c1⟩:=hall 1 _ _ rfl
 have h1:tof+Int.toNat 1*3=tof+1*3:=rfl
 have hb1:0≤(1:Int)∧(1:Int)<(2:Nat):=by omega
 have hP:=hF Z hZ u z i0 i1
 have hX:=hZ _ _ hY
 show PSpec _ Z _ [LIn x,LEnv fad fs.length fcap at_,Lx (some ⟨tb,tof,none⟩) 2 tcap,.sv (.one (.val (pv blk)))] (exR (F u z))
 rw [exR_eq] at hP ⊢
 generalize exE (F u z)=e at *
 generalize exV (F u z)=v at *
 obtain ⟨vb,vN⟩:=v
 refine cF Tryz.func211 rfl V5 rfl rfl ?_
 intro C
 (refine U8 ?_;refine rgD mixed ?_;refine U7 ?_;refine K.callF O O O hP dS ?_;refine U7 ?_)
 exact V4
theorem deed_three {op:Int} {F:Nm→Nm→Nm→Except Int Nm} (ht:takes op=3) (hY:Y blk=some (.cells arr el fr)) (hv:arr[0]? = some v) (hF:ThreeV Y v F) (hop:∀ u w z,In2 u.2→In2 w.2→In2 z.2→nodeX op [u,w,z]=F u w z):DeedV Y (.func (.func 223) #[] #[pv blk]) op:=by
 obtain ⟨f,caps,rfl,hF⟩:=hF
 refine ⟨223,[pv blk],O,fun Z hZ x hxo hx fad fcap fs at_ hE tad tcap ts hts hlen => ?_⟩
 rw [ht] at hlen
 match ts,hlen,hts with
 | [u,z,q],_,hts =>
 have e1:oneX fs at_ x [u,z,q]=F u z q:=by unfold oneX;rw [hxo,if_neg (by rw [ht];decide),hop u z q (hts.in2 _ V21) (hts.in2 _ V21) (hts.in2 _ V21)]
 rw [e1]
 obtain ⟨tb,tof,ta,te,tf,rfl,hT,hall⟩:=hts.all (by show 0<3;omega)
 obtain ⟨i0,s0,c0⟩:=hall 0 _ _ rfl
 have h0:tof+Int.toNat 0*3=tof+0*3:=rfl
 have hb0:0≤(0:Int)∧(0:Int)<(3:Nat):=by omega
 obtain ⟨i1,s1,c1⟩:=hall 1 _ _ rfl
 have h1:tof+Int.toNat 1*3=tof+1*3:=rfl
 have hb1:0≤(1:Int)∧(1:Int)<(3:Nat):=by omega
 obtain ⟨i2,s2,c2⟩:=hall 2 _ _ rfl
 have h2:tof+Int.toNat 2*3=tof+2*3:=rfl
 have hb2:0≤(2:Int)∧(2:Int)<(3:Nat):=by omega
 have hP:=hF Z hZ u z q i0 i1 i2
 have hX:=hZ _ _ hY
 show PSpec _ Z _ [LIn x,LEnv fad fs.length fcap at_,Lx (some ⟨tb,tof,none⟩) 3 tcap,.sv (.one (.val (pv blk)))] (exR (F u z q))
 rw [exR_eq] at hP ⊢
 generalize exE (F u z q)=e at *
 generalize exV (F u z q)=v at *
 obtain ⟨vb,vN⟩:=v
 refine cF Tryz.func223 rfl V5 rfl rfl ?_
 intro C
 (refine U8 ?_;refine rgD mixed ?_;refine U10 ?_;refine K.callF O O O hP dS ?_;refine U7 ?_)
 exact V4
end
variable (X:Nat→Option Obj)
theorem tFind (fad:Option Addr) (fcap:Nat) (fs:List (List Nm)) (at_:Int) (hE:EnvIn X fad fs at_) (a b:Int) (ha : -9223372036854775808≤a∧a<9223372036854775808) (hb : -9223372036854775808≤b∧b<9223372036854775808):
  PSpec Tryz.prog X 210 [LEnv fad fs.length fcap at_,Ln .i64 a,Ln .i64 b] (exR (elemX fs a b)):=by
 have hfl:=hE.len
 by_cases c1:a<0
 ·rw [show elemX fs a b = .error 3 by unfold elemX;rw [if_pos (.inl c1)]]
  refine cF Tryz.func210 rfl V5 rfl rfl ?_
  intro C
  (refine U10 ?_;refine klt rfl rfl (r:=true) (cP c1) ?_;refine U16 ?_)
  exact V4
 by_cases c2:(fs.length:Int)≤a
 ·rw [show elemX fs a b = .error 3 by unfold elemX;split<;>first|rfl|(rw [List.getElem?_eq_none V3])]
  refine cF Tryz.func210 rfl V5 rfl rfl ?_
  intro C
  (refine U10 ?_;refine klt O O (r:=false) (cO c1) ?_;refine U5 ?_;refine bD O O (r:=true) (cP c2) (dT O O) ?_;refine U10 ?_)
  exact V4
 obtain ⟨r,hr⟩:∃ r,fs[a.toNat]? = some r:=wg V3
 obtain ⟨blk,off,arr,el,fr,vad,vcap,rfl,hX,hsz,hcell,hN⟩:=hE.fss.at_ _ _ hr
 have hrl:=hE.rows r (dE hr)
 have hio:off+Int.toNat a*1=off+a.toNat:=by omega
 by_cases c3:b<0
 ·rw [show elemX fs a b = .error 3 by unfold elemX;rw [if_pos (.inr c3)]]
  refine cF Tryz.func210 rfl V5 rfl rfl ?_
  intro C
  (refine U10 ?_;refine klt O O (r:=false) (cO c1) ?_;refine U5 ?_;refine bD O O (r:=false) (cO c2) (dT O O) ?_;refine U17 ?_;refine klt O O (r:=true) (cP c3) ?_;refine U15 ?_)
  exact V4
 by_cases c4:(r.length:Int)≤b
 ·rw [show elemX fs a b = .error 3 by unfold elemX;rw [if_neg V3,hr];simp only;rw [List.getElem?_eq_none V3]]
  refine cF Tryz.func210 rfl V5 rfl rfl ?_
  intro C
  (refine U10 ?_;refine klt O O (r:=false) (cO c1) ?_;refine U5 ?_;refine bD O O (r:=false) (cO c2) (dT O O) ?_;refine U17 ?_;refine klt O O (r:=false) (cO c3) ?_;refine U4 ?_;refine bD O O (r:=true) (cP c4) (dT O O) ?_;refine U10 ?_)
  exact V4
 obtain ⟨⟨vb,vN⟩,hv⟩:∃ v,r[b.toNat]? = some v:=wg V3
 obtain ⟨_,blk2,off2,arr2,el2,fr2,rfl,hX2,hsz2,hcs2⟩:=hN.at hv
 have hio2:off2+Int.toNat b*3=off2+b.toNat*3:=rfl
 rw [show elemX fs a b = .ok (vb,vN) by unfold elemX;rw [if_neg (by omega),hr];simp only;rw [hv]]
 refine cF Tryz.func210 rfl V5 rfl rfl ?_
 intro C
 (refine U10 ?_;refine klt O O (r:=false) (cO c1) ?_;refine U5 ?_;refine bD O O (r:=false) (cO c2) (dT O O) ?_;refine U17 ?_;refine klt O O (r:=false) (cO c3) ?_;refine U4 ?_;refine bD O O (r:=false) (cO c4) (dT O O) ?_;refine U14 ?_)
 exact V4
theorem deed_num:DeedV X (.func (.func 178) #[] #[]) 1:=by
 refine ⟨178,[],O,fun Z hZ x hxo hx fad fcap fs at_ hE tad tcap ts hts hlen => ?_⟩
 rw [show oneX fs at_ x ts = .ok x.k by unfold oneX leafX;rw [hxo];rfl]
 show PSpec _ Z _ [LIn x,LEnv fad fs.length fcap at_,Lx tad ts.length tcap] (.tup [SI x.k.1 x.k.2,Sn .i64 0])
 refine cF Tryz.func178 rfl V5 rfl rfl ?_
 intro C
 (refine U10 ?_;refine bJ O O O V28 dS ?_;refine U4 ?_)
 exact V4
theorem deed_elem:DeedV X (.func (.func 179) #[] #[]) 2:=by
 refine ⟨179,[],O,fun Z hZ x hxo hx fad fcap fs at_ hE tad tcap ts hts hlen => ?_⟩
 rw [show oneX fs at_ x ts=elemX fs x.a x.b by unfold oneX leafX;rw [hxo];rfl]
 have hP:=tFind Z fad fcap fs at_ hE x.a x.b hx.2.1 hx.2.2.1
 show PSpec _ Z _ [LIn x,LEnv fad fs.length fcap at_,Lx tad ts.length tcap] (exR (elemX fs x.a x.b))
 rw [exR_eq] at hP ⊢
 generalize exE (elemX fs x.a x.b)=e at *
 generalize exV (elemX fs x.a x.b)=v at *
 obtain ⟨vb,vN⟩:=v
 refine cF Tryz.func179 rfl V5 rfl rfl ?_
 intro C
 refine U21 ?_
 exact V4
theorem deed_here:DeedV X (.func (.func 180) #[] #[]) 3:=by
 refine ⟨180,[],O,fun Z hZ x hxo hx fad fcap fs at_ hE tad tcap ts hts hlen => ?_⟩
 rw [show oneX fs at_ x ts=elemX fs x.a at_ by unfold oneX leafX;rw [hxo];rfl]
 have hP:=tFind Z fad fcap fs at_ hE x.a at_ hx.2.1 hE.place
 show PSpec _ Z _ [LIn x,LEnv fad fs.length fcap at_,Lx tad ts.length tcap] (exR (elemX fs x.a at_))
 rw [exR_eq] at hP ⊢
 generalize exE (elemX fs x.a at_)=e at *
 generalize exV (elemX fs x.a at_)=v at *
 obtain ⟨vb,vN⟩:=v
 refine cF Tryz.func180 rfl V5 rfl rfl ?_
 intro C
 refine U21 ?_
 exact V4
theorem deed_place:DeedV X (.func (.func 181) #[] #[]) 4:=by
 refine ⟨181,[],O,fun Z hZ x hxo hx fad fcap fs at_ hE tad tcap ts hts hlen => ?_⟩
 have hpl:=hE.place
 rw [show oneX fs at_ x ts=(if at_<0 then .error 3 else .ok (false,at_)) by unfold oneX leafX;rw [hxo];rfl]
 show PSpec _ Z _ [LIn x,LEnv fad fs.length fcap at_,Lx tad ts.length tcap] _
 by_cases c:at_<0
 ·rw [if_pos c]
  refine cF Tryz.func181 rfl V5 rfl rfl ?_
  intro C
  (refine U12 ?_;refine klt rfl rfl (r:=true) (cP c) ?_;refine U9 ?_)
  exact V4
 ·rw [if_neg c]
  have hO:=Of_spec Z at_ hpl
  rw [show LQ at_=LI false at_ by unfold LQ;rw [mg_pos (by omega),cO c]] at hO
  show PSpec _ Z _ _ (.tup [SI false at_,Sn .i64 0])
  refine cF Tryz.func181 rfl V5 rfl rfl ?_
  intro C
  (refine U12 ?_;refine klt rfl rfl (r:=false) (cO c) ?_;refine U12 ?_)
  exact V4
end Go.Proofs.YtopiioklkkiedaaGreatDoor
end
section
set_option maxHeartbeats 12800000
set_option maxRecDepth 100000
namespace Go.Proofs.YtopiioklkkiedaaGreatDoor
open Go Go.Lg Go.Lg.Fml Go.Lg.Fld Go.Lg.Arith
set_option maxRecDepth 100000
abbrev ptrF (f:FuncId) (k:Nat):CV:=.fn (.func f) (fun i=>[pv i]) k
abbrev fnV (f:FuncId):Value:=.func (.func f) #[] #[]
abbrev vB (t:TypeId) (k:Nat) (c:CV):Nat×Option Box:=(k,some ⟨t,[c],false⟩)
variable (X:Nat→Option Obj)
theorem mA_ofTwo (g:FuncId):MSpec Tryz.prog X 182 [.sv (.one (.val (fnV g)))] [] (.sv (.one (ptrF 211 1000001))) [vB 275 1000001 (.val (fnV g))]:=by
 refine cG Tryz.func182 rfl V5 rfl V7 V7 rfl rfl ?_
 intro C
 (refine U7 ?_;refine K.makeFuncP O O dS ?_;refine U3 ?_)
 exact ⟨[(1000001,1)],⟨[_],⟨O,trivial⟩,O⟩,V1,O,O⟩
theorem mB_ofTwo (g h:FuncId) (t:TypeId):MSpec Tryz.prog X 182 [.sv (.one (ptrF g 1000002))] [vB t 1000002 (.val (fnV h))] (.sv (.one (ptrF 211 1000001))) [vB 275 1000001 (ptrF g 1000002),vB t 1000002 (.val (fnV h))]:=by
 refine cG Tryz.func182 rfl V5 rfl V7 V7 rfl rfl ?_
 intro C
 (refine U7 ?_;refine K.makeFuncP O O dS ?_;refine U3 ?_)
 exact ⟨[(1000001,1)],⟨[_],⟨O,trivial⟩,O⟩,V1,O,O⟩
theorem mC_ofTwo (g h i:FuncId) (t:TypeId):MSpec Tryz.prog X 182 [.sv (.one (ptrF g 1000002))] [vB t 1000002 (ptrF h 1000003),vB t 1000003 (.val (fnV i))] (.sv (.one (ptrF 211 1000001))) [vB 275 1000001 (ptrF g 1000002),vB t 1000002 (ptrF h 1000003),vB t 1000003 (.val (fnV i))]:=by
 refine cG Tryz.func182 rfl V5 rfl V7 V7 rfl rfl ?_
 intro C
 (refine U7 ?_;refine K.makeFuncP O O dS ?_;refine U3 ?_)
 exact ⟨[(1000001,1)],⟨[_],⟨O,trivial⟩,O⟩,V1,O,O⟩
theorem mB_ofOne (g h:FuncId) (t:TypeId):MSpec Tryz.prog X 188 [.sv (.one (ptrF g 1000002))] [vB t 1000002 (.val (fnV h))] (.sv (.one (ptrF 218 1000001))) [vB 273 1000001 (ptrF g 1000002),vB t 1000002 (.val (fnV h))]:=by
 refine cG Tryz.func188 rfl V5 rfl V7 V7 rfl rfl ?_
 intro C
 (refine U7 ?_;refine K.makeFuncP O O dS ?_;refine U3 ?_)
 exact ⟨[(1000001,1)],⟨[_],⟨O,trivial⟩,O⟩,V1,O,O⟩
theorem mA_ofThree (g:FuncId):MSpec Tryz.prog X 194 [.sv (.one (.val (fnV g)))] [] (.sv (.one (ptrF 223 1000001))) [vB 297 1000001 (.val (fnV g))]:=by
 refine cG Tryz.func194 rfl V5 rfl V7 V7 rfl rfl ?_
 intro C
 (refine U7 ?_;refine K.makeFuncP O O dS ?_;refine U3 ?_)
 exact ⟨[(1000001,1)],⟨[_],⟨O,trivial⟩,O⟩,V1,O,O⟩
theorem mA_withZero (g:FuncId):MSpec Tryz.prog X 189 [.sv (.one (.val (fnV g)))] [] (.sv (.one (ptrF 219 1000001))) [vB 275 1000001 (.val (fnV g))]:=by
 refine cG Tryz.func189 rfl V5 rfl V7 V7 rfl rfl ?_
 intro C
 (refine U7 ?_;refine K.makeFuncP O O dS ?_;refine U3 ?_)
 exact ⟨[(1000001,1)],⟨[_],⟨O,trivial⟩,O⟩,V1,O,O⟩
theorem mA_chosen (g:FuncId):MSpec Tryz.prog X 190 [.sv (.one (.val (fnV g)))] [] (.sv (.one (ptrF 220 1000001))) [vB 275 1000001 (.val (fnV g))]:=by
 refine cG Tryz.func190 rfl V5 rfl V7 V7 rfl rfl ?_
 intro C
 (refine U7 ?_;refine K.makeFuncP O O dS ?_;refine U3 ?_)
 exact ⟨[(1000001,1)],⟨[_],⟨O,trivial⟩,O⟩,V1,O,O⟩
theorem mB_chosen (g h:FuncId) (t:TypeId):MSpec Tryz.prog X 190 [.sv (.one (ptrF g 1000002))] [vB t 1000002 (.val (fnV h))] (.sv (.one (ptrF 220 1000001))) [vB 275 1000001 (ptrF g 1000002),vB t 1000002 (.val (fnV h))]:=by
 refine cG Tryz.func190 rfl V5 rfl V7 V7 rfl rfl ?_
 intro C
 (refine U7 ?_;refine K.makeFuncP O O dS ?_;refine U3 ?_)
 exact ⟨[(1000001,1)],⟨[_],⟨O,trivial⟩,O⟩,V1,O,O⟩
theorem mA_swapped (g:FuncId):MSpec Tryz.prog X 192 [.sv (.one (.val (fnV g)))] [] (.sv (.one (ptrF 222 1000001))) [vB 275 1000001 (.val (fnV g))]:=by
 refine cG Tryz.func192 rfl V5 rfl V7 V7 rfl rfl ?_
 intro C
 (refine U7 ?_;refine K.makeFuncP O O dS ?_;refine U3 ?_)
 exact ⟨[(1000001,1)],⟨[_],⟨O,trivial⟩,O⟩,V1,O,O⟩
def deedR (f:FuncId) (op:Int):Rsc:=⟨fun ρ H=>DeedV H (.func (.func f) #[] #[pv ρ.1]) op⟩
section
variable {X:Nat→Option Obj} {n:Nat} {C:Ctx} {Mid:St→Prop} {s:List (Nat×LV)} {bx:List (Nat×Option Box)} {k k1 k2 k3:Nat} {t1 t2 t3:TypeId} {f g h:FuncId} {op:Int} {v:Value}
theorem deed_shut1 (hD:∀ (Y:Nat→Option Obj) b a e fr,Y b=some (.cells a e fr)→a[0]? = some v→DeedV Y (.func (.func f) #[] #[pv b]) op)
  (hl:Leads n C Mid ⟨s,(k,some ⟨0,[],.res (deedR f op)⟩)::bx,X⟩):Leads n C Mid ⟨s,vB t1 k (.val v)::bx,X⟩:=by
 have:=Leads.closeRes (el:=t1) (H:=fun _=>none) (vals:=[v]) (R:=deedR f op) (OwnedM.nil C X) (fun ρ fr _ _ _=>hD _ ρ.1 _ t1 fr (cN _ _ _) rfl) hl
 rw [joinM_nil] at this
 exact this
theorem deed_shut2 (hD:∀ (Y:Nat→Option Obj) b a e fr b' a' e' fr',Y b=some (.cells a e fr)→a[0]? = some v→Y b'=some (.cells a' e' fr')→a'[0]? = some (.func (.func g) #[] #[pv b])→DeedV Y (.func (.func f) #[] #[pv b']) op)
  (h1:Go.Lg.look k1 (vB t2 k2 (ptrF g k1)::bx)=none) (h2:s.all (fun p=>p.2.inUse (vB t2 k2 (ptrF g k1)::bx))=true) (h3:bx.all (fun p=>match p.2 with|some b=>b.cells.all (CV.inUse (vB t2 k2 (ptrF g k1)::bx))|none=>true)=true)
  (hl:Leads n C Mid ⟨s,(k2,some ⟨0,[],.res (deedR f op)⟩)::bx,X⟩):Leads n C Mid ⟨s,vB t2 k2 (ptrF g k1)::vB t1 k1 (.val v)::bx,X⟩:=by
 refine Leads.fixBox (vals:=[v]) (el:=t1) (row:=false) [] [vB t2 k2 (ptrF g k1)] h1 h2 h3 rfl (by simp [CV.fixIn]) ?_
 intro blk arr fr hX hF hsp
 obtain ⟨sp,hsp⟩:=hsp
 have ha:arr[0]? = some v:=by rw [← Array.getElem?_toList,hsp];rfl
 have hO:OwnedM C X (withBlock (fun _=>none) blk (.cells arr t1 fr)):=(OwnedM.nil C X).more hF (by rw [joinM_nil];exact hX)
 have e:withBlock X blk (.cells arr t1 fr)=joinM X (withBlock (fun _=>none) blk (.cells arr t1 fr)):=by rw [← joinM_with,joinM_nil]
 rw [e]
 have hfix:fixB k1 blk [vB t2 k2 (ptrF g k1)]++bx=(k2,some ⟨t2,([.func (.func g) #[] #[pv blk]]:List Value).map .val,false⟩)::bx:=by
  simp [fixB,Box.fix,CV.fix,Nat.beq_refl]
 rw [hfix]
 refine Leads.closeRes hO (fun ρ fr2 h5 h6 _ => ?_) hl
 exact hD _ blk arr t1 fr ρ.1 _ t2 fr2 (cJ h5 _ _ (cN _ _ _)) ha (cN _ _ _) O
theorem deed_shut3 (hD:∀ (Y:Nat→Option Obj) b a e fr b' a' e' fr' b2 a2 e2 fr2,Y b=some (.cells a e fr)→a[0]? = some v→Y b'=some (.cells a' e' fr')→a'[0]? = some (.func (.func h) #[] #[pv b])→Y b2=some (.cells a2 e2 fr2)→a2[0]? = some (.func (.func g) #[] #[pv b'])→DeedV Y (.func (.func f) #[] #[pv b2]) op)
  (h1:Go.Lg.look k1 (vB t3 k3 (ptrF g k2)::vB t2 k2 (ptrF h k1)::bx)=none) (h2:s.all (fun p=>p.2.inUse (vB t3 k3 (ptrF g k2)::vB t2 k2 (ptrF h k1)::bx))=true) (h3:bx.all (fun p=>match p.2 with|some b=>b.cells.all (CV.inUse (vB t3 k3 (ptrF g k2)::vB t2 k2 (ptrF h k1)::bx))|none=>true)=true)
  (h1':Go.Lg.look k2 (vB t3 k3 (ptrF g k2)::bx)=none) (h2':s.all (fun p=>p.2.inUse (vB t3 k3 (ptrF g k2)::bx))=true) (h3':bx.all (fun p=>match p.2 with|some b=>b.cells.all (CV.inUse (vB t3 k3 (ptrF g k2)::bx))|none=>true)=true) (h4:Nat.beq k2 k1=false)
  (hl:Leads n C Mid ⟨s,(k3,some ⟨0,[],.res (deedR f op)⟩)::bx,X⟩):Leads n C Mid ⟨s,vB t3 k3 (ptrF g k2)::vB t2 k2 (ptrF h k1)::vB t1 k1 (.val v)::bx,X⟩:=by
 have h5:(Go.Lg.look k2 (vB t3 k3 (ptrF g k2)::vB t2 k2 (ptrF h k1)::bx)).isSome=true:=by
  cases hb:Nat.beq k3 k2 with
  | true=>simp only [Go.Lg.look,hb,cond_true];rfl
  | false=>simp only [Go.Lg.look,hb,cond_false,Nat.beq_refl,cond_true];rfl
 refine Leads.fixBox (vals:=[v]) (el:=t1) (row:=false) [] [vB t3 k3 (ptrF g k2),vB t2 k2 (ptrF h k1)] h1 h2 h3 rfl (by simp only [List.all_cons,List.all_nil,CV.fixIn,Nat.beq_refl,Bool.true_or,Bool.and_true,Bool.or_eq_true];exact .inr h5) ?_
 intro blk arr fr hX hF hsp
 obtain ⟨sp,hsp⟩:=hsp
 have ha:arr[0]? = some v:=by rw [← Array.getElem?_toList,hsp];rfl
 have hO:OwnedM C X (withBlock (fun _=>none) blk (.cells arr t1 fr)):=(OwnedM.nil C X).more hF (by rw [joinM_nil];exact hX)
 have e:withBlock X blk (.cells arr t1 fr)=joinM X (withBlock (fun _=>none) blk (.cells arr t1 fr)):=by rw [← joinM_with,joinM_nil]
 rw [e]
 have hfix:fixB k1 blk [vB t3 k3 (ptrF g k2),vB t2 k2 (ptrF h k1)]++bx=vB t3 k3 (ptrF g k2)::(k2,some ⟨t2,([.func (.func h) #[] #[pv blk]]:List Value).map .val,false⟩)::bx:=by
  simp [fixB,Box.fix,CV.fix,Nat.beq_refl,h4]
 rw [hfix]
 refine Leads.fixBox (vals:=[.func (.func h) #[] #[pv blk]]) (el:=t2) (row:=false) [] [vB t3 k3 (ptrF g k2)] h1' h2' h3' rfl (by simp [CV.fixIn]) ?_
 intro blk2 arr2 fr2 hX2 hF2 hsp2
 obtain ⟨sp2,hsp2⟩:=hsp2
 have ha2:arr2[0]? = some (.func (.func h) #[] #[pv blk]):=by rw [← Array.getElem?_toList,hsp2];rfl
 have hO2:=hO.more (el:=t2) hF2 hX2
 have hn2:=(joinM_none hX2).1
 rw [joinM_with]
 have hfix:fixB k2 blk2 [vB t3 k3 (ptrF g k2)]++bx=(k3,some ⟨t3,([.func (.func g) #[] #[pv blk2]]:List Value).map .val,false⟩)::bx:=by
  simp [fixB,Box.fix,CV.fix,Nat.beq_refl]
 rw [hfix]
 refine Leads.closeRes hO2 (fun ρ fr3 h5 h6 _ => ?_) hl
 exact hD _ blk arr t1 fr blk2 arr2 t2 fr2 ρ.1 _ t3 fr3 (cJ h5 _ _ (cJ hn2 _ _ (cN _ _ _))) ha (cJ h5 _ _ (cN _ _ _)) ha2 (cN _ _ _) O
end
theorem gd_truth (b:Bool):gd (truth b)=true:=by cases b<;>rfl
theorem pick_truth (b:Bool) (x y:Nm):pickX (truth b) x y = .ok (if b=true then x else y):=by
 unfold pickX
 rw [gd_truth,if_neg (by decide)]
 cases b
 ·rw [if_pos (show truth false=(false,0) from rfl)];rfl
 ·rw [if_neg (show truth true≠(false,0) by decide)];rfl
theorem zz_inj {x y:Nm} (hx:In2 x.2) (hy:In2 y.2) (gx:gd x=true) (gy:gd y=true) (h:zz x=zz y):x=y:=by
 obtain ⟨a,M⟩:=x
 obtain ⟨b,N⟩:=y
 unfold gd formB at gx gy
 unfold zz zv at h
 unfold In2 at hx hy
 simp only at *
 cases a<;>cases b<;>simp_all<;>omega
theorem node_neg {u:Nm} (hu:In2 u.2):nodeX 10 [u]=doX 6 (false,0) u:=by
 rw [nodeX]
 unfold doX
 rw [show (gd (false,0)&&gd u)=gd u by rw [show gd (false,0)=true from rfl,Bool.true_and]]
 cases g:gd u with
 | false=>rfl
 | true =>
  have hr:=(gd_q g hu).2
  rw [if_neg (by decide),if_pos rfl,if_neg (by decide),if_neg (by omega),show arith 6 (zz (false,0)) (zz u) = -(zz u) by unfold arith;rw [if_neg (by decide),if_pos rfl,show zz (false,0)=0 from rfl];omega,if_pos (by unfold R127 at *;omega)]
theorem node_not (u:Nm):nodeX 15 [u]=sameX (false,0) u:=by
 rw [nodeX]
 unfold sameX truX
 rw [show (gd (false,0)&&gd u)=gd u by rw [show gd (false,0)=true from rfl,Bool.true_and],if_neg (show ¬ (15:Int)=10 by decide)]
 have e:decide (((false,0):Nm)=u)=decide (u=(false,0)):=by
  by_cases h:u=(false,0)
  ·rw [cP h,cP h.symm]
  ·rw [cO h,cO (fun e=>h e.symm)]
 rw [e]
theorem less_ok {x y a:Nm} (h:lessX x y = .ok a):In2 a.2:=by
 unfold lessX truX at h
 split at h
 ·cases h
 ·cases h;exact truth_in2 _
theorem less_err {x y:Nm} {e:Int} (h:lessX x y = .error e):e≠0:=by
 unfold lessX truX at h
 split at h
 ·cases h;decide
 ·cases h
theorem node_least {x y:Nm} (hx:In2 x.2) (hy:In2 y.2):nodeX 11 [x,y]=choX lessX x y:=by
 rw [nodeX]
 rw [if_neg (by decide),if_neg (by decide),if_pos (rfl:(11:Int)=11)]
 unfold choX lessX truX
 cases g:(gd x&&gd y) with
 | false=>rfl
 | true =>
  obtain ⟨gx,gy⟩:=Bool.and_eq_true_iff.1 g
  simp only [Bool.true_eq_false,if_false,pick_truth]
  by_cases h:zz x<zz y
  ·rw [if_neg V3,if_pos (cP h)]
  ·rw [if_neg (show ¬ decide (zz x<zz y)=true by rw [cO h];decide)]
   by_cases h2:zz y<zz x
   ·rw [if_pos h2]
   ·rw [if_neg h2,zz_inj hx hy gx gy V3]
theorem node_great {x y:Nm} (hx:In2 x.2) (hy:In2 y.2):nodeX 12 [x,y]=choX (fun x y=>lessX y x) x y:=by
 rw [nodeX]
 rw [if_neg (by decide),if_neg (by decide),if_neg (show ¬ (12:Int)=11 by decide),if_pos (rfl:(12:Int)=12)]
 unfold choX lessX truX
 simp only
 rw [Bool.and_comm]
 cases g:(gd y&&gd x) with
 | false=>rfl
 | true =>
  obtain ⟨gy,gx⟩:=Bool.and_eq_true_iff.1 g
  simp only [Bool.true_eq_false,if_false,pick_truth]
  by_cases h:zz y<zz x
  ·rw [if_neg V3,if_pos (cP h)]
  ·rw [if_neg (show ¬ decide (zz y<zz x)=true by rw [cO h];decide)]
   by_cases h2:zz x<zz y
   ·rw [if_pos h2]
   ·rw [if_neg h2,zz_inj hx hy gx gy V3]
theorem node_same (x y:Nm):nodeX 13 [x,y]=sameX x y:=by
 rw [nodeX]
 rw [if_neg (by decide),if_neg (by decide),if_neg (show ¬ (13:Int)=11 by decide),if_neg (show ¬ (13:Int)=12 by decide),if_pos (rfl:(13:Int)=13)]
 rfl
theorem node_less (x y:Nm):nodeX 14 [x,y]=lessX x y:=by
 rw [nodeX]
 rw [if_neg (by decide),if_neg (by decide),if_neg (show ¬ (14:Int)=11 by decide),if_neg (show ¬ (14:Int)=12 by decide),if_neg (show ¬ (14:Int)=13 by decide)]
 rfl
theorem node_need (x y:Nm):nodeX 17 [x,y]=needX x y:=by
 rw [nodeX]
 rw [if_neg (by decide),if_pos rfl]
 rfl
theorem node_do {op:Int} (ho:5≤op∧op≤9) (x y:Nm):nodeX op [x,y]=doX op x y:=if_pos ho
def cloF (op:Int):FuncId:=if op=16 then 223 else if op=10∨op=15 then 218 else 211
def wordS (op:Int):List UInt8:=if 5≤op∧op≤17 then wordX op else []
def rowL (op:Int):List Value:=[.string ⟨(wordS op).toArray⟩,.int .i64 (takes op:Nat),.bool (op==2||op==3),.bool (op==2),.bool (op==1)]
abbrev LRow (op:Int) (c:CV):LV:=.sv (.agg ((rowL op).map .val++[c]))
abbrev dB (k:Nat) (op:Int):Nat×Option Box:=(k,some ⟨0,[],.res (deedR (cloF op) op)⟩)
def leafV (op:Int):Value:=if op=1 then fnV 178 else if op=2 then fnV 179 else if op=3 then fnV 180 else if op=4 then fnV 181 else .nilFunc
def rwR (op:Int):LV:=if 5≤op∧op≤17 then LRow op (ptrF (cloF op) 1000001) else LRow op (.val (leafV op))
def rwBx (op:Int):List (Nat×Option Box):=if 5≤op∧op≤17 then [dB 1000001 op] else []
theorem rw_fn {op:Int} (h:5≤op∧op≤17):rwR op=LRow op (ptrF (cloF op) 1000001)∧rwBx op=[dB 1000001 op]:=⟨if_pos h,if_pos h⟩
theorem rw_no {op:Int} (h:¬ (5≤op∧op≤17)):rwR op=LRow op (.val (leafV op))∧rwBx op=[]:=⟨if_neg h,if_neg h⟩
theorem rwBx_use (op:Int):((rwBx op).all fun p=>match p.2 with|some b=>b.cells.all (CV.inUse (rwBx op))|none=>true)=true:=by
 by_cases h:5≤op∧op≤17
 ·rw [(rw_fn h).2];rfl
 ·rw [(rw_no h).2];rfl
theorem rwR_use (op:Int):LV.inUse (rwBx op) (rwR op)=true:=by
 by_cases h:5≤op∧op≤17
 ·rw [(rw_fn h).1,(rw_fn h).2];rfl
 ·rw [(rw_no h).1,(rw_no h).2];rfl
theorem rowL_bad {op:Int} (h:op<1∨17<op):rowL op=[.string ⟨#[]⟩,.int .i64 0,.bool false,.bool false,.bool false]:=by
 unfold rowL wordS
 rw [if_neg (by omega),takes_out (by omega),cS (show op≠2 by omega),cS (show op≠3 by omega),cS (show op≠1 by omega)]
 rfl
set_option maxHeartbeats 12800000 in
theorem rowOf_all (op:Int):MSpec Tryz.prog X 143 [Ln .i64 op] [] (rwR op) (rwBx op):=by
 refine cG Tryz.func143 rfl V5 rfl (rwR_use op) (rwBx_use op) rfl rfl ?_
 intro C
 refine LWP.ends ?_
 refine U11 ?_
 by_cases c1:op=1
 ·subst c1
  rw [(rw_no (op:=1) (by decide)).1,(rw_no (op:=1) (by decide)).2]
  refine U12 ?_
  exact cD ⟨[],⟨[_],⟨⟨_,_,O,O,O,.inl ⟨AggT.h,O⟩⟩,trivial⟩,O⟩,trivial,O,O⟩
 (refine rgN<|keq O O (r:=false) (cS c1) ?_;refine U4 ?_)
 by_cases c2:op=2
 ·subst c2
  rw [(rw_no (op:=2) (by decide)).1,(rw_no (op:=2) (by decide)).2]
  refine U12 ?_
  exact cD ⟨[],⟨[_],⟨⟨_,_,O,O,O,.inl ⟨AggT.h,O⟩⟩,trivial⟩,O⟩,trivial,O,O⟩
 (refine rgN<|keq O O (r:=false) (cS c2) ?_;refine U4 ?_)
 by_cases c3:op=3
 ·subst c3
  rw [(rw_no (op:=3) (by decide)).1,(rw_no (op:=3) (by decide)).2]
  refine U12 ?_
  exact cD ⟨[],⟨[_],⟨⟨_,_,O,O,O,.inl ⟨AggT.h,O⟩⟩,trivial⟩,O⟩,trivial,O,O⟩
 (refine rgN<|keq O O (r:=false) (cS c3) ?_;refine U4 ?_)
 by_cases c4:op=4
 ·subst c4
  rw [(rw_no (op:=4) (by decide)).1,(rw_no (op:=4) (by decide)).2]
  refine U11 ?_
  exact cD ⟨[],⟨[_],⟨⟨_,_,O,O,O,.inl ⟨AggT.h,O⟩⟩,trivial⟩,O⟩,trivial,O,O⟩
 (refine rgN<|keq O O (r:=false) (cS c4) ?_;refine U4 ?_)
 by_cases c5:op=5
 ·subst c5
  rw [(rw_fn (op:=5) (by decide)).1,(rw_fn (op:=5) (by decide)).2]
  (refine U7 ?_;refine bE [(1000001,501)] (.sv (.one (ptrF 211 501))) [vB 275 501 (.val (fnV 183))] ((mA_ofTwo X 183)) O O VC O O O O O V19 dS ?_;refine U4 ?_)
  refine cE (σ':=⟨[(2,Lp 2)],vB 275 501 (.val (fnV 183))::(2,some ⟨190,(rowL 5).map .val++[ptrF (cloF 5) 501],false⟩)::[],X⟩) (Le.of V13 VE V2 V2 V0) ?_
  refine deed_shut1 (f:=cloF 5) (op:=5) (fun Y _ _ _ _ h1 h2=>deed_two O h1 h2 (two_fn Y (fun Z x y hx hy=>wAdd_do Z x y hx hy)) (fun u w _ _=>node_do VA u w)) (cD ?_)
  exact ⟨[(1000001,501)],⟨[_],⟨⟨_,_,O,O,O,.inl ⟨AggT.h,O⟩⟩,trivial⟩,O⟩,V1,O,O⟩
 (refine rgN<|keq O O (r:=false) (cS c5) ?_;refine U4 ?_)
 by_cases c6:op=6
 ·subst c6
  rw [(rw_fn (op:=6) (by decide)).1,(rw_fn (op:=6) (by decide)).2]
  (refine U7 ?_;refine bE [(1000001,501)] (.sv (.one (ptrF 211 501))) [vB 275 501 (.val (fnV 184))] ((mA_ofTwo X 184)) O O VC O O O O O V19 dS ?_;refine U4 ?_)
  refine cE (σ':=⟨[(2,Lp 2)],vB 275 501 (.val (fnV 184))::(2,some ⟨190,(rowL 6).map .val++[ptrF (cloF 6) 501],false⟩)::[],X⟩) (Le.of V13 VE V2 V2 V0) ?_
  refine deed_shut1 (f:=cloF 6) (op:=6) (fun Y _ _ _ _ h1 h2=>deed_two O h1 h2 (two_fn Y (fun Z x y hx hy=>wSub_do Z x y hx hy)) (fun u w _ _=>node_do VA u w)) (cD ?_)
  exact ⟨[(1000001,501)],⟨[_],⟨⟨_,_,O,O,O,.inl ⟨AggT.h,O⟩⟩,trivial⟩,O⟩,V1,O,O⟩
 (refine rgN<|keq O O (r:=false) (cS c6) ?_;refine U4 ?_)
 by_cases c7:op=7
 ·subst c7
  rw [(rw_fn (op:=7) (by decide)).1,(rw_fn (op:=7) (by decide)).2]
  (refine U7 ?_;refine bE [(1000001,501)] (.sv (.one (ptrF 211 501))) [vB 275 501 (.val (fnV 185))] ((mA_ofTwo X 185)) O O VC O O O O O V19 dS ?_;refine U4 ?_)
  refine cE (σ':=⟨[(2,Lp 2)],vB 275 501 (.val (fnV 185))::(2,some ⟨190,(rowL 7).map .val++[ptrF (cloF 7) 501],false⟩)::[],X⟩) (Le.of V13 VE V2 V2 V0) ?_
  refine deed_shut1 (f:=cloF 7) (op:=7) (fun Y _ _ _ _ h1 h2=>deed_two O h1 h2 (two_fn Y (fun Z x y hx hy=>wMul_do Z x y hx hy)) (fun u w _ _=>node_do VA u w)) (cD ?_)
  exact ⟨[(1000001,501)],⟨[_],⟨⟨_,_,O,O,O,.inl ⟨AggT.h,O⟩⟩,trivial⟩,O⟩,V1,O,O⟩
 (refine rgN<|keq O O (r:=false) (cS c7) ?_;refine U4 ?_)
 by_cases c8:op=8
 ·subst c8
  rw [(rw_fn (op:=8) (by decide)).1,(rw_fn (op:=8) (by decide)).2]
  (refine U7 ?_;refine bE [(1000001,501)] (.sv (.one (ptrF 211 501))) [vB 275 501 (.val (fnV 186))] ((mA_ofTwo X 186)) O O VC O O O O O V19 dS ?_;refine U4 ?_)
  refine cE (σ':=⟨[(2,Lp 2)],vB 275 501 (.val (fnV 186))::(2,some ⟨190,(rowL 8).map .val++[ptrF (cloF 8) 501],false⟩)::[],X⟩) (Le.of V13 VE V2 V2 V0) ?_
  refine deed_shut1 (f:=cloF 8) (op:=8) (fun Y _ _ _ _ h1 h2=>deed_two O h1 h2 (two_fn Y (fun Z x y hx hy=>wQuo_do Z x y hx hy)) (fun u w _ _=>node_do VA u w)) (cD ?_)
  exact ⟨[(1000001,501)],⟨[_],⟨⟨_,_,O,O,O,.inl ⟨AggT.h,O⟩⟩,trivial⟩,O⟩,V1,O,O⟩
 (refine rgN<|keq O O (r:=false) (cS c8) ?_;refine U4 ?_)
 by_cases c9:op=9
 ·subst c9
  rw [(rw_fn (op:=9) (by decide)).1,(rw_fn (op:=9) (by decide)).2]
  (refine U7 ?_;refine bE [(1000001,501)] (.sv (.one (ptrF 211 501))) [vB 275 501 (.val (fnV 187))] ((mA_ofTwo X 187)) O O VC O O O O O V19 dS ?_;refine U4 ?_)
  refine cE (σ':=⟨[(2,Lp 2)],vB 275 501 (.val (fnV 187))::(2,some ⟨190,(rowL 9).map .val++[ptrF (cloF 9) 501],false⟩)::[],X⟩) (Le.of V13 VE V2 V2 V0) ?_
  refine deed_shut1 (f:=cloF 9) (op:=9) (fun Y _ _ _ _ h1 h2=>deed_two O h1 h2 (two_fn Y (fun Z x y hx hy=>wRem_do Z x y hx hy)) (fun u w _ _=>node_do VA u w)) (cD ?_)
  exact ⟨[(1000001,501)],⟨[_],⟨⟨_,_,O,O,O,.inl ⟨AggT.h,O⟩⟩,trivial⟩,O⟩,V1,O,O⟩
 (refine rgN<|keq O O (r:=false) (cS c9) ?_;refine U4 ?_)
 by_cases c10:op=10
 ·subst c10
  rw [(rw_fn (op:=10) (by decide)).1,(rw_fn (op:=10) (by decide)).2]
  (refine U7 ?_;refine bE [(1000001,501)] (.sv (.one (ptrF 219 501))) [vB 275 501 (.val (fnV 184))] ((mA_withZero X 184)) O O VC O O O O O V19 dS<|bE [(1000001,502),(1000002,501)] (.sv (.one (ptrF 218 502))) [vB 273 502 (ptrF 219 501),vB 275 501 (.val (fnV 184))] ((mB_ofOne X 219 184 275)) O O V17 (by exact (bT (bT O O) O)) O O O O V27 dS ?_;refine U4 ?_)
  refine cE (σ':=⟨[(2,Lp 2)],vB 273 502 (ptrF 219 501)::vB 275 501 (.val (fnV 184))::(2,some ⟨190,(rowL 10).map .val++[ptrF (cloF 10) 502],false⟩)::[],X⟩) (Le.of V13 V9 V2 V2 V0) ?_
  refine deed_shut2 (f:=cloF 10) (op:=10) (fun Y _ _ _ _ _ _ _ _ h1 h2 h3 h4=>deed_one O h3 h4 (one_zero h1 h2 (two_fn Y (fun Z x y hx hy=>wSub_do Z x y hx hy))) (fun u hu=>node_neg hu)) O O O (cD ?_)
  exact ⟨[(1000001,502)],⟨[_],⟨⟨_,_,O,O,O,.inl ⟨AggT.h,O⟩⟩,trivial⟩,O⟩,V1,O,O⟩
 (refine rgN<|keq O O (r:=false) (cS c10) ?_;refine U4 ?_)
 by_cases c11:op=11
 ·subst c11
  rw [(rw_fn (op:=11) (by decide)).1,(rw_fn (op:=11) (by decide)).2]
  (refine U7 ?_;refine bE [(1000001,501)] (.sv (.one (ptrF 220 501))) [vB 275 501 (.val (fnV 191))] ((mA_chosen X 191)) O O VC O O O O O V19 dS<|bE [(1000001,502),(1000002,501)] (.sv (.one (ptrF 211 502))) [vB 275 502 (ptrF 220 501),vB 275 501 (.val (fnV 191))] ((mB_ofTwo X 220 191 275)) O O V17 (by exact (bT (bT O O) O)) O O O O V27 dS ?_;refine U4 ?_)
  refine cE (σ':=⟨[(2,Lp 2)],vB 275 502 (ptrF 220 501)::vB 275 501 (.val (fnV 191))::(2,some ⟨190,(rowL 11).map .val++[ptrF (cloF 11) 502],false⟩)::[],X⟩) (Le.of V13 V9 V2 V2 V0) ?_
  refine deed_shut2 (f:=cloF 11) (op:=11) (fun Y _ _ _ _ _ _ _ _ h1 h2 h3 h4=>deed_two O h3 h4 (two_chosen h1 h2 (two_fn Y (fun Z x y hx hy=>tLess Z x y hx hy)) (fun _ _ _ h=>less_ok h) (fun _ _ _ h=>less_err h)) (fun u w hu hw=>node_least hu hw)) O O O (cD ?_)
  exact ⟨[(1000001,502)],⟨[_],⟨⟨_,_,O,O,O,.inl ⟨AggT.h,O⟩⟩,trivial⟩,O⟩,V1,O,O⟩
 (refine rgN<|keq O O (r:=false) (cS c11) ?_;refine U4 ?_)
 by_cases c12:op=12
 ·subst c12
  rw [(rw_fn (op:=12) (by decide)).1,(rw_fn (op:=12) (by decide)).2]
  (refine U7 ?_;refine bE [(1000001,501)] (.sv (.one (ptrF 222 501))) [vB 275 501 (.val (fnV 191))] ((mA_swapped X 191)) O O VC O O O O O V19 dS<|bE [(1000001,502),(1000002,501)] (.sv (.one (ptrF 220 502))) [vB 275 502 (ptrF 222 501),vB 275 501 (.val (fnV 191))] ((mB_chosen X 222 191 275)) O O V17 (by exact (bT (bT O O) O)) O O O O V27 dS<|bE [(1000001,503),(1000002,502),(1000003,501)] (.sv (.one (ptrF 211 503))) [vB 275 503 (ptrF 220 502),vB 275 502 (ptrF 222 501),vB 275 501 (.val (fnV 191))] ((mC_ofTwo X 220 222 191 275)) O O (by exact (cR ⟨_,O,O⟩ (cR ⟨_,O,O⟩ trivial))) (by exact (bT (bT O O) (bT (bT O O) O))) O O O O V23 dS ?_;refine U4 ?_)
  refine cE (σ':=⟨[(2,Lp 2)],vB 275 503 (ptrF 220 502)::vB 275 502 (ptrF 222 501)::vB 275 501 (.val (fnV 191))::(2,some ⟨190,(rowL 12).map .val++[ptrF (cloF 12) 503],false⟩)::[],X⟩) (Le.of V13 V8 V2 V2 V0) ?_
  refine deed_shut3 (f:=cloF 12) (op:=12) (fun Y _ _ _ _ _ _ _ _ _ _ _ _ h1 h2 h3 h4 h5 h6=>deed_two O h5 h6 (two_chosen h3 h4 (two_swapped h1 h2 (two_fn Y (fun Z x y hx hy=>tLess Z x y hx hy))) (fun _ _ _ h=>less_ok h) (fun _ _ _ h=>less_err h)) (fun u w hu hw=>node_great hu hw)) O O O O O O O (cD ?_)
  exact ⟨[(1000001,503)],⟨[_],⟨⟨_,_,O,O,O,.inl ⟨AggT.h,O⟩⟩,trivial⟩,O⟩,V1,O,O⟩
 (refine rgN<|keq O O (r:=false) (cS c12) ?_;refine U4 ?_)
 by_cases c13:op=13
 ·subst c13
  rw [(rw_fn (op:=13) (by decide)).1,(rw_fn (op:=13) (by decide)).2]
  (refine U7 ?_;refine bE [(1000001,501)] (.sv (.one (ptrF 211 501))) [vB 275 501 (.val (fnV 193))] ((mA_ofTwo X 193)) O O VC O O O O O V19 dS ?_;refine U4 ?_)
  refine cE (σ':=⟨[(2,Lp 2)],vB 275 501 (.val (fnV 193))::(2,some ⟨190,(rowL 13).map .val++[ptrF (cloF 13) 501],false⟩)::[],X⟩) (Le.of V13 VE V2 V2 V0) ?_
  refine deed_shut1 (f:=cloF 13) (op:=13) (fun Y _ _ _ _ h1 h2=>deed_two O h1 h2 (two_fn Y (fun Z x y hx hy=>tSame Z x y hx hy)) (fun u w _ _=>node_same u w)) (cD ?_)
  exact ⟨[(1000001,501)],⟨[_],⟨⟨_,_,O,O,O,.inl ⟨AggT.h,O⟩⟩,trivial⟩,O⟩,V1,O,O⟩
 (refine rgN<|keq O O (r:=false) (cS c13) ?_;refine U4 ?_)
 by_cases c14:op=14
 ·subst c14
  rw [(rw_fn (op:=14) (by decide)).1,(rw_fn (op:=14) (by decide)).2]
  (refine U7 ?_;refine bE [(1000001,501)] (.sv (.one (ptrF 211 501))) [vB 275 501 (.val (fnV 191))] ((mA_ofTwo X 191)) O O VC O O O O O V19 dS ?_;refine U4 ?_)
  refine cE (σ':=⟨[(2,Lp 2)],vB 275 501 (.val (fnV 191))::(2,some ⟨190,(rowL 14).map .val++[ptrF (cloF 14) 501],false⟩)::[],X⟩) (Le.of V13 VE V2 V2 V0) ?_
  refine deed_shut1 (f:=cloF 14) (op:=14) (fun Y _ _ _ _ h1 h2=>deed_two O h1 h2 (two_fn Y (fun Z x y hx hy=>tLess Z x y hx hy)) (fun u w _ _=>node_less u w)) (cD ?_)
  exact ⟨[(1000001,501)],⟨[_],⟨⟨_,_,O,O,O,.inl ⟨AggT.h,O⟩⟩,trivial⟩,O⟩,V1,O,O⟩
 (refine rgN<|keq O O (r:=false) (cS c14) ?_;refine U4 ?_)
 by_cases c15:op=15
 ·subst c15
  rw [(rw_fn (op:=15) (by decide)).1,(rw_fn (op:=15) (by decide)).2]
  (refine U7 ?_;refine bE [(1000001,501)] (.sv (.one (ptrF 219 501))) [vB 275 501 (.val (fnV 193))] ((mA_withZero X 193)) O O VC O O O O O V19 dS<|bE [(1000001,502),(1000002,501)] (.sv (.one (ptrF 218 502))) [vB 273 502 (ptrF 219 501),vB 275 501 (.val (fnV 193))] ((mB_ofOne X 219 193 275)) O O V17 (by exact (bT (bT O O) O)) O O O O V27 dS ?_;refine U4 ?_)
  refine cE (σ':=⟨[(2,Lp 2)],vB 273 502 (ptrF 219 501)::vB 275 501 (.val (fnV 193))::(2,some ⟨190,(rowL 15).map .val++[ptrF (cloF 15) 502],false⟩)::[],X⟩) (Le.of V13 V9 V2 V2 V0) ?_
  refine deed_shut2 (f:=cloF 15) (op:=15) (fun Y _ _ _ _ _ _ _ _ h1 h2 h3 h4=>deed_one O h3 h4 (one_zero h1 h2 (two_fn Y (fun Z x y hx hy=>tSame Z x y hx hy))) (fun u hu=>node_not u)) O O O (cD ?_)
  exact ⟨[(1000001,502)],⟨[_],⟨⟨_,_,O,O,O,.inl ⟨AggT.h,O⟩⟩,trivial⟩,O⟩,V1,O,O⟩
 (refine rgN<|keq O O (r:=false) (cS c15) ?_;refine U4 ?_)
 by_cases c16:op=16
 ·subst c16
  rw [(rw_fn (op:=16) (by decide)).1,(rw_fn (op:=16) (by decide)).2]
  (refine U7 ?_;refine bE [(1000001,501)] (.sv (.one (ptrF 223 501))) [vB 297 501 (.val (fnV 195))] ((mA_ofThree X 195)) O O VC O O O O O V19 dS ?_;refine U4 ?_)
  refine cE (σ':=⟨[(2,Lp 2)],vB 297 501 (.val (fnV 195))::(2,some ⟨190,(rowL 16).map .val++[ptrF (cloF 16) 501],false⟩)::[],X⟩) (Le.of V13 VE V2 V2 V0) ?_
  refine deed_shut1 (f:=cloF 16) (op:=16) (fun Y _ _ _ _ h1 h2=>deed_three O h1 h2 (three_fn Y (fun Z x y z hx hy hz=>tPick Z x y z hx)) (fun u w z _ _ _=>O)) (cD ?_)
  exact ⟨[(1000001,501)],⟨[_],⟨⟨_,_,O,O,O,.inl ⟨AggT.h,O⟩⟩,trivial⟩,O⟩,V1,O,O⟩
 (refine rgN<|keq O O (r:=false) (cS c16) ?_;refine U4 ?_)
 by_cases c17:op=17
 ·subst c17
  rw [(rw_fn (op:=17) (by decide)).1,(rw_fn (op:=17) (by decide)).2]
  (refine U7 ?_;refine bE [(1000001,501)] (.sv (.one (ptrF 211 501))) [vB 275 501 (.val (fnV 196))] ((mA_ofTwo X 196)) O O VC O O O O O V19 dS ?_;refine U4 ?_)
  refine cE (σ':=⟨[(2,Lp 2)],vB 275 501 (.val (fnV 196))::(2,some ⟨190,(rowL 17).map .val++[ptrF (cloF 17) 501],false⟩)::[],X⟩) (Le.of V13 VE V2 V2 V0) ?_
  refine deed_shut1 (f:=cloF 17) (op:=17) (fun Y _ _ _ _ h1 h2=>deed_two O h1 h2 (two_fn Y (fun Z x y hx hy=>tNeed Z x y hy)) (fun u w _ _=>node_need u w)) (cD ?_)
  exact ⟨[(1000001,501)],⟨[_],⟨⟨_,_,O,O,O,.inl ⟨AggT.h,O⟩⟩,trivial⟩,O⟩,V1,O,O⟩
 (refine rgN<|keq O O (r:=false) (cS c17) ?_;refine U5 ?_)
 have hbad:op<1∨17<op:=by omega
 rw [(rw_no (op:=op) (by omega)).1,(rw_no (op:=op) (by omega)).2]
 unfold LRow
 rw [rowL_bad hbad,show leafV op = .nilFunc by unfold leafV;rw [if_neg c1,if_neg c2,if_neg c3,if_neg c4]]
 refine U5 ?_
 exact cD ⟨[],⟨[_],⟨⟨_,_,O,O,O,.inl ⟨AggT.h,O⟩⟩,trivial⟩,O⟩,trivial,O,O⟩
theorem rowOf_fn (op:Int) (h:5≤op∧op≤17):MSpec Tryz.prog X 143 [Ln .i64 op] [] (LRow op (ptrF (cloF op) 1000001)) [dB 1000001 op]:=by
 have:=rowOf_all X op
 rw [(rw_fn h).1,(rw_fn h).2] at this
 exact this
theorem rowOf_leaf (op:Int) (h:¬ (5≤op∧op≤17)):PSpec Tryz.prog X 143 [Ln .i64 op] (LRow op (.val (leafV op))):=by
 have:=rowOf_all X op
 rw [(rw_no h).1,(rw_no h).2] at this
 exact this.plain
theorem rowOf_1:PSpec Tryz.prog X 143 [Ln .i64 1] (LRow 1 (.val (fnV 178))):=rowOf_leaf X 1 VA
theorem rowOf_2:PSpec Tryz.prog X 143 [Ln .i64 2] (LRow 2 (.val (fnV 179))):=rowOf_leaf X 2 VA
theorem rowOf_3:PSpec Tryz.prog X 143 [Ln .i64 3] (LRow 3 (.val (fnV 180))):=rowOf_leaf X 3 VA
theorem rowOf_4:PSpec Tryz.prog X 143 [Ln .i64 4] (LRow 4 (.val (fnV 181))):=rowOf_leaf X 4 VA
theorem rowOf_no (op:Int) (h:op<1∨17<op):PSpec Tryz.prog X 143 [Ln .i64 op] (LRow op (.val .nilFunc)):=by
 have:=rowOf_leaf X op V3
 rw [show leafV op = .nilFunc by unfold leafV;rw [if_neg (by omega),if_neg (by omega),if_neg (by omega),if_neg (by omega)]] at this
 exact this
end Go.Proofs.YtopiioklkkiedaaGreatDoor
end
