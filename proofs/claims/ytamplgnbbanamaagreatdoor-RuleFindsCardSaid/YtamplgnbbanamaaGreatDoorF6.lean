/- A piece of a proof over this program: contracts of its functions, and a logic to prove them by. -/
import Derived.Test.YtamplgnbbanamaaGreatDoorF3
import Derived.Test.YtamplgnbbanamaaGreatDoorF4
import Derived.Test.YtamplgnbbanamaaGreatDoorF5
import Derived.Lib.Join
section
namespace Go.Proofs.YtamplgnbbanamaaGreatDoor
open Go Go.Lg Go.Lg.Fml Go.Lg.Fld Go.Lg.Arith Go.Lg.Sg
set_option maxRecDepth 100000
variable (X:Nat→Option Obj)
theorem joinS_le:∀ {l:List (List UInt8)},l.length≤3→(∀ a∈l,a.length≤3200)→(joinS l).length≤9602
  | [],_,h=>by simp [joinS]
  | [a],_,h=>by have:=h a (by simp);simp only [joinS];omega
  | [a,b],_,h=>by have:=h a (by simp);have:=h b (by simp);simp only [joinS,cV,cY];omega
  | [a,b,c],_,h=>by have:=h a (by simp);have:=h b (by simp);have:=h c (by simp);simp only [joinS,cV,cY];omega
  | _::_::_::_::_,hl,h=>by simp at hl
theorem ends_cell2 {p i:Nat} {us:List Tr} {a:Tr} (h:us[i]? = some a):((nuV (endsI p us)).map CV.val)[i*1]? = some (.val (.int .i64 ((p+(flatL (us.take (i+1))).length-1:Nat):Int))):=by
  refine nu_at ?_
  unfold endsI
  rw [dL,endsL_at h]
  rfl
theorem takes_leaf {x:Ins} (hx:okI x=true) (h0:takes x.op=0):x.op=1∨x.op=2∨x.op=3∨x.op=4:=by
  obtain ⟨h1,_⟩:=okI_facts hx
  unfold takes at h0
  split at h0
  · omega
  · split at h0
    · omega
    · split at h0<;>omega
theorem takes_node {x:Ins} (hx:okI x=true) (h0:takes x.op≠0):5≤x.op∧x.op≤17:=by
  obtain ⟨h1,_⟩:=okI_facts hx
  refine ⟨?_,h1.2⟩
  unfold takes at h0
  split at h0
  · omega
  · split at h0
    · omega
    · split at h0<;>omega
set_option maxHeartbeats 6400000 in
theorem rshow_spec (l:List Ins) (ad:Option Addr) (cap:Nat) (hin:InsIn X ad l) (h64:l.length≤64) (hall:∀ x∈l,okI x=true):
    ∀ (n:Nat) (t:Tr) (p:Nat) (e:Int),t.flat.length≤n→At l p t→t.ok→e=((p+t.flat.length:Nat):Int)-1 →
      PSpec Tryz.prog X 72 [Lx ad l.length cap,Ln .i64 e] (Ls (Tr.txt t))
  | 0,t,p,e,hn,_,_,_=>absurd (flat_len t) (by omega)
  | n+1,t,p,e,hn,hA,ht,he=>by
    have hlen:=hA.len
    have h1:=flat_len t
    have hfl2:t.flat.length=(flatL t.args).length+1:=by rw [flat_args];simp
    have hal:=args_le t
    obtain ⟨htop,hoks⟩:=ok_args ht
    have htl:=hA.top
    obtain ⟨blk,off,arr,el,fr,rfl,hX,hsz,hcs,hop⟩:=hin.at htl
    have hmem:=dD htl
    have hok:=hall _ hmem
    obtain ⟨h17,hgk,ha7,hb7⟩:=okI_facts hok
    have h2:=(hin.small _ hmem).2.2.2
    have hio:off+Int.toNat e*6=off+(p+t.flat.length-1)*6:=by
      have:Int.toNat e=p+t.flat.length-1:=by omega
      rw [this]
    have hin0:0≤e∧e<(l.length:Nat):=by omega
    rw [txt_top]
    by_cases h0:takes t.top.op=0
    · rw [if_pos h0]
      have hdA:=rDigits_spec X t.top.a (by omega) (by omega)
      have hdB:=rDigits_spec X t.top.b (by omega) (by omega)
      have lA:=Lib.itoa_length_le t.top.a (by omega) (by omega)
      have lB:=Lib.itoa_length_le t.top.b (by omega) (by omega)
      have hlf:∀ a b:List UInt8,([102]++a)++([46]++b)=(([102]++a)++[46])++b:=fun a b=>by simp only [dM]
      rcases takes_leaf hok h0 with c|c|c|c
      · obtain ⟨e1,r1⟩:LI t.top.k.1 t.top.k.2=LQ (zz t.top.k)∧R127 (zz t.top.k):=⟨LI_q h2 hgk,(zv_in h2 hgk).1⟩
        have hTx:=RText_spec X (zz t.top.k) r1
        rw [← e1] at hTx
        rw [show leafS t.top=textQ (zz t.top.k) from if_pos c]
        generalize textQ (zz t.top.k)=s at *
        clear e1 r1
        refine cF Tryz.func72 rfl (by kernel_rfl) rfl rfl ?_
        intro C
        (refine aA<|rgN<|kas O<|aB<|aA<|rgN<|kmv O<|kmv O<|aR O O cC hin0 hio dR<|aY O hX (by kernel_rfl) hsz hcs dR<|aP O dR ?_;refine aM O O O O O O dR ?_;refine aB<|aA<|aA<|rgN<|kfa O O ?_;refine kl1 O O O<|aB<|aG<|aA<|rgN<|keq O O (r:=true) (cU c)<|kas O<|aB<|aE O ?_;refine aA<|rgN<|kfa O O ?_;refine bJ O O O (by exact nl3 O O O O) dR ?_;refine kca O O (hTx)<|kas O<|aB<|aI ?_)
        exact ⟨[_],⟨O,trivial⟩,O⟩
      · rw [show leafS t.top=([102]++dg1 t.top.a)++([46]++dg1 t.top.b) by unfold leafS;rw [if_neg (by omega),if_pos c],hlf]
        unfold dg1
        generalize Lib.itoa t.top.a=sa at *
        generalize Lib.itoa t.top.b=sb at *
        have g1:(⟨([102]:List UInt8).toArray⟩:ByteArray).size+(⟨sa.toArray⟩:ByteArray).size≤9223372036854775807:=by show 1+sa.length≤_;omega
        have g2:(⟨(([102]:List UInt8)++sa).toArray⟩:ByteArray).size+(⟨([46]:List UInt8).toArray⟩:ByteArray).size≤9223372036854775807:=by show (([102]:List UInt8)++sa).length+1≤_;rw [cV];simp only [cY];omega
        have g3:(⟨((([102]:List UInt8)++sa)++[46]).toArray⟩:ByteArray).size+(⟨sb.toArray⟩:ByteArray).size≤9223372036854775807:=by show ((([102]:List UInt8)++sa)++[46]).length+sb.length≤_;rw [cV,cV];simp only [cY];omega
        refine cF Tryz.func72 rfl (by kernel_rfl) rfl rfl ?_
        intro C
        (refine aA<|rgN<|kas O<|aB<|aA<|rgN<|kmv O<|kmv O<|aR O O cC hin0 hio dR<|aY O hX (by kernel_rfl) hsz hcs dR<|aP O dR ?_;refine aM O O O O O O dR ?_;refine aB<|aA<|aA<|rgN<|kfa O O ?_;refine kl1 O O O<|aB<|aG<|aA<|rgN<|keq O O (r:=false) (cR (by omega))<|kas O<|aB<|aF O ?_;refine aA<|rgN<|keq O O (r:=true) (cU c)<|kas O<|aB<|aE O ?_;refine aA<|rgD mixed<|kfa O O ?_;refine kl1 O O O<|kca O O hdA<|bM O O g1 (str_add [102] sa) dR<|bM O O g2 (str_add ([102]++sa) [46]) dR<|kfa O O ?_;refine kl1 O O O<|kca O O hdB<|bM O O g3 (str_add (([102]++sa)++[46]) sb) dR<|kas O<|aB<|rgA ?_;refine aI ?_)
        exact ⟨[_],⟨O,trivial⟩,O⟩
      · rw [show leafS t.top=([102]++dg1 t.top.a)++[64] by unfold leafS;rw [if_neg (by omega),if_neg (by omega),if_pos c]]
        unfold dg1
        generalize Lib.itoa t.top.a=sa at *
        have g1:(⟨([102]:List UInt8).toArray⟩:ByteArray).size+(⟨sa.toArray⟩:ByteArray).size≤9223372036854775807:=by show 1+sa.length≤_;omega
        have g2:(⟨(([102]:List UInt8)++sa).toArray⟩:ByteArray).size+(⟨([64]:List UInt8).toArray⟩:ByteArray).size≤9223372036854775807:=by show (([102]:List UInt8)++sa).length+1≤_;rw [cV];simp only [cY];omega
        refine cF Tryz.func72 rfl (by kernel_rfl) rfl rfl ?_
        intro C
        (refine aA<|rgN<|kas O<|aB<|aA<|rgN<|kmv O<|kmv O<|aR O O cC hin0 hio dR<|aY O hX (by kernel_rfl) hsz hcs dR<|aP O dR ?_;refine aM O O O O O O dR ?_;refine aB<|aA<|aA<|rgN<|kfa O O ?_;refine kl1 O O O<|aB<|aG<|aA<|rgN<|keq O O (r:=false) (cR (by omega))<|kas O<|aB<|aF O ?_;refine aA<|rgN<|keq O O (r:=false) (cR (by omega))<|kas O<|aB<|aF O ?_;refine aA<|rgN<|keq O O (r:=true) (cU c)<|kas O<|aB<|aE O ?_;refine aA<|rgN<|kfa O O ?_;refine kl1 O O O<|kca O O hdA<|bM O O g1 (str_add [102] sa) dR<|bM O O g2 (str_add ([102]++sa) [64]) dR<|kas O<|aB<|aI ?_)
        exact ⟨[_],⟨O,trivial⟩,O⟩
      · rw [show leafS t.top=[64] by unfold leafS;rw [if_neg (by omega),if_neg (by omega),if_neg (by omega)]]
        refine cF Tryz.func72 rfl (by kernel_rfl) rfl rfl ?_
        intro C
        (refine aA<|rgN<|kas O<|aB<|aA<|rgN<|kmv O<|kmv O<|aR O O cC hin0 hio dR<|aY O hX (by kernel_rfl) hsz hcs dR<|aP O dR ?_;refine aM O O O O O O dR ?_;refine aB<|aA<|aA<|rgN<|kfa O O ?_;refine kl1 O O O<|aB<|aG<|aA<|rgN<|keq O O (r:=false) (cR (by omega))<|kas O<|aB<|aF O ?_;refine aA<|rgN<|keq O O (r:=false) (cR (by omega))<|kas O<|aB<|aF O ?_;refine aA<|rgN<|keq O O (r:=false) (cR (by omega))<|kas O<|aB<|aF O ?_;refine aA<|rgN<|keq O O (r:=true) (cU c)<|kas O<|aB<|aE O ?_;refine aA<|rgN<|kas O<|aB<|aI ?_)
        exact ⟨[_],⟨O,trivial⟩,O⟩
    rw [if_neg h0]
    have h517:=takes_node hok h0
    have hB:=rBranches_spec X l (some ⟨blk,off,none⟩) cap hin (by omega) hA ht (by omega) e he
    have hEl:=endsI_len p t.args
    rw [hEl] at hB
    have hw:=word_at h517
    have hwl:=word_len t.top.op
    have hix:0+Int.toNat t.top.op*1=t.top.op.toNat:=by omega
    have htx:∀ a∈t.args,(Tr.txt a).length≤3200:=fun a ha=>by
      have hm:∀ x∈a.flat,x∈l:=fun x hx=>by
        obtain ⟨pre,suf,e1,_⟩:=hA
        rw [e1]
        refine List.mem_append_right _ (List.mem_append_left _ ?_)
        rw [flat_args]
        refine List.mem_append_left _ ?_
        clear hB hEl htop hal hfl2 hoks htl hX hsz hcs hop hok h0 h17 hgk ha7 hb7 h2 hw hix h517 hwl hmem
        generalize t.args=us at ha
        induction us with
        | nil=>cases ha
        | cons b us ih =>
          rcases List.mem_cons.1 ha with rfl|ha
          · exact List.mem_append_left _ hx
          · exact List.mem_append_right _ (ih ha)
      have:=txt_len (hoks a ha) (fun x hx=>⟨hall x (hm x hx),(hin.small x (hm x hx)).2.2.2⟩)
      have:a.flat.length≤64:=by
        obtain ⟨i,hi,e2⟩:=List.getElem_of_mem ha
        have:=(hA.arg (i:=i) (a:=a) (by rw [cX hi,e2])).1.len
        omega
      omega
    generalize hW:wordX t.top.op++[40]=W at *
    have hWl:W.length≤6:=by rw [← hW,cV];simp only [cY];omega
    have g1:(⟨(wordX t.top.op).toArray⟩:ByteArray).size+(⟨([40]:List UInt8).toArray⟩:ByteArray).size≤9223372036854775807:=by show (wordX t.top.op).length+1≤_;omega
    have hWs:(⟨(wordX t.top.op).toArray⟩:ByteArray)++⟨([40]:List UInt8).toArray⟩=⟨W.toArray⟩:=by rw [str_add,hW]
    refine cF Tryz.func72 rfl (by kernel_rfl) rfl rfl ?_
    intro C
    have hW0:W=W++joinS ((t.args.map Tr.txt).take 0):=by rw [List.take_zero];show W=W++[];rw [dJ]
    (refine aA<|rgN<|kas O<|aB<|aA<|rgN<|kmv O<|kmv O<|aR O O cC hin0 hio dR<|aY O hX (by kernel_rfl) hsz hcs dR<|aP O dR ?_;refine aM O O O O O O dR ?_;refine aB<|aA<|aA<|rgN<|kfa O O ?_;refine kl1 O O O<|aB<|aG<|aA<|rgN<|keq O O (r:=false) (cR (by omega))<|kas O<|aB<|aF O ?_;refine aA<|rgN<|keq O O (r:=false) (cR (by omega))<|kas O<|aB<|aF O ?_;refine aA<|rgN<|keq O O (r:=false) (cR (by omega))<|kas O<|aB<|aF O ?_;refine aA<|rgN<|keq O O (r:=false) (cR (by omega))<|kas O<|aB<|aF O ?_;refine aH ?_;refine aA<|rgN<|K.buildArr O O (by exact O) O dR ?_;refine aP O dR ?_;refine aM O O O O O O dR ?_;refine aB<|aA<|rgN<|kfa O O ?_;refine kl1 O O O<|K.indexArr O O (by omega) hix dR ?_;refine kl1 O O hw<|bM O O g1 hWs dR<|kas O<|aB<|aA<|rgN<|kmv O<|kmv O<|bE [(1000001,500)] (.sv (.one (.slc 500 0 t.args.length))) [nuB 500 (endsI p t.args)] (hB) O O (by exact trivial) O O O O O (by exact (.box O (bY _ _ _ _) .nil)) dR<|kas O<|aB<|aA<|aA<|rgN ?_;refine kas O<|aB<|aG ?_)
    refine cL (fun m σ=>∃ i:Nat,i≤t.args.length∧m=t.args.length-i∧σ=⟨[(0,Lx (some ⟨blk,off,none⟩) l.length cap),(7,Ls (W++joinS ((t.args.map Tr.txt).take i))),(8,.sv (.one (.slc 500 0 t.args.length))),(9,Ln .i64 (i:Nat))],[nuB 500 (endsI p t.args)],X⟩) t.args.length
      ⟨⟨[(0,Lx (some ⟨blk,off,none⟩) l.length cap),(7,Ls W),(8,.sv (.one (.slc 500 0 t.args.length))),(9,Ln .i64 (0:Nat))],[nuB 500 (endsI p t.args)],X⟩,Le.ofR [(500,500)] (by exact ⟨rfl,rfl,rfl,rfl,trivial⟩) (by repeat' (first|exact trivial|refine cQ ⟨_,rfl,?_⟩ ?_|refine cQ ⟨_,rfl⟩ ?_|rfl|exact bX _ _ _ _|exact bY _ _ _ _|exact bZ rfl)) (by exact rfl) (by exact rfl) (by repeat' (first|refine bT ?_ ?_|rfl|exact bV|exact bU|exact bW rfl)) (by exact rfl) (by exact rfl),0,by omega,rfl,by rw [← hW0]⟩ ?_
    rintro m σ ⟨i,hi,rfl,rfl⟩
    have hjl:(joinS ((t.args.map Tr.txt).take i)).length≤9602:=joinS_le (by rw [cZ,cW];omega) (fun a ha=>by
      obtain ⟨b,hb,rfl⟩:=List.mem_map.1 (List.mem_of_mem_take ha)
      exact htx b hb)
    by_cases hlt:i<t.args.length
    · obtain ⟨a,ha⟩:∃ a,t.args[i]? = some a:=⟨_,cX hlt⟩
      obtain ⟨hAa,_⟩:=hA.arg ha
      have hca:=ends_cell2 (p:=p) ha
      have htk:t.args.take (i+1)=t.args.take i++[a]:=take_snoc ha
      have hft:(flatL (t.args.take (i+1))).length=(flatL (t.args.take i)).length+a.flat.length:=by rw [htk,flatL_app,cV];simp [flatL]
      have hle:(flatL (t.args.take (i+1))).length≤(flatL t.args).length:=by
        conv=>rhs;rw [← List.take_append_drop (i+1) t.args,flatL_app,cV]
        omega
      have ha1:=flat_len a
      have hal2:=hAa.len
      have hrec:=rshow_spec l (some ⟨blk,off,none⟩) cap hin h64 hall n a (p+(flatL (t.args.take i)).length) (((p+(flatL (t.args.take (i+1))).length-1:Nat):Int)) (by omega) hAa (hoks a (dD ha)) (by omega)
      have hta:=htx a (dD ha)
      have hnext:joinS ((t.args.map Tr.txt).take (i+1))=if (t.args.map Tr.txt).take i=[] then Tr.txt a else (joinS ((t.args.map Tr.txt).take i)++[44])++Tr.txt a:=by
        rw [take_snoc (f:=Tr.txt a) (by rw [dL,ha];rfl),joinS_snoc]
      generalize ((p+(flatL (t.args.take (i+1))).length-1:Nat):Int)=v at *
      have hio2:0+Int.toNat (i:Int)*1=i*1:=by simp
      have hadd:IntKind.i64.wrap ((i:Int)+1)=((i+1:Nat):Int):=by rw [cH (by omega)];omega
      by_cases hi0:i=0
      · subst hi0
        rw [List.take_zero,if_pos rfl] at hnext
        have e0:W++joinS ((t.args.map Tr.txt).take 0)=W:=hW0.symm
        rw [e0]
        have g2:(⟨W.toArray⟩:ByteArray).size+(⟨(Tr.txt a).toArray⟩:ByteArray).size≤9223372036854775807:=by show W.length+(Tr.txt a).length≤_;omega
        have hs2:(⟨W.toArray⟩:ByteArray)++⟨(Tr.txt a).toArray⟩=⟨(W++joinS ((t.args.map Tr.txt).take (0+1))).toArray⟩:=by rw [str_add,hnext]
        (refine aA<|aA<|rgN<|kmv O<|kmv O<|K.lenSlc O cC O dR ?_;refine klt O O (cP (by omega))<|aB<|aE O ?_;refine aH ?_;refine aA<|aG<|aA<|aA<|rgN<|kmv O<|aS O O (r:=false) O dR<|aB<|aF O ?_;refine aH ?_;refine rgN<|kmv O<|kmv O<|kmv O<|kmv O<|K.indexSlc O O (by omega) hio2 dR ?_;refine kl1 O O hca<|kca O O hrec<|bM O O g2 hs2 dR<|kas O<|aB<|rgN<|kmv O<|kad O O hadd<|kas O<|aB ?_)
        exact ⟨_,⟨[(0,Lx (some ⟨blk,off,none⟩) l.length cap),(7,Ls (W++joinS ((t.args.map Tr.txt).take (0+1)))),(8,.sv (.one (.slc 500 0 t.args.length))),(9,Ln .i64 (0+1:Nat))],[nuB 500 (endsI p t.args)],X⟩,by omega,Le.of (by exact ⟨O,O,O,O,trivial⟩) (by exact ⟨O,trivial⟩) (by exact O) (by exact O) (by repeat' (first|refine bT ?_ ?_|rfl|exact bV|exact bU|exact bW O)),0+1,by omega,O,O⟩
      · rw [if_neg (by
          intro e3
          have:=congrArg List.length e3
          rw [cZ,cW,dO] at this
          omega)] at hnext
        generalize joinS ((t.args.map Tr.txt).take i)=J at *
        have g2:(⟨(W++J).toArray⟩:ByteArray).size+(⟨([44]:List UInt8).toArray⟩:ByteArray).size≤9223372036854775807:=by show (W++J).length+1≤_;rw [cV];omega
        have g3:(⟨((W++J)++[44]).toArray⟩:ByteArray).size+(⟨(Tr.txt a).toArray⟩:ByteArray).size≤9223372036854775807:=by show ((W++J)++[44]).length+(Tr.txt a).length≤_;rw [cV,cV];simp only [cY];omega
        have hs3:(⟨((W++J)++[44]).toArray⟩:ByteArray)++⟨(Tr.txt a).toArray⟩=⟨(W++joinS ((t.args.map Tr.txt).take (i+1))).toArray⟩:=by rw [str_add,hnext];simp only [dM]
        (refine aA<|aA<|rgN<|kmv O<|kmv O<|K.lenSlc O cC O dR ?_;refine klt O O (cP (by omega))<|aB<|aE O ?_;refine aH ?_;refine aA<|aG<|aA<|aA<|rgN<|kmv O<|aS O O (cP (by omega)) dR<|aB<|aE O ?_;refine rgN<|kmv O<|bM O O g2 (str_add (W++J) [44]) dR<|kas O<|aB<|rgN<|kmv O<|kmv O<|kmv O<|kmv O<|K.indexSlc O O (by omega) hio2 dR ?_;refine kl1 O O hca<|kca O O hrec<|bM O O g3 hs3 dR<|kas O<|aB<|rgN<|kmv O<|kad O O hadd<|kas O<|aB ?_)
        exact ⟨_,⟨[(0,Lx (some ⟨blk,off,none⟩) l.length cap),(7,Ls (W++joinS ((t.args.map Tr.txt).take (i+1)))),(8,.sv (.one (.slc 500 0 t.args.length))),(9,Ln .i64 (i+1:Nat))],[nuB 500 (endsI p t.args)],X⟩,by omega,Le.of (by exact ⟨O,O,O,O,trivial⟩) (by exact ⟨O,trivial⟩) (by exact O) (by exact O) (by repeat' (first|refine bT ?_ ?_|rfl|exact bV|exact bU|exact bW O)),i+1,by omega,O,O⟩
    · have e2:i=t.args.length:=by omega
      subst e2
      have hta:(t.args.map Tr.txt).take t.args.length=t.args.map Tr.txt:=List.take_of_length_le (by rw [cW];exact dN _)
      rw [hta] at hjl ⊢
      generalize joinS (t.args.map Tr.txt)=J at *
      have g2:(⟨(W++J).toArray⟩:ByteArray).size+(⟨([41]:List UInt8).toArray⟩:ByteArray).size≤9223372036854775807:=by show (W++J).length+1≤_;rw [cV];omega
      (refine aA<|aA<|rgN<|kmv O<|kmv O<|K.lenSlc O cC O dR ?_;refine klt O O (cO (by omega))<|aB<|aF O ?_;refine aJ<|aA<|rgN<|kmv O<|bM O O g2 (str_add (W++J) [41]) dR<|kas O<|aB<|aI ?_)
      exact ⟨[_],⟨O,trivial⟩,O⟩
set_option maxHeartbeats 1600000 in
theorem rShow11 (l:List Ins) (ad:Option Addr) (cap:Nat) (hin:InsIn X ad l) (hbig:l.length<1152921504606846976):PSpec Tryz.prog X 47 [Lx ad l.length cap] (Ls (showX l)):=by
  have hC:=rCheck11 X l ad cap hin (by omega)
  by_cases hz:chkX l=0
  · obtain ⟨t,ht,hl⟩:=parse (chkX_zero hz).2
    have hA:At l 0 t:=⟨[],[],by rw [← hl];simp,rfl⟩
    have h64:=(chkX_zero hz).1
    have hT:=rshow_spec X l ad cap hin h64 (chkX_ok hz) t.flat.length t 0 ((l.length:Int)-1) (dN _) hA ht (by rw [hl];omega)
    have hsub:IntKind.i64.wrap ((l.length:Int)-1)=(l.length:Int)-1:=cH (by omega)
    rw [showX_tree hz ht hl]
    rw [hz] at hC
    refine cF Tryz.func47 rfl (by kernel_rfl) rfl rfl ?_
    intro C
    (refine aA<|rgN<|kas O<|aB<|aA<|aA<|rgN<|kmv O<|kca O O (hC)<|kne O O (r:=false) O<|aB<|aF O ?_;refine aH ?_;refine aA<|rgN<|kmv O<|kmv O<|aQ O cC O dR ?_;refine bA O O hsub dR<|kca O O (hT)<|kas O<|aB<|aI ?_)
    exact ⟨[_],⟨O,trivial⟩,O⟩
  · rw [show showX l=[] from if_neg hz]
    refine cF Tryz.func47 rfl (by kernel_rfl) rfl rfl ?_
    intro C
    (refine aA<|rgN<|kas O<|aB<|aA<|aA<|rgN<|kmv O<|kca O O (hC)<|kne O O (cT hz)<|aB<|aE O ?_;refine aA<|rgN<|kas O<|aB<|aI ?_)
    exact ⟨[_],⟨O,trivial⟩,O⟩
end Go.Proofs.YtamplgnbbanamaaGreatDoor
end
section
namespace Go.Proofs.YtamplgnbbanamaaGreatDoor
open Go Go.Lg Go.Lg.Fml Go.Lg.Fld Go.Lg.Arith
set_option maxRecDepth 100000
def exV:Except Int Nm→Nm
  | .ok v=>v
  | .error _=>(false,0)
def exE:Except Int Nm→Int
  | .ok _=>0
  | .error e=>e
theorem exR_eq (r:Except Int Nm):exR r = .tup [SI (exV r).1 (exV r).2,Sn .i64 (exE r)]:=by cases r<;>rfl
variable (X:Nat→Option Obj)
theorem addR_ex (z:Int):addR z=exR (if R127 z then Except.ok (qn z) else Except.error 3:Except Int Nm):=by
  by_cases h:R127 z
  · rw [addR_in h,if_pos h];rfl
  · rw [addR_out h,if_neg h];rfl
theorem wAdd_do (u v:Nm) (hu:In2 u.2) (hv:In2 v.2):PSpec Tryz.prog X 108 [LI u.1 u.2,LI v.1 v.2] (exR (doX 5 u v)):=by
  cases hg:(gd u&&gd v) with
  | false =>
    rw [doX_bad hg]
    exact Add_arg X u.1 v.1 u.2 v.2 hu hv hg
  | true =>
    obtain ⟨gu,gv⟩:=Bool.and_eq_true_iff.1 hg
    obtain ⟨e1,r1⟩:=gd_q gu hu
    obtain ⟨e2,r2⟩:=gd_q gv hv
    rw [e1,e2]
    unfold doX
    rw [hg,if_neg (by decide),if_neg (by omega),show arith 5 (zz u) (zz v)=zz u+zz v from rfl,← addR_ex]
    exact Add_q X (zz u) (zz v) r1 r2
theorem wSub_do (u v:Nm) (hu:In2 u.2) (hv:In2 v.2):PSpec Tryz.prog X 109 [LI u.1 u.2,LI v.1 v.2] (exR (doX 6 u v)):=by
  cases hg:(gd u&&gd v) with
  | false =>
    rw [doX_bad hg]
    exact Sub_arg X u.1 v.1 u.2 v.2 hu hv hg
  | true =>
    obtain ⟨gu,gv⟩:=Bool.and_eq_true_iff.1 hg
    obtain ⟨e1,r1⟩:=gd_q gu hu
    obtain ⟨e2,r2⟩:=gd_q gv hv
    rw [e1,e2]
    unfold doX
    rw [hg,if_neg (by decide),if_neg (by omega),show arith 6 (zz u) (zz v)=zz u-zz v from rfl,← addR_ex]
    exact Sub_q X (zz u) (zz v) r1 r2
theorem wMul_do (u v:Nm) (hu:In2 u.2) (hv:In2 v.2):PSpec Tryz.prog X 110 [LI u.1 u.2,LI v.1 v.2] (exR (doX 7 u v)):=by
  cases hg:(gd u&&gd v) with
  | false =>
    rw [doX_bad hg]
    exact Mul_arg X u.1 v.1 u.2 v.2 hu hv hg
  | true =>
    obtain ⟨gu,gv⟩:=Bool.and_eq_true_iff.1 hg
    obtain ⟨e1,r1⟩:=gd_q gu hu
    obtain ⟨e2,r2⟩:=gd_q gv hv
    rw [e1,e2]
    unfold doX
    rw [hg,if_neg (by decide),if_neg (by omega),show arith 7 (zz u) (zz v)=zz u*zz v from rfl,← addR_ex]
    exact Mul_q X (zz u) (zz v) r1 r2
theorem wQuo_do (u v:Nm) (hu:In2 u.2) (hv:In2 v.2):PSpec Tryz.prog X 111 [LI u.1 u.2,LI v.1 v.2] (exR (doX 8 u v)):=by
  cases hg:(gd u&&gd v) with
  | false =>
    rw [doX_bad hg]
    exact Quo_arg X u.1 v.1 u.2 v.2 hu hv (by rw [show (formB u.1 u.2&&formB v.1 v.2)=false from hg];rfl)
  | true =>
    obtain ⟨gu,gv⟩:=Bool.and_eq_true_iff.1 hg
    obtain ⟨e1,r1⟩:=gd_q gu hu
    obtain ⟨e2,r2⟩:=gd_q gv hv
    by_cases h0:zz v=0
    · have hv0:v.2=0:=by
        have h1:zv v.1 v.2=0:=h0
        have h2:=hv
        unfold zv at h1
        unfold In2 at h2
        split at h1<;>omega
      rw [show doX 8 u v = .error 1 by unfold doX;rw [hg,if_neg (by decide),if_pos ⟨by decide,h0⟩]]
      exact Quo_arg X u.1 v.1 u.2 v.2 hu hv (by rw [hv0];simp)
    · have hq:=(parts_facts r1 r2 h0).1
      rw [e1,e2]
      unfold doX
      rw [hg,if_neg (by decide),if_neg (fun h=>h0 h.2),show arith 8 (zz u) (zz v)=(zz u).tdiv (zz v) from rfl,if_pos hq]
      exact Quo_q X (zz u) (zz v) r1 r2 h0
theorem wRem_do (u v:Nm) (hu:In2 u.2) (hv:In2 v.2):PSpec Tryz.prog X 112 [LI u.1 u.2,LI v.1 v.2] (exR (doX 9 u v)):=by
  cases hg:(gd u&&gd v) with
  | false =>
    rw [doX_bad hg]
    exact Rem_arg X u.1 v.1 u.2 v.2 hu hv (by rw [show (formB u.1 u.2&&formB v.1 v.2)=false from hg];rfl)
  | true =>
    obtain ⟨gu,gv⟩:=Bool.and_eq_true_iff.1 hg
    obtain ⟨e1,r1⟩:=gd_q gu hu
    obtain ⟨e2,r2⟩:=gd_q gv hv
    by_cases h0:zz v=0
    · have hv0:v.2=0:=by
        have h1:zv v.1 v.2=0:=h0
        have h2:=hv
        unfold zv at h1
        unfold In2 at h2
        split at h1<;>omega
      rw [show doX 9 u v = .error 1 by unfold doX;rw [hg,if_neg (by decide),if_pos ⟨by decide,h0⟩]]
      exact Rem_arg X u.1 v.1 u.2 v.2 hu hv (by rw [hv0];simp)
    · have hq:=(parts_facts r1 r2 h0).2.1
      rw [e1,e2]
      unfold doX
      rw [hg,if_neg (by decide),if_neg (fun h=>h0 h.2),show arith 9 (zz u) (zz v)=(zz u).tmod (zz v) from rfl,if_pos hq]
      exact Rem_q X (zz u) (zz v) r1 r2 h0
def truX (x y:Nm) (b:Bool):Except Int Nm:=if (gd x&&gd y)=false then .error 1 else .ok (truth b)
def sameX (x y:Nm):Except Int Nm:=truX x y (decide (x=y))
def lessX (x y:Nm):Except Int Nm:=truX x y (decide (zz x<zz y))
def pickX (x y z:Nm):Except Int Nm:=if gd x=false then .error 1 else .ok (if x=(false,0) then z else y)
def needX (x y:Nm):Except Int Nm:=if gd y=false then .error 1 else if y=(false,0) then .error 9 else .ok x
theorem tForm (x:Nm) (hx:In2 x.2) (r:Bool) (h:gd x=r):PSpec Tryz.prog X 123 [LI x.1 x.2] (Lb r):=Form_spec X _ _ hx r h
theorem tTruth (x y:Nm) (hx:In2 x.2) (hy:In2 y.2) (b:Bool):PSpec Tryz.prog X 147 [LI x.1 x.2,LI y.1 y.2,Lb b] (exR (truX x y b)):=by
  cases h1:gd x with
  | false =>
    have f1:=tForm X x hx false h1
    rw [show truX x y b = .error 1 by unfold truX;rw [h1];rfl]
    refine cF Tryz.func147 rfl (by kernel_rfl) rfl rfl ?_
    intro C
    (refine aA<|rgN<|aL O O O dR<|aL O O O dR<|aP O dR ?_;refine kas O<|aB<|aA<|aG<|aA<|rgN<|aK O O O dR ?_;refine kca O O f1<|aV O O dR<|kmv O<|aC O O O<|aC O O O<|aC O O O<|kpt O O<|kas O<|aB<|aE O ?_;refine aA<|rgN<|aT O O (by exact O) (by exact nl3 O O O O) dR ?_;refine aM O O O O O O dR ?_;refine kas O<|aB<|aI ?_)
    exact ⟨[_,_],⟨⟨_,_,O,O,O,.inl ⟨AggT.h,O⟩⟩,O,trivial⟩,O⟩
  | true =>
  have f1:=tForm X x hx true h1
  cases h2:gd y with
  | false =>
    have f2:=tForm X y hy false h2
    rw [show truX x y b = .error 1 by unfold truX;rw [h1,h2];rfl]
    refine cF Tryz.func147 rfl (by kernel_rfl) rfl rfl ?_
    intro C
    (refine aA<|rgN<|aL O O O dR<|aL O O O dR<|aP O dR ?_;refine kas O<|aB<|aA<|aG<|aA<|rgN<|aK O O O dR ?_;refine kca O O f1<|aV O O dR<|kmv O<|aK O O O (dS O O) ?_;refine gca O O f2 O O<|aV O O (dS O O) ?_;refine kpf O O<|kas O<|aB<|aE O ?_;refine aA<|rgN<|aT O O (by exact O) (by exact nl3 O O O O) dR ?_;refine aM O O O O O O dR ?_;refine kas O<|aB<|aI ?_)
    exact ⟨[_,_],⟨⟨_,_,O,O,O,.inl ⟨AggT.h,O⟩⟩,O,trivial⟩,O⟩
  | true =>
  have f2:=tForm X y hy true h2
  rw [show truX x y b = .ok (truth b) by unfold truX;rw [h1,h2];rfl]
  cases b with
  | true =>
    have hO:=Of_spec X 1 (by omega)
    refine cF Tryz.func147 rfl (by kernel_rfl) rfl rfl ?_
    intro C
    (refine aA<|rgN<|aL O O O dR<|aL O O O dR<|aP O dR ?_;refine kas O<|aB<|aA<|aG<|aA<|rgN<|aK O O O dR ?_;refine kca O O f1<|aV O O dR<|kmv O<|aK O O O (dS O O) ?_;refine gca O O f2 O O<|aV O O (dS O O) ?_;refine kpf O O<|kas O<|aB<|aF O ?_;refine aA<|rgN<|kmv O<|kas O<|aB<|aE O ?_;refine aA<|rgN<|kca O O (hO)<|aM O O O O O O dR ?_;refine kas O<|aB<|aI ?_)
    exact ⟨[_,_],⟨⟨_,_,O,O,O,.inl ⟨AggT.h,O⟩⟩,O,trivial⟩,O⟩
  | false =>
    have hO:=Of_spec X 0 (by omega)
    refine cF Tryz.func147 rfl (by kernel_rfl) rfl rfl ?_
    intro C
    (refine aA<|rgN<|aL O O O dR<|aL O O O dR<|aP O dR ?_;refine kas O<|aB<|aA<|aG<|aA<|rgN<|aK O O O dR ?_;refine kca O O f1<|aV O O dR<|kmv O<|aK O O O (dS O O) ?_;refine gca O O f2 O O<|aV O O (dS O O) ?_;refine kpf O O<|kas O<|aB<|aF O ?_;refine aA<|rgN<|kmv O<|kas O<|aB<|aF O ?_;refine aH ?_;refine aA<|rgN<|kca O O (hO)<|aM O O O O O O dR ?_;refine kas O<|aB<|aI ?_)
    exact ⟨[_,_],⟨⟨_,_,O,O,O,.inl ⟨AggT.h,O⟩⟩,O,trivial⟩,O⟩
theorem tSame (x y:Nm) (hx:In2 x.2) (hy:In2 y.2):PSpec Tryz.prog X 118 [LI x.1 x.2,LI y.1 y.2] (exR (sameX x y)):=by
  have q:=eqI (b:=x.1) (b':=y.1) (h:=x.2/18446744073709551616) (h':=y.2/18446744073709551616) (l:=x.2%18446744073709551616) (l':=y.2%18446744073709551616) _ (eqN hx hy)
  unfold sameX
  have hT:=tTruth X x y hx hy (decide (x=y))
  rw [show decide (((x.1,x.2):Nm)=(y.1,y.2))=decide (x=y) from rfl] at q
  generalize decide (x=y)=z at *
  rw [exR_eq] at hT ⊢
  generalize exE (truX x y z)=e at *
  generalize exV (truX x y z)=v at *
  obtain ⟨vb,vN⟩:=v
  refine cF Tryz.func118 rfl (by kernel_rfl) rfl rfl ?_
  intro C
  (refine aA<|rgN<|aL O O O dR<|aL O O O dR<|aP O dR ?_;refine kas O<|aB<|aA<|rgD mixed<|aK O O O dR ?_;refine aK O O O dR ?_;refine aK O O O dR ?_;refine aK O O O dR ?_;refine bR O O O O (by kernel_rfl) q (.inl ⟨O,O⟩) dR<|kca O O (hT)<|kex O O<|kex O O<|aM O O O O O O dR ?_;refine kas O<|aB<|rgA ?_;refine aI ?_)
  exact ⟨[_,_],⟨⟨_,_,O,O,O,.inl ⟨AggT.h,O⟩⟩,O,trivial⟩,O⟩
theorem tCmp (x y:Nm) (hx:In2 x.2) (hy:In2 y.2):∃ r:Int,PSpec Tryz.prog X 148 [LI x.1 x.2,LI y.1 y.2] (Ln .i64 r)∧((gd x&&gd y)=true→decide (r<0)=decide (zz x<zz y)):=by
  cases h:(gd x&&gd y) with
  | false=>exact ⟨0,Cmp_bad X _ _ _ _ hx hy h,fun h'=>by cases h'⟩
  | true =>
    obtain ⟨gx,gy⟩:=Bool.and_eq_true_iff.1 h
    obtain ⟨e1,r1⟩:=gd_q gx hx
    obtain ⟨e2,r2⟩:=gd_q gy hy
    refine ⟨cmpI (zz x) (zz y),?_,fun _=>(cmp_lz (u:=x) (v:=y)).1⟩
    rw [e1,e2]
    exact Cmp_q X _ _ r1 r2 _ O
theorem tLess (x y:Nm) (hx:In2 x.2) (hy:In2 y.2):PSpec Tryz.prog X 116 [LI x.1 x.2,LI y.1 y.2] (exR (lessX x y)):=by
  obtain ⟨r,hC,hr⟩:=tCmp X x y hx hy
  have hT:=tTruth X x y hx hy (decide (r<0))
  have e:truX x y (decide (r<0))=lessX x y:=by
    unfold lessX
    cases h:(gd x&&gd y) with
    | false=>unfold truX;rw [h];rfl
    | true=>rw [hr h]
  rw [e] at hT
  rw [exR_eq] at hT ⊢
  generalize exE (lessX x y)=e at *
  generalize exV (lessX x y)=v at *
  obtain ⟨vb,vN⟩:=v
  refine cF Tryz.func116 rfl (by kernel_rfl) rfl rfl ?_
  intro C
  (refine aA<|rgN<|aL O O O dR<|aL O O O dR<|aP O dR ?_;refine kas O<|aB<|aA<|rgD mixed<|aK O O O dR ?_;refine aK O O O dR ?_;refine aK O O O dR ?_;refine aK O O O dR ?_;refine kca O O (hC)<|klt O O O<|kca O O (hT)<|kex O O<|kex O O<|aM O O O O O O dR ?_;refine kas O<|aB<|rgA ?_;refine aI ?_)
  exact ⟨[_,_],⟨⟨_,_,O,O,O,.inl ⟨AggT.h,O⟩⟩,O,trivial⟩,O⟩
theorem sgn_qn {x:Nm} (hx:In2 x.2) (g:gd x=true):sgnI (zz x)=0↔x=(false,0):=by
  obtain ⟨e1,r1⟩:=gd_q g hx
  have h:=eqZ (b:=x.1) hx
  obtain ⟨b,N⟩:=x
  unfold In2 at hx
  unfold gd formB at g
  unfold sgnI zz zv at *
  simp only at *
  constructor
  · intro h0
    have hN:N=0:=by
      cases b<;>simp only [Bool.false_eq_true,if_false,if_true] at h0<;>(repeat' split at h0)<;>omega
    subst hN
    cases b with
    | false=>rfl
    | true=>simp at g
  · intro e
    cases e
    rfl
theorem tSign (x:Nm) (hx:In2 x.2) (g:gd x=true):∃ s:Int,PSpec Tryz.prog X 151 [LI x.1 x.2] (Ln .i64 s)∧(s=0↔x=(false,0)):=by
  obtain ⟨e1,r1⟩:=gd_q g hx
  exact ⟨sgnI (zz x),by rw [e1];exact Sign_q X _ r1 _ rfl,sgn_qn hx g⟩
theorem tPick (x y z:Nm) (hx:In2 x.2):PSpec Tryz.prog X 120 [LI x.1 x.2,LI y.1 y.2,LI z.1 z.2] (exR (pickX x y z)):=by
  cases h1:gd x with
  | false =>
    have f1:=tForm X x hx false h1
    rw [show pickX x y z = .error 1 by unfold pickX;rw [h1];rfl]
    refine cF Tryz.func120 rfl (by kernel_rfl) rfl rfl ?_
    intro C
    (refine aA<|rgN<|aL O O O dR<|aL O O O dR<|aL O O O dR<|aP O dR ?_;refine kas O<|aB<|aA<|aG<|aA<|rgN<|aK O O O dR ?_;refine kca O O (f1)<|aV O O dR<|kas O<|aB<|aE O ?_;refine aA<|rgN<|aT O O (by exact O) (by exact nl3 O O O O) dR ?_;refine aM O O O O O O dR ?_;refine kas O<|aB<|aI ?_)
    exact ⟨[_,_],⟨⟨_,_,O,O,O,.inl ⟨AggT.h,O⟩⟩,O,trivial⟩,O⟩
  | true =>
  have f1:=tForm X x hx true h1
  obtain ⟨s,hS,hs⟩:=tSign X x hx h1
  by_cases c:x=(false,0)
  · rw [show pickX x y z = .ok z by unfold pickX;rw [h1,if_neg (by decide),if_pos c]]
    have c:=hs.2 c
    subst c
    refine cF Tryz.func120 rfl (by kernel_rfl) rfl rfl ?_
    intro C
    (refine aA<|rgN<|aL O O O dR<|aL O O O dR<|aL O O O dR<|aP O dR ?_;refine kas O<|aB<|aA<|aG<|aA<|rgN<|aK O O O dR ?_;refine kca O O (f1)<|aV O O dR<|kas O<|aB<|aF O ?_;refine aA<|rgN<|aK O O O dR ?_;refine kca O O (hS)<|kne O O (r:=false) O<|kas O<|aB<|aF O ?_;refine aH ?_;refine aA<|rgN<|aK O O O dR ?_;refine aM O O O O O O dR ?_;refine kas O<|aB<|aI ?_)
    exact ⟨[_,_],⟨⟨_,_,O,O,O,.inl ⟨AggT.h,O⟩⟩,O,trivial⟩,O⟩
  · rw [show pickX x y z = .ok y by unfold pickX;rw [h1,if_neg (by decide),if_neg c]]
    have c:s≠0:=fun h=>c (hs.1 h)
    refine cF Tryz.func120 rfl (by kernel_rfl) rfl rfl ?_
    intro C
    (refine aA<|rgN<|aL O O O dR<|aL O O O dR<|aL O O O dR<|aP O dR ?_;refine kas O<|aB<|aA<|aG<|aA<|rgN<|aK O O O dR ?_;refine kca O O (f1)<|aV O O dR<|kas O<|aB<|aF O ?_;refine aA<|rgN<|aK O O O dR ?_;refine kca O O (hS)<|kne O O (r:=true) (cT c)<|kas O<|aB<|aE O ?_;refine aA<|rgN<|aK O O O dR ?_;refine aM O O O O O O dR ?_;refine kas O<|aB<|aI ?_)
    exact ⟨[_,_],⟨⟨_,_,O,O,O,.inl ⟨AggT.h,O⟩⟩,O,trivial⟩,O⟩
theorem tNeed (x y:Nm) (hy:In2 y.2):PSpec Tryz.prog X 121 [LI x.1 x.2,LI y.1 y.2] (exR (needX x y)):=by
  cases h1:gd y with
  | false =>
    have f1:=tForm X y hy false h1
    rw [show needX x y = .error 1 by unfold needX;rw [h1];rfl]
    refine cF Tryz.func121 rfl (by kernel_rfl) rfl rfl ?_
    intro C
    (refine aA<|rgN<|aL O O O dR<|aL O O O dR<|aP O dR ?_;refine kas O<|aB<|aA<|aG<|aA<|rgN<|aK O O O dR ?_;refine kca O O (f1)<|aV O O dR<|kas O<|aB<|aE O ?_;refine aA<|rgN<|aT O O (by exact O) (by exact nl3 O O O O) dR ?_;refine aM O O O O O O dR ?_;refine kas O<|aB<|aI ?_)
    exact ⟨[_,_],⟨⟨_,_,O,O,O,.inl ⟨AggT.h,O⟩⟩,O,trivial⟩,O⟩
  | true =>
  have f1:=tForm X y hy true h1
  obtain ⟨s,hS,hs⟩:=tSign X y hy h1
  by_cases c:y=(false,0)
  · rw [show needX x y = .error 9 by unfold needX;rw [h1,if_neg (by decide),if_pos c]]
    have c:=hs.2 c
    subst c
    refine cF Tryz.func121 rfl (by kernel_rfl) rfl rfl ?_
    intro C
    (refine aA<|rgN<|aL O O O dR<|aL O O O dR<|aP O dR ?_;refine kas O<|aB<|aA<|aG<|aA<|rgN<|aK O O O dR ?_;refine kca O O (f1)<|aV O O dR<|kas O<|aB<|aF O ?_;refine aA<|rgN<|aK O O O dR ?_;refine kca O O (hS)<|keq O O (r:=true) O<|kas O<|aB<|aE O ?_;refine aA<|rgN<|aT O O (by exact O) (by exact nl3 O O O O) dR ?_;refine aM O O O O O O dR ?_;refine kas O<|aB<|aI ?_)
    exact ⟨[_,_],⟨⟨_,_,O,O,O,.inl ⟨AggT.h,O⟩⟩,O,trivial⟩,O⟩
  · rw [show needX x y = .ok x by unfold needX;rw [h1,if_neg (by decide),if_neg c]]
    have c:s≠0:=fun h=>c (hs.1 h)
    refine cF Tryz.func121 rfl (by kernel_rfl) rfl rfl ?_
    intro C
    (refine aA<|rgN<|aL O O O dR<|aL O O O dR<|aP O dR ?_;refine kas O<|aB<|aA<|aG<|aA<|rgN<|aK O O O dR ?_;refine kca O O (f1)<|aV O O dR<|kas O<|aB<|aF O ?_;refine aA<|rgN<|aK O O O dR ?_;refine kca O O (hS)<|keq O O (r:=false) (cR c)<|kas O<|aB<|aF O ?_;refine aH ?_;refine aA<|rgN<|aK O O O dR ?_;refine aM O O O O O O dR ?_;refine kas O<|aB<|aI ?_)
    exact ⟨[_,_],⟨⟨_,_,O,O,O,.inl ⟨AggT.h,O⟩⟩,O,trivial⟩,O⟩
end Go.Proofs.YtamplgnbbanamaaGreatDoor
end
section
namespace Go.Proofs.YtamplgnbbanamaaGreatDoor
open Go Go.Lg Go.Lg.Fml Go.Lg.Fld Go.Lg.Arith
set_option maxRecDepth 100000
def MoreM (X Y:Nat→Option Obj):Prop := ∀ b o,X b=some o→Y b=some o
theorem MoreM.refl (X:Nat→Option Obj):MoreM X X:=fun _ _ h=>h
theorem MoreM.trans {X Y Z:Nat→Option Obj} (h:MoreM X Y) (h':MoreM Y Z):MoreM X Z:=fun b o hb=>h' b o (h b o hb)
abbrev capL (caps:List Value):List LV:=caps.map fun v=>.sv (.one (.val v))
def OneV (Y:Nat→Option Obj) (v:Value) (F:Nm→Except Int Nm):Prop := ∃ (f:FuncId) (caps:List Value),v = .func (.func f) #[] caps.toArray∧∀ Z,MoreM Y Z→∀ x:Nm,In2 x.2→PSpec Tryz.prog Z f ([LI x.1 x.2]++capL caps) (exR (F x))
def TwoV (Y:Nat→Option Obj) (v:Value) (F:Nm→Nm→Except Int Nm):Prop := ∃ (f:FuncId) (caps:List Value),v = .func (.func f) #[] caps.toArray∧∀ Z,MoreM Y Z→∀ x y:Nm,In2 x.2→In2 y.2→PSpec Tryz.prog Z f ([LI x.1 x.2,LI y.1 y.2]++capL caps) (exR (F x y))
def ThreeV (Y:Nat→Option Obj) (v:Value) (F:Nm→Nm→Nm→Except Int Nm):Prop := ∃ (f:FuncId) (caps:List Value),v = .func (.func f) #[] caps.toArray∧∀ Z,MoreM Y Z→∀ x y z:Nm,In2 x.2→In2 y.2→In2 z.2→PSpec Tryz.prog Z f ([LI x.1 x.2,LI y.1 y.2,LI z.1 z.2]++capL caps) (exR (F x y z))
structure EnvIn (Z:Nat→Option Obj) (fad:Option Addr) (fs:List (List Nm)) (at_:Int):Prop where
  fss:FssIn Z fad fs
  len:fs.length<4611686018427387904
  rows:∀ r∈fs,r.length<4611686018427387904
  place : -9223372036854775808≤at_∧at_<9223372036854775808
def DeedV (Y:Nat→Option Obj) (v:Value) (op:Int):Prop := ∃ (f:FuncId) (caps:List Value),v = .func (.func f) #[] caps.toArray∧∀ Z,MoreM Y Z→∀ x:Ins,x.op=op→smallI x→∀ (fad:Option Addr) (fcap:Nat) (fs:List (List Nm)) (at_:Int),EnvIn Z fad fs at_ →
  ∀ (tad:Option Addr) (tcap:Nat) (ts:List Nm),NumsIn Z tad ts→ts.length=takes op→PSpec Tryz.prog Z f ([LIn x,LEnv fad fs.length fcap at_,Lx tad ts.length tcap]++capL caps) (exR (oneX fs at_ x ts))
theorem DeedV.mono {Y Z:Nat→Option Obj} (h:MoreM Y Z) {v:Value} {op:Int} (hv:DeedV Y v op):DeedV Z v op:=by
  obtain ⟨f,caps,e,hp⟩:=hv
  exact ⟨f,caps,e,fun W hW=>hp W (h.trans hW)⟩
theorem two_fn (Y:Nat→Option Obj) {f:FuncId} {F:Nm→Nm→Except Int Nm} (h:∀ (Z:Nat→Option Obj) (x y:Nm),In2 x.2→In2 y.2→PSpec Tryz.prog Z f [LI x.1 x.2,LI y.1 y.2] (exR (F x y))):TwoV Y (.func (.func f) #[] #[]) F:=⟨f,[],rfl,fun Z _ x y hx hy=>h Z x y hx hy⟩
theorem three_fn (Y:Nat→Option Obj) {f:FuncId} {F:Nm→Nm→Nm→Except Int Nm} (h:∀ (Z:Nat→Option Obj) (x y z:Nm),In2 x.2→In2 y.2→In2 z.2→PSpec Tryz.prog Z f [LI x.1 x.2,LI y.1 y.2,LI z.1 z.2] (exR (F x y z))):ThreeV Y (.func (.func f) #[] #[]) F:=⟨f,[],rfl,fun Z _ x y z hx hy hz=>h Z x y z hx hy hz⟩
abbrev pv (blk:Nat):Value:=.pointer (some ⟨blk,0,none⟩)
section
variable {Y:Nat→Option Obj} {blk:Nat} {arr:Array Value} {el:TypeId} {fr:Nat×Nat} {v:Value}
theorem two_swapped {F:Nm→Nm→Except Int Nm} (hY:Y blk=some (.cells arr el fr)) (hv:arr[0]? = some v) (hF:TwoV Y v F):TwoV Y (.func (.func 149) #[] #[pv blk]) (fun x y=>F y x):=by
  obtain ⟨f,caps,rfl,hF⟩:=hF
  refine ⟨149,[pv blk],O,fun Z hZ x y hx hy => ?_⟩
  have hP:=hF Z hZ y x hy hx
  have hX:=hZ _ _ hY
  show PSpec _ Z _ [LI x.1 x.2,LI y.1 y.2,.sv (.one (.val (pv blk)))] (exR (F y x))
  rw [exR_eq] at hP ⊢
  generalize exE (F y x)=e at *
  generalize exV (F y x)=v at *
  obtain ⟨vb,vN⟩:=v
  refine cF Tryz.func149 rfl (by kernel_rfl) rfl rfl ?_
  intro C
  (refine aA<|rgN<|aL O O O dR<|aL O O O dR<|aP O dR ?_;refine kas O<|aB<|aA<|rgN<|aW O hX O hv dR<|aK O O O dR ?_;refine aK O O O dR ?_;refine K.callF O O O hP dR ?_;refine kex O O<|kex O O<|aM O O O O O O dR ?_;refine kas O<|aB<|aI ?_)
  exact ⟨[_,_],⟨⟨_,_,O,O,O,.inl ⟨AggT.h,O⟩⟩,O,trivial⟩,O⟩
def choX (G:Nm→Nm→Except Int Nm) (x y:Nm):Except Int Nm:=match G x y with | .error e=>.error e | .ok a=>pickX a x y
theorem two_chosen {F:Nm→Nm→Except Int Nm} (hY:Y blk=some (.cells arr el fr)) (hv:arr[0]? = some v) (hF:TwoV Y v F) (h2:∀ x y a,F x y = .ok a→In2 a.2) (hz:∀ x y e,F x y = .error e→e≠0):TwoV Y (.func (.func 146) #[] #[pv blk]) (choX F):=by
  obtain ⟨f,caps,rfl,hF⟩:=hF
  refine ⟨146,[pv blk],O,fun Z hZ x y hx hy => ?_⟩
  have hP:=hF Z hZ x y hx hy
  have hX:=hZ _ _ hY
  show PSpec _ Z _ [LI x.1 x.2,LI y.1 y.2,.sv (.one (.val (pv blk)))] (exR (choX F x y))
  unfold choX
  cases hf:F x y with
  | error e =>
    have he:=hz x y e hf
    rw [hf] at hP
    show PSpec _ Z _ _ (.tup [S0,Sn .i64 e])
    have hP:PSpec Tryz.prog Z f ([LI x.1 x.2,LI y.1 y.2]++capL caps) (.tup [S0,Sn .i64 e]):=hP
    refine cF Tryz.func146 rfl (by kernel_rfl) rfl rfl ?_
    intro C
    (refine aA<|rgN<|aL O O O dR<|aL O O O dR<|aP O dR ?_;refine kas O<|aB<|aA<|rgN<|aW O hX O hv dR<|aK O O O dR ?_;refine aK O O O dR ?_;refine K.callF O O O hP dR ?_;refine kmv O<|kex O O<|kex O O<|aP O dR ?_;refine aM O O O O O O dR ?_;refine kas O<|aB<|aA<|aA<|rgN<|kmv O<|kne O O (r:=true) (cT he)<|aB<|aE O ?_;refine aA<|rgN<|aT O O (by exact O) (by exact nl3 O O O O) dR ?_;refine kmv O<|aM O O O O O O dR ?_;refine kas O<|aB<|aI ?_)
    exact ⟨[_,_],⟨⟨_,_,O,O,O,.inl ⟨AggT.h,O⟩⟩,O,trivial⟩,O⟩
  | ok a =>
    have ha:=h2 x y a hf
    rw [hf] at hP
    have hP:PSpec Tryz.prog Z f ([LI x.1 x.2,LI y.1 y.2]++capL caps) (.tup [SI a.1 a.2,Sn .i64 0]):=hP
    have hK:=tPick Z a x y ha
    show PSpec _ Z _ _ (exR (pickX a x y))
    rw [exR_eq] at hK ⊢
    generalize exE (pickX a x y)=e at *
    generalize exV (pickX a x y)=v at *
    obtain ⟨vb,vN⟩:=v
    refine cF Tryz.func146 rfl (by kernel_rfl) rfl rfl ?_
    intro C
    (refine aA<|rgN<|aL O O O dR<|aL O O O dR<|aP O dR ?_;refine kas O<|aB<|aA<|rgN<|aW O hX O hv dR<|aK O O O dR ?_;refine aK O O O dR ?_;refine K.callF O O O hP dR ?_;refine kmv O<|kex O O<|kex O O<|aP O dR ?_;refine aM O O O O O O dR ?_;refine kas O<|aB<|aA<|aA<|rgN<|kmv O<|kne O O (r:=false) O<|aB<|aF O ?_;refine aH ?_;refine aA<|rgN<|aK O O O dR ?_;refine aK O O O dR ?_;refine aK O O O dR ?_;refine kca O O (hK)<|kex O O<|kex O O<|aM O O O O O O dR ?_;refine kas O<|aB<|aI ?_)
    exact ⟨[_,_],⟨⟨_,_,O,O,O,.inl ⟨AggT.h,O⟩⟩,O,trivial⟩,O⟩
theorem one_zero {F:Nm→Nm→Except Int Nm} (hY:Y blk=some (.cells arr el fr)) (hv:arr[0]? = some v) (hF:TwoV Y v F):OneV Y (.func (.func 145) #[] #[pv blk]) (fun x=>F (false,0) x):=by
  obtain ⟨f,caps,rfl,hF⟩:=hF
  refine ⟨145,[pv blk],O,fun Z hZ x hx => ?_⟩
  have hP:PSpec Tryz.prog Z f ([.sv S0,LI x.1 x.2]++capL caps) (exR (F (false,0) x)):=hF Z hZ (false,0) x ⟨by decide,by decide⟩ hx
  have hX:=hZ _ _ hY
  show PSpec _ Z _ [LI x.1 x.2,.sv (.one (.val (pv blk)))] (exR (F (false,0) x))
  rw [exR_eq] at hP ⊢
  generalize exE (F (false,0) x)=e at *
  generalize exV (F (false,0) x)=v at *
  obtain ⟨vb,vN⟩:=v
  refine cF Tryz.func145 rfl (by kernel_rfl) rfl rfl ?_
  intro C
  (refine aA<|rgN<|aL O O O dR<|aP O dR ?_;refine kas O<|aB<|aA<|rgN<|aW O hX O hv dR<|aT O O (by exact O) (by exact nl3 O O O O) dR ?_;refine aK O O O dR ?_;refine K.callF O O O hP dR ?_;refine kex O O<|kex O O<|aM O O O O O O dR ?_;refine kas O<|aB<|aI ?_)
  exact ⟨[_,_],⟨⟨_,_,O,O,O,.inl ⟨AggT.h,O⟩⟩,O,trivial⟩,O⟩
theorem deed_one {op:Int} {F:Nm→Except Int Nm} (ht:takes op=1) (hY:Y blk=some (.cells arr el fr)) (hv:arr[0]? = some v) (hF:OneV Y v F) (hop:∀ u,In2 u.2→nodeX op [u]=F u):DeedV Y (.func (.func 144) #[] #[pv blk]) op:=by
  obtain ⟨f,caps,rfl,hF⟩:=hF
  refine ⟨144,[pv blk],O,fun Z hZ x hxo hx fad fcap fs at_ hE tad tcap ts hts hlen => ?_⟩
  rw [ht] at hlen
  match ts,hlen,hts with
  | [u],_,hts =>
  have e1:oneX fs at_ x [u]=F u:=by unfold oneX;rw [hxo,if_neg (by rw [ht];decide),hop u (hts.in2 _ (by simp))]
  rw [e1]
  obtain ⟨tb,tof,ta,te,tf,rfl,hT,hall⟩:=hts.all (by show 0<1;omega)
  obtain ⟨i0,s0,c0⟩:=hall 0 _ _ rfl
  have h0:tof+Int.toNat 0*3=tof+0*3:=rfl
  have hb0:0≤(0:Int)∧(0:Int)<(1:Nat):=by omega
  have hP:=hF Z hZ u i0
  have hX:=hZ _ _ hY
  show PSpec _ Z _ [LIn x,LEnv fad fs.length fcap at_,Lx (some ⟨tb,tof,none⟩) 1 tcap,.sv (.one (.val (pv blk)))] (exR (F u))
  rw [exR_eq] at hP ⊢
  generalize exE (F u)=e at *
  generalize exV (F u)=v at *
  obtain ⟨vb,vN⟩:=v
  refine cF Tryz.func144 rfl (by kernel_rfl) rfl rfl ?_
  intro C
  (refine aA<|rgN<|aL O O O dR<|aL O O O dR<|aP O dR ?_;refine kas O<|aB<|aA<|rgD mixed<|aW O hX O hv dR<|kmv O<|aR O O cC hb0 h0 dR<|aY O hT (by kernel_rfl) s0 c0 dR<|K.callF O O O hP dR ?_;refine kex O O<|kex O O<|aM O O O O O O dR ?_;refine kas O<|aB<|rgA ?_;refine aI ?_)
  exact ⟨[_,_],⟨⟨_,_,O,O,O,.inl ⟨AggT.h,O⟩⟩,O,trivial⟩,O⟩
theorem deed_two {op:Int} {F:Nm→Nm→Except Int Nm} (ht:takes op=2) (hY:Y blk=some (.cells arr el fr)) (hv:arr[0]? = some v) (hF:TwoV Y v F) (hop:∀ u w,In2 u.2→In2 w.2→nodeX op [u,w]=F u w):DeedV Y (.func (.func 133) #[] #[pv blk]) op:=by
  obtain ⟨f,caps,rfl,hF⟩:=hF
  refine ⟨133,[pv blk],O,fun Z hZ x hxo hx fad fcap fs at_ hE tad tcap ts hts hlen => ?_⟩
  rw [ht] at hlen
  match ts,hlen,hts with
  | [u,z],_,hts =>
  have e1:oneX fs at_ x [u,z]=F u z:=by unfold oneX;rw [hxo,if_neg (by rw [ht];decide),hop u z (hts.in2 _ (by simp)) (hts.in2 _ (by simp))]
  rw [e1]
  obtain ⟨tb,tof,ta,te,tf,rfl,hT,hall⟩:=hts.all (by show 0<2;omega)
  obtain ⟨i0,s0,c0⟩:=hall 0 _ _ rfl
  have h0:tof+Int.toNat 0*3=tof+0*3:=rfl
  have hb0:0≤(0:Int)∧(0:Int)<(2:Nat):=by omega
  obtain ⟨i1,s1,c1⟩:=hall 1 _ _ rfl
  have h1:tof+Int.toNat 1*3=tof+1*3:=rfl
  have hb1:0≤(1:Int)∧(1:Int)<(2:Nat):=by omega
  have hP:=hF Z hZ u z i0 i1
  have hX:=hZ _ _ hY
  show PSpec _ Z _ [LIn x,LEnv fad fs.length fcap at_,Lx (some ⟨tb,tof,none⟩) 2 tcap,.sv (.one (.val (pv blk)))] (exR (F u z))
  rw [exR_eq] at hP ⊢
  generalize exE (F u z)=e at *
  generalize exV (F u z)=v at *
  obtain ⟨vb,vN⟩:=v
  refine cF Tryz.func133 rfl (by kernel_rfl) rfl rfl ?_
  intro C
  (refine aA<|rgN<|aL O O O dR<|aL O O O dR<|aP O dR ?_;refine kas O<|aB<|aA<|rgD mixed<|aW O hX O hv dR<|kmv O<|aR O O cC hb0 h0 dR<|aY O hT (by kernel_rfl) s0 c0 dR<|kmv O<|aR O O cC hb1 h1 dR<|aY O hT (by kernel_rfl) s1 c1 dR<|K.callF O O O hP dR ?_;refine kex O O<|kex O O<|aM O O O O O O dR ?_;refine kas O<|aB<|rgA ?_;refine aI ?_)
  exact ⟨[_,_],⟨⟨_,_,O,O,O,.inl ⟨AggT.h,O⟩⟩,O,trivial⟩,O⟩
theorem deed_three {op:Int} {F:Nm→Nm→Nm→Except Int Nm} (ht:takes op=3) (hY:Y blk=some (.cells arr el fr)) (hv:arr[0]? = some v) (hF:ThreeV Y v F) (hop:∀ u w z,In2 u.2→In2 w.2→In2 z.2→nodeX op [u,w,z]=F u w z):DeedV Y (.func (.func 150) #[] #[pv blk]) op:=by
  obtain ⟨f,caps,rfl,hF⟩:=hF
  refine ⟨150,[pv blk],O,fun Z hZ x hxo hx fad fcap fs at_ hE tad tcap ts hts hlen => ?_⟩
  rw [ht] at hlen
  match ts,hlen,hts with
  | [u,z,q],_,hts =>
  have e1:oneX fs at_ x [u,z,q]=F u z q:=by unfold oneX;rw [hxo,if_neg (by rw [ht];decide),hop u z q (hts.in2 _ (by simp)) (hts.in2 _ (by simp)) (hts.in2 _ (by simp))]
  rw [e1]
  obtain ⟨tb,tof,ta,te,tf,rfl,hT,hall⟩:=hts.all (by show 0<3;omega)
  obtain ⟨i0,s0,c0⟩:=hall 0 _ _ rfl
  have h0:tof+Int.toNat 0*3=tof+0*3:=rfl
  have hb0:0≤(0:Int)∧(0:Int)<(3:Nat):=by omega
  obtain ⟨i1,s1,c1⟩:=hall 1 _ _ rfl
  have h1:tof+Int.toNat 1*3=tof+1*3:=rfl
  have hb1:0≤(1:Int)∧(1:Int)<(3:Nat):=by omega
  obtain ⟨i2,s2,c2⟩:=hall 2 _ _ rfl
  have h2:tof+Int.toNat 2*3=tof+2*3:=rfl
  have hb2:0≤(2:Int)∧(2:Int)<(3:Nat):=by omega
  have hP:=hF Z hZ u z q i0 i1 i2
  have hX:=hZ _ _ hY
  show PSpec _ Z _ [LIn x,LEnv fad fs.length fcap at_,Lx (some ⟨tb,tof,none⟩) 3 tcap,.sv (.one (.val (pv blk)))] (exR (F u z q))
  rw [exR_eq] at hP ⊢
  generalize exE (F u z q)=e at *
  generalize exV (F u z q)=v at *
  obtain ⟨vb,vN⟩:=v
  refine cF Tryz.func150 rfl (by kernel_rfl) rfl rfl ?_
  intro C
  (refine aA<|rgN<|aL O O O dR<|aL O O O dR<|aP O dR ?_;refine kas O<|aB<|aA<|rgD mixed<|aW O hX O hv dR<|kmv O<|aR O O cC hb0 h0 dR<|aY O hT (by kernel_rfl) s0 c0 dR<|kmv O<|aR O O cC hb1 h1 dR<|aY O hT (by kernel_rfl) s1 c1 dR<|kmv O<|aR O O cC hb2 h2 dR<|aY O hT (by kernel_rfl) s2 c2 dR ?_;refine K.callF O O O hP dR ?_;refine kex O O<|kex O O<|aM O O O O O O dR ?_;refine kas O<|aB<|rgA ?_;refine aI ?_)
  exact ⟨[_,_],⟨⟨_,_,O,O,O,.inl ⟨AggT.h,O⟩⟩,O,trivial⟩,O⟩
end
variable (X:Nat→Option Obj)
theorem tFind (fad:Option Addr) (fcap:Nat) (fs:List (List Nm)) (at_:Int) (hE:EnvIn X fad fs at_) (a b:Int) (ha : -9223372036854775808≤a∧a<9223372036854775808) (hb : -9223372036854775808≤b∧b<9223372036854775808):
    PSpec Tryz.prog X 132 [LEnv fad fs.length fcap at_,Ln .i64 a,Ln .i64 b] (exR (elemX fs a b)):=by
  have hfl:=hE.len
  by_cases c1:a<0
  · rw [show elemX fs a b = .error 3 by unfold elemX;rw [if_pos (.inl c1)]]
    refine cF Tryz.func132 rfl (by kernel_rfl) rfl rfl ?_
    intro C
    (refine aA<|rgN<|aL O O O dR<|aP O dR ?_;refine kas O<|aB<|aA<|aA<|rgN<|kmv O<|klt O O (r:=true) (cP c1)<|kmv O<|aC O O O<|aC O O O<|aC O O O<|aC O O O<|aC O O O<|kpt O O ?_;refine aB<|aE O ?_;refine aA<|rgN<|aT O O (by exact O) (by exact nl3 O O O O) dR ?_;refine aM O O O O O O dR ?_;refine kas O<|aB<|aI ?_)
    exact ⟨[_,_],⟨⟨_,_,O,O,O,.inl ⟨AggT.h,O⟩⟩,O,trivial⟩,O⟩
  by_cases c2:(fs.length:Int)≤a
  · rw [show elemX fs a b = .error 3 by unfold elemX;split<;>first|rfl|(rw [List.getElem?_eq_none (by omega)])]
    refine cF Tryz.func132 rfl (by kernel_rfl) rfl rfl ?_
    intro C
    (refine aA<|rgN<|aL O O O dR<|aP O dR ?_;refine kas O<|aB<|aA<|aA<|rgN<|kmv O<|klt O O (r:=false) (cO c1)<|kmv O<|gmv O O O<|aN O O (dS O O) ?_;refine aO O O O (dS O O) ?_;refine aQ O cC O (dS O O) ?_;refine bD O O (r:=true) (cP c2) (dS O O) ?_;refine kpf O O<|aB<|aE O ?_;refine aA<|rgN<|aT O O (by exact O) (by exact nl3 O O O O) dR ?_;refine aM O O O O O O dR ?_;refine kas O<|aB<|aI ?_)
    exact ⟨[_,_],⟨⟨_,_,O,O,O,.inl ⟨AggT.h,O⟩⟩,O,trivial⟩,O⟩
  obtain ⟨r,hr⟩:∃ r,fs[a.toNat]? = some r:=⟨_,cX (by omega)⟩
  obtain ⟨blk,off,arr,el,fr,vad,vcap,rfl,hX,hsz,hcell,hN⟩:=hE.fss.at_ _ _ hr
  have hrl:=hE.rows r (dD hr)
  have hio:off+Int.toNat a*1=off+a.toNat:=by omega
  by_cases c3:b<0
  · rw [show elemX fs a b = .error 3 by unfold elemX;rw [if_pos (.inr c3)]]
    refine cF Tryz.func132 rfl (by kernel_rfl) rfl rfl ?_
    intro C
    (refine aA<|rgN<|aL O O O dR<|aP O dR ?_;refine kas O<|aB<|aA<|aA<|rgN<|kmv O<|klt O O (r:=false) (cO c1)<|kmv O<|gmv O O O<|aN O O (dS O O) ?_;refine aO O O O (dS O O) ?_;refine aQ O cC O (dS O O) ?_;refine bD O O (r:=false) (cO c2) (dS O O) ?_;refine kpf O O<|aB<|aF O ?_;refine aH ?_;refine aA<|rgN<|kfa O O ?_;refine kl1 O O O<|kmv O<|aR O O cC (by omega) hio dR<|aW O hX O hcell dR<|kas O<|aB<|aA<|aA<|rgN<|kmv O<|klt O O (r:=true) (cP c3)<|kmv O<|aC O O O<|aC O O O ?_;refine aC O O O<|aC O O O<|kpt O O<|aB<|aE O ?_;refine aA<|rgN<|aT O O (by exact O) (by exact nl3 O O O O) dR ?_;refine aM O O O O O O dR ?_;refine kas O<|aB<|aI ?_)
    exact ⟨[_,_],⟨⟨_,_,O,O,O,.inl ⟨AggT.h,O⟩⟩,O,trivial⟩,O⟩
  by_cases c4:(r.length:Int)≤b
  · rw [show elemX fs a b = .error 3 by unfold elemX;rw [if_neg (by omega),hr];simp only;rw [List.getElem?_eq_none (by omega)]]
    refine cF Tryz.func132 rfl (by kernel_rfl) rfl rfl ?_
    intro C
    (refine aA<|rgN<|aL O O O dR<|aP O dR ?_;refine kas O<|aB<|aA<|aA<|rgN<|kmv O<|klt O O (r:=false) (cO c1)<|kmv O<|gmv O O O<|aN O O (dS O O) ?_;refine aO O O O (dS O O) ?_;refine aQ O cC O (dS O O) ?_;refine bD O O (r:=false) (cO c2) (dS O O) ?_;refine kpf O O<|aB<|aF O ?_;refine aH ?_;refine aA<|rgN<|kfa O O ?_;refine kl1 O O O<|kmv O<|aR O O cC (by omega) hio dR<|aW O hX O hcell dR<|kas O<|aB<|aA<|aA<|rgN<|kmv O<|klt O O (r:=false) (cO c3)<|kmv O<|gmv O O O<|gmv O O O ?_;refine aQ O cC O (dS O O) ?_;refine bD O O (r:=true) (cP c4) (dS O O) ?_;refine kpf O O<|aB<|aE O ?_;refine aA<|rgN<|aT O O (by exact O) (by exact nl3 O O O O) dR ?_;refine aM O O O O O O dR ?_;refine kas O<|aB<|aI ?_)
    exact ⟨[_,_],⟨⟨_,_,O,O,O,.inl ⟨AggT.h,O⟩⟩,O,trivial⟩,O⟩
  obtain ⟨⟨vb,vN⟩,hv⟩:∃ v,r[b.toNat]? = some v:=⟨_,cX (by omega)⟩
  obtain ⟨_,blk2,off2,arr2,el2,fr2,rfl,hX2,hsz2,hcs2⟩:=hN.at hv
  have hio2:off2+Int.toNat b*3=off2+b.toNat*3:=rfl
  rw [show elemX fs a b = .ok (vb,vN) by unfold elemX;rw [if_neg (by omega),hr];simp only;rw [hv]]
  refine cF Tryz.func132 rfl (by kernel_rfl) rfl rfl ?_
  intro C
  (refine aA<|rgN<|aL O O O dR<|aP O dR ?_;refine kas O<|aB<|aA<|aA<|rgN<|kmv O<|klt O O (r:=false) (cO c1)<|kmv O<|gmv O O O<|aN O O (dS O O) ?_;refine aO O O O (dS O O) ?_;refine aQ O cC O (dS O O) ?_;refine bD O O (r:=false) (cO c2) (dS O O) ?_;refine kpf O O<|aB<|aF O ?_;refine aH ?_;refine aA<|rgN<|kfa O O ?_;refine kl1 O O O<|kmv O<|aR O O cC (by omega) hio dR<|aW O hX O hcell dR<|kas O<|aB<|aA<|aA<|rgN<|kmv O<|klt O O (r:=false) (cO c3)<|kmv O<|gmv O O O<|gmv O O O ?_;refine aQ O cC O (dS O O) ?_;refine bD O O (r:=false) (cO c4) (dS O O) ?_;refine kpf O O<|aB<|aF O ?_;refine aH ?_;refine aA<|rgN<|kmv O<|kmv O<|aR O O cC (by omega) hio2 dR<|aY O hX2 (by kernel_rfl) hsz2 hcs2 dR<|aM O O O O O O dR ?_;refine kas O<|aB<|aI ?_)
  exact ⟨[_,_],⟨⟨_,_,O,O,O,.inl ⟨AggT.h,O⟩⟩,O,trivial⟩,O⟩
theorem deed_num:DeedV X (.func (.func 103) #[] #[]) 1:=by
  refine ⟨103,[],O,fun Z hZ x hxo hx fad fcap fs at_ hE tad tcap ts hts hlen => ?_⟩
  rw [show oneX fs at_ x ts = .ok x.k by unfold oneX leafX;rw [hxo];rfl]
  show PSpec _ Z _ [LIn x,LEnv fad fs.length fcap at_,Lx tad ts.length tcap] (.tup [SI x.k.1 x.k.2,Sn .i64 0])
  refine cF Tryz.func103 rfl (by kernel_rfl) rfl rfl ?_
  intro C
  (refine aA<|rgN<|aL O O O dR<|aL O O O dR<|aP O dR ?_;refine kas O<|aB<|aA<|rgN<|kfa O O ?_;refine bJ O O O (by exact nl3 O O O O) dR ?_;refine aM O O O O O O dR ?_;refine kas O<|aB<|aI ?_)
  exact ⟨[_,_],⟨⟨_,_,O,O,O,.inl ⟨AggT.h,O⟩⟩,O,trivial⟩,O⟩
theorem deed_elem:DeedV X (.func (.func 104) #[] #[]) 2:=by
  refine ⟨104,[],O,fun Z hZ x hxo hx fad fcap fs at_ hE tad tcap ts hts hlen => ?_⟩
  rw [show oneX fs at_ x ts=elemX fs x.a x.b by unfold oneX leafX;rw [hxo];rfl]
  have hP:=tFind Z fad fcap fs at_ hE x.a x.b hx.2.1 hx.2.2.1
  show PSpec _ Z _ [LIn x,LEnv fad fs.length fcap at_,Lx tad ts.length tcap] (exR (elemX fs x.a x.b))
  rw [exR_eq] at hP ⊢
  generalize exE (elemX fs x.a x.b)=e at *
  generalize exV (elemX fs x.a x.b)=v at *
  obtain ⟨vb,vN⟩:=v
  refine cF Tryz.func104 rfl (by kernel_rfl) rfl rfl ?_
  intro C
  (refine aA<|rgN<|aL O O O dR<|aL O O O dR<|aP O dR ?_;refine kas O<|aB<|aA<|rgN<|aK O O O dR ?_;refine kfa O O ?_;refine kl1 O O O<|kfa O O ?_;refine kl1 O O O<|kca O O (hP)<|kex O O<|kex O O<|aM O O O O O O dR ?_;refine kas O<|aB<|aI ?_)
  exact ⟨[_,_],⟨⟨_,_,O,O,O,.inl ⟨AggT.h,O⟩⟩,O,trivial⟩,O⟩
theorem deed_here:DeedV X (.func (.func 105) #[] #[]) 3:=by
  refine ⟨105,[],O,fun Z hZ x hxo hx fad fcap fs at_ hE tad tcap ts hts hlen => ?_⟩
  rw [show oneX fs at_ x ts=elemX fs x.a at_ by unfold oneX leafX;rw [hxo];rfl]
  have hP:=tFind Z fad fcap fs at_ hE x.a at_ hx.2.1 hE.place
  show PSpec _ Z _ [LIn x,LEnv fad fs.length fcap at_,Lx tad ts.length tcap] (exR (elemX fs x.a at_))
  rw [exR_eq] at hP ⊢
  generalize exE (elemX fs x.a at_)=e at *
  generalize exV (elemX fs x.a at_)=v at *
  obtain ⟨vb,vN⟩:=v
  refine cF Tryz.func105 rfl (by kernel_rfl) rfl rfl ?_
  intro C
  (refine aA<|rgN<|aL O O O dR<|aL O O O dR<|aP O dR ?_;refine kas O<|aB<|aA<|rgN<|aK O O O dR ?_;refine kfa O O ?_;refine kl1 O O O<|kfa O O ?_;refine kl1 O O O<|kca O O (hP)<|kex O O<|kex O O<|aM O O O O O O dR ?_;refine kas O<|aB<|aI ?_)
  exact ⟨[_,_],⟨⟨_,_,O,O,O,.inl ⟨AggT.h,O⟩⟩,O,trivial⟩,O⟩
theorem deed_place:DeedV X (.func (.func 106) #[] #[]) 4:=by
  refine ⟨106,[],O,fun Z hZ x hxo hx fad fcap fs at_ hE tad tcap ts hts hlen => ?_⟩
  have hpl:=hE.place
  rw [show oneX fs at_ x ts=(if at_<0 then .error 3 else .ok (false,at_)) by unfold oneX leafX;rw [hxo];rfl]
  show PSpec _ Z _ [LIn x,LEnv fad fs.length fcap at_,Lx tad ts.length tcap] _
  by_cases c:at_<0
  · rw [if_pos c]
    refine cF Tryz.func106 rfl (by kernel_rfl) rfl rfl ?_
    intro C
    (refine aA<|rgN<|aL O O O dR<|aL O O O dR<|aP O dR ?_;refine kas O<|aB<|aA<|aA<|rgN<|kfa O O ?_;refine kl1 O O O<|klt O O (r:=true) (cP c)<|aB<|aE O ?_;refine aA<|rgN<|aT O O (by exact O) (by exact nl3 O O O O) dR ?_;refine aM O O O O O O dR ?_;refine kas O<|aB<|aI ?_)
    exact ⟨[_,_],⟨⟨_,_,O,O,O,.inl ⟨AggT.h,O⟩⟩,O,trivial⟩,O⟩
  · rw [if_neg c]
    have hO:=Of_spec Z at_ hpl
    rw [show LQ at_=LI false at_ by unfold LQ;rw [mg_pos (by omega),cO c]] at hO
    show PSpec _ Z _ _ (.tup [SI false at_,Sn .i64 0])
    refine cF Tryz.func106 rfl (by kernel_rfl) rfl rfl ?_
    intro C
    (refine aA<|rgN<|aL O O O dR<|aL O O O dR<|aP O dR ?_;refine kas O<|aB<|aA<|aA<|rgN<|kfa O O ?_;refine kl1 O O O<|klt O O (r:=false) (cO c)<|aB<|aF O ?_;refine aH ?_;refine aA<|rgN<|kfa O O ?_;refine kl1 O O O<|kca O O (hO)<|aM O O O O O O dR ?_;refine kas O<|aB<|aI ?_)
    exact ⟨[_,_],⟨⟨_,_,O,O,O,.inl ⟨AggT.h,O⟩⟩,O,trivial⟩,O⟩
end Go.Proofs.YtamplgnbbanamaaGreatDoor
end
section
namespace Go.Proofs.YtamplgnbbanamaaGreatDoor
open Go Go.Lg Go.Lg.Fml Go.Lg.Fld Go.Lg.Arith
set_option maxRecDepth 100000
abbrev ptrF (f:FuncId) (k:Nat):CV:=.fn (.func f) (fun i=>[pv i]) k
abbrev fnV (f:FuncId):Value:=.func (.func f) #[] #[]
abbrev vB (t:TypeId) (k:Nat) (c:CV):Nat×Option Box:=(k,some ⟨t,[c],false⟩)
variable (X:Nat→Option Obj)
theorem mA_ofTwo (g:FuncId):MSpec Tryz.prog X 107 [.sv (.one (.val (fnV g)))] [] (.sv (.one (ptrF 133 1000001))) [vB 173 1000001 (.val (fnV g))]:=by
  refine cG Tryz.func107 rfl (by kernel_rfl) rfl (by exact (by repeat' (first|refine bT ?_ ?_|rfl|exact bV|exact bU|exact bW rfl))) (by exact (by repeat' (first|refine bT ?_ ?_|rfl|exact bV|exact bU|exact bW rfl))) rfl rfl ?_
  intro C
  (refine aA<|rgN<|K.box1 O O O dR<|kas O<|aB<|aA<|rgN<|K.makeFuncP O O dR ?_;refine kas O<|aB<|aI ?_)
  exact ⟨[(1000001,1)],⟨[_],⟨rfl,trivial⟩,rfl⟩,(by repeat' (first|exact trivial|refine cQ ⟨_,rfl,?_⟩ ?_|refine cQ ⟨_,rfl⟩ ?_|rfl|exact bX _ _ _ _|exact bY _ _ _ _|exact bZ rfl)),rfl,rfl⟩
theorem mB_ofTwo (g h:FuncId) (t:TypeId):MSpec Tryz.prog X 107 [.sv (.one (ptrF g 1000002))] [vB t 1000002 (.val (fnV h))] (.sv (.one (ptrF 133 1000001))) [vB 173 1000001 (ptrF g 1000002),vB t 1000002 (.val (fnV h))]:=by
  refine cG Tryz.func107 rfl (by kernel_rfl) rfl (by exact (by repeat' (first|refine bT ?_ ?_|rfl|exact bV|exact bU|exact bW rfl))) (by exact (by repeat' (first|refine bT ?_ ?_|rfl|exact bV|exact bU|exact bW rfl))) rfl rfl ?_
  intro C
  (refine aA<|rgN<|K.box1 O O O dR<|kas O<|aB<|aA<|rgN<|K.makeFuncP O O dR ?_;refine kas O<|aB<|aI ?_)
  exact ⟨[(1000001,1)],⟨[_],⟨rfl,trivial⟩,rfl⟩,(by repeat' (first|exact trivial|refine cQ ⟨_,rfl,?_⟩ ?_|refine cQ ⟨_,rfl⟩ ?_|rfl|exact bX _ _ _ _|exact bY _ _ _ _|exact bZ rfl)),rfl,rfl⟩
theorem mC_ofTwo (g h i:FuncId) (t:TypeId):MSpec Tryz.prog X 107 [.sv (.one (ptrF g 1000002))] [vB t 1000002 (ptrF h 1000003),vB t 1000003 (.val (fnV i))] (.sv (.one (ptrF 133 1000001))) [vB 173 1000001 (ptrF g 1000002),vB t 1000002 (ptrF h 1000003),vB t 1000003 (.val (fnV i))]:=by
  refine cG Tryz.func107 rfl (by kernel_rfl) rfl (by exact (by repeat' (first|refine bT ?_ ?_|rfl|exact bV|exact bU|exact bW rfl))) (by exact (by repeat' (first|refine bT ?_ ?_|rfl|exact bV|exact bU|exact bW rfl))) rfl rfl ?_
  intro C
  (refine aA<|rgN<|K.box1 O O O dR<|kas O<|aB<|aA<|rgN<|K.makeFuncP O O dR ?_;refine kas O<|aB<|aI ?_)
  exact ⟨[(1000001,1)],⟨[_],⟨rfl,trivial⟩,rfl⟩,(by repeat' (first|exact trivial|refine cQ ⟨_,rfl,?_⟩ ?_|refine cQ ⟨_,rfl⟩ ?_|rfl|exact bX _ _ _ _|exact bY _ _ _ _|exact bZ rfl)),rfl,rfl⟩
theorem mB_ofOne (g h:FuncId) (t:TypeId):MSpec Tryz.prog X 113 [.sv (.one (ptrF g 1000002))] [vB t 1000002 (.val (fnV h))] (.sv (.one (ptrF 144 1000001))) [vB 171 1000001 (ptrF g 1000002),vB t 1000002 (.val (fnV h))]:=by
  refine cG Tryz.func113 rfl (by kernel_rfl) rfl (by exact (by repeat' (first|refine bT ?_ ?_|rfl|exact bV|exact bU|exact bW rfl))) (by exact (by repeat' (first|refine bT ?_ ?_|rfl|exact bV|exact bU|exact bW rfl))) rfl rfl ?_
  intro C
  (refine aA<|rgN<|K.box1 O O O dR<|kas O<|aB<|aA<|rgN<|K.makeFuncP O O dR ?_;refine kas O<|aB<|aI ?_)
  exact ⟨[(1000001,1)],⟨[_],⟨rfl,trivial⟩,rfl⟩,(by repeat' (first|exact trivial|refine cQ ⟨_,rfl,?_⟩ ?_|refine cQ ⟨_,rfl⟩ ?_|rfl|exact bX _ _ _ _|exact bY _ _ _ _|exact bZ rfl)),rfl,rfl⟩
theorem mA_ofThree (g:FuncId):MSpec Tryz.prog X 119 [.sv (.one (.val (fnV g)))] [] (.sv (.one (ptrF 150 1000001))) [vB 206 1000001 (.val (fnV g))]:=by
  refine cG Tryz.func119 rfl (by kernel_rfl) rfl (by exact (by repeat' (first|refine bT ?_ ?_|rfl|exact bV|exact bU|exact bW rfl))) (by exact (by repeat' (first|refine bT ?_ ?_|rfl|exact bV|exact bU|exact bW rfl))) rfl rfl ?_
  intro C
  (refine aA<|rgN<|K.box1 O O O dR<|kas O<|aB<|aA<|rgN<|K.makeFuncP O O dR ?_;refine kas O<|aB<|aI ?_)
  exact ⟨[(1000001,1)],⟨[_],⟨rfl,trivial⟩,rfl⟩,(by repeat' (first|exact trivial|refine cQ ⟨_,rfl,?_⟩ ?_|refine cQ ⟨_,rfl⟩ ?_|rfl|exact bX _ _ _ _|exact bY _ _ _ _|exact bZ rfl)),rfl,rfl⟩
theorem mA_withZero (g:FuncId):MSpec Tryz.prog X 114 [.sv (.one (.val (fnV g)))] [] (.sv (.one (ptrF 145 1000001))) [vB 173 1000001 (.val (fnV g))]:=by
  refine cG Tryz.func114 rfl (by kernel_rfl) rfl (by exact (by repeat' (first|refine bT ?_ ?_|rfl|exact bV|exact bU|exact bW rfl))) (by exact (by repeat' (first|refine bT ?_ ?_|rfl|exact bV|exact bU|exact bW rfl))) rfl rfl ?_
  intro C
  (refine aA<|rgN<|K.box1 O O O dR<|kas O<|aB<|aA<|rgN<|K.makeFuncP O O dR ?_;refine kas O<|aB<|aI ?_)
  exact ⟨[(1000001,1)],⟨[_],⟨rfl,trivial⟩,rfl⟩,(by repeat' (first|exact trivial|refine cQ ⟨_,rfl,?_⟩ ?_|refine cQ ⟨_,rfl⟩ ?_|rfl|exact bX _ _ _ _|exact bY _ _ _ _|exact bZ rfl)),rfl,rfl⟩
theorem mA_chosen (g:FuncId):MSpec Tryz.prog X 115 [.sv (.one (.val (fnV g)))] [] (.sv (.one (ptrF 146 1000001))) [vB 173 1000001 (.val (fnV g))]:=by
  refine cG Tryz.func115 rfl (by kernel_rfl) rfl (by exact (by repeat' (first|refine bT ?_ ?_|rfl|exact bV|exact bU|exact bW rfl))) (by exact (by repeat' (first|refine bT ?_ ?_|rfl|exact bV|exact bU|exact bW rfl))) rfl rfl ?_
  intro C
  (refine aA<|rgN<|K.box1 O O O dR<|kas O<|aB<|aA<|rgN<|K.makeFuncP O O dR ?_;refine kas O<|aB<|aI ?_)
  exact ⟨[(1000001,1)],⟨[_],⟨rfl,trivial⟩,rfl⟩,(by repeat' (first|exact trivial|refine cQ ⟨_,rfl,?_⟩ ?_|refine cQ ⟨_,rfl⟩ ?_|rfl|exact bX _ _ _ _|exact bY _ _ _ _|exact bZ rfl)),rfl,rfl⟩
theorem mB_chosen (g h:FuncId) (t:TypeId):MSpec Tryz.prog X 115 [.sv (.one (ptrF g 1000002))] [vB t 1000002 (.val (fnV h))] (.sv (.one (ptrF 146 1000001))) [vB 173 1000001 (ptrF g 1000002),vB t 1000002 (.val (fnV h))]:=by
  refine cG Tryz.func115 rfl (by kernel_rfl) rfl (by exact (by repeat' (first|refine bT ?_ ?_|rfl|exact bV|exact bU|exact bW rfl))) (by exact (by repeat' (first|refine bT ?_ ?_|rfl|exact bV|exact bU|exact bW rfl))) rfl rfl ?_
  intro C
  (refine aA<|rgN<|K.box1 O O O dR<|kas O<|aB<|aA<|rgN<|K.makeFuncP O O dR ?_;refine kas O<|aB<|aI ?_)
  exact ⟨[(1000001,1)],⟨[_],⟨rfl,trivial⟩,rfl⟩,(by repeat' (first|exact trivial|refine cQ ⟨_,rfl,?_⟩ ?_|refine cQ ⟨_,rfl⟩ ?_|rfl|exact bX _ _ _ _|exact bY _ _ _ _|exact bZ rfl)),rfl,rfl⟩
theorem mA_swapped (g:FuncId):MSpec Tryz.prog X 117 [.sv (.one (.val (fnV g)))] [] (.sv (.one (ptrF 149 1000001))) [vB 173 1000001 (.val (fnV g))]:=by
  refine cG Tryz.func117 rfl (by kernel_rfl) rfl (by exact (by repeat' (first|refine bT ?_ ?_|rfl|exact bV|exact bU|exact bW rfl))) (by exact (by repeat' (first|refine bT ?_ ?_|rfl|exact bV|exact bU|exact bW rfl))) rfl rfl ?_
  intro C
  (refine aA<|rgN<|K.box1 O O O dR<|kas O<|aB<|aA<|rgN<|K.makeFuncP O O dR ?_;refine kas O<|aB<|aI ?_)
  exact ⟨[(1000001,1)],⟨[_],⟨rfl,trivial⟩,rfl⟩,(by repeat' (first|exact trivial|refine cQ ⟨_,rfl,?_⟩ ?_|refine cQ ⟨_,rfl⟩ ?_|rfl|exact bX _ _ _ _|exact bY _ _ _ _|exact bZ rfl)),rfl,rfl⟩
def deedR (f:FuncId) (op:Int):Rsc:=⟨fun ρ H=>DeedV H (.func (.func f) #[] #[pv ρ.1]) op⟩
section
variable {X:Nat→Option Obj} {n:Nat} {C:Ctx} {Mid:St→Prop} {s:List (Nat×LV)} {bx:List (Nat×Option Box)} {k k1 k2 k3:Nat} {t1 t2 t3:TypeId} {f g h:FuncId} {op:Int} {v:Value}
theorem deed_shut1 (hD:∀ (Y:Nat→Option Obj) b a e fr,Y b=some (.cells a e fr)→a[0]? = some v→DeedV Y (.func (.func f) #[] #[pv b]) op)
    (hl:Leads n C Mid ⟨s,(k,some ⟨0,[],.res (deedR f op)⟩)::bx,X⟩):Leads n C Mid ⟨s,vB t1 k (.val v)::bx,X⟩:=by
  have:=Leads.closeRes (el:=t1) (H:=fun _=>none) (vals:=[v]) (R:=deedR f op) (OwnedM.nil C X) (fun ρ fr _ _ _=>hD _ ρ.1 _ t1 fr (cN _ _ _) rfl) hl
  rw [joinM_nil] at this
  exact this
theorem deed_shut2 (hD:∀ (Y:Nat→Option Obj) b a e fr b' a' e' fr',Y b=some (.cells a e fr)→a[0]? = some v→Y b'=some (.cells a' e' fr')→a'[0]? = some (.func (.func g) #[] #[pv b])→DeedV Y (.func (.func f) #[] #[pv b']) op)
    (h1:Go.Lg.look k1 (vB t2 k2 (ptrF g k1)::bx)=none) (h2:s.all (fun p=>p.2.inUse (vB t2 k2 (ptrF g k1)::bx))=true) (h3:bx.all (fun p=>match p.2 with|some b=>b.cells.all (CV.inUse (vB t2 k2 (ptrF g k1)::bx))|none=>true)=true)
    (hl:Leads n C Mid ⟨s,(k2,some ⟨0,[],.res (deedR f op)⟩)::bx,X⟩):Leads n C Mid ⟨s,vB t2 k2 (ptrF g k1)::vB t1 k1 (.val v)::bx,X⟩:=by
  refine Leads.fixBox (vals:=[v]) (el:=t1) (row:=false) [] [vB t2 k2 (ptrF g k1)] h1 h2 h3 rfl (by simp [CV.fixIn]) ?_
  intro blk arr fr hX hF hsp
  obtain ⟨sp,hsp⟩:=hsp
  have ha:arr[0]? = some v:=by rw [← Array.getElem?_toList,hsp];rfl
  have hO:OwnedM C X (withBlock (fun _=>none) blk (.cells arr t1 fr)):=(OwnedM.nil C X).more hF (by rw [joinM_nil];exact hX)
  have e:withBlock X blk (.cells arr t1 fr)=joinM X (withBlock (fun _=>none) blk (.cells arr t1 fr)):=by rw [← joinM_with,joinM_nil]
  rw [e]
  have hfix:fixB k1 blk [vB t2 k2 (ptrF g k1)]++bx=(k2,some ⟨t2,([.func (.func g) #[] #[pv blk]]:List Value).map .val,false⟩)::bx:=by
    simp [fixB,Box.fix,CV.fix,Nat.beq_refl]
  rw [hfix]
  refine Leads.closeRes hO (fun ρ fr2 h5 h6 _ => ?_) hl
  exact hD _ blk arr t1 fr ρ.1 _ t2 fr2 (cJ h5 _ _ (cN _ _ _)) ha (cN _ _ _) O
theorem deed_shut3 (hD:∀ (Y:Nat→Option Obj) b a e fr b' a' e' fr' b2 a2 e2 fr2,Y b=some (.cells a e fr)→a[0]? = some v→Y b'=some (.cells a' e' fr')→a'[0]? = some (.func (.func h) #[] #[pv b])→Y b2=some (.cells a2 e2 fr2)→a2[0]? = some (.func (.func g) #[] #[pv b'])→DeedV Y (.func (.func f) #[] #[pv b2]) op)
    (h1:Go.Lg.look k1 (vB t3 k3 (ptrF g k2)::vB t2 k2 (ptrF h k1)::bx)=none) (h2:s.all (fun p=>p.2.inUse (vB t3 k3 (ptrF g k2)::vB t2 k2 (ptrF h k1)::bx))=true) (h3:bx.all (fun p=>match p.2 with|some b=>b.cells.all (CV.inUse (vB t3 k3 (ptrF g k2)::vB t2 k2 (ptrF h k1)::bx))|none=>true)=true)
    (h1':Go.Lg.look k2 (vB t3 k3 (ptrF g k2)::bx)=none) (h2':s.all (fun p=>p.2.inUse (vB t3 k3 (ptrF g k2)::bx))=true) (h3':bx.all (fun p=>match p.2 with|some b=>b.cells.all (CV.inUse (vB t3 k3 (ptrF g k2)::bx))|none=>true)=true) (h4:Nat.beq k2 k1=false)
    (hl:Leads n C Mid ⟨s,(k3,some ⟨0,[],.res (deedR f op)⟩)::bx,X⟩):Leads n C Mid ⟨s,vB t3 k3 (ptrF g k2)::vB t2 k2 (ptrF h k1)::vB t1 k1 (.val v)::bx,X⟩:=by
  have h5:(Go.Lg.look k2 (vB t3 k3 (ptrF g k2)::vB t2 k2 (ptrF h k1)::bx)).isSome=true:=by
    cases hb:Nat.beq k3 k2 with
    | true=>simp only [Go.Lg.look,hb,cond_true];rfl
    | false=>simp only [Go.Lg.look,hb,cond_false,Nat.beq_refl,cond_true];rfl
  refine Leads.fixBox (vals:=[v]) (el:=t1) (row:=false) [] [vB t3 k3 (ptrF g k2),vB t2 k2 (ptrF h k1)] h1 h2 h3 rfl (by simp only [List.all_cons,List.all_nil,CV.fixIn,Nat.beq_refl,Bool.true_or,Bool.and_true,Bool.or_eq_true];exact .inr h5) ?_
  intro blk arr fr hX hF hsp
  obtain ⟨sp,hsp⟩:=hsp
  have ha:arr[0]? = some v:=by rw [← Array.getElem?_toList,hsp];rfl
  have hO:OwnedM C X (withBlock (fun _=>none) blk (.cells arr t1 fr)):=(OwnedM.nil C X).more hF (by rw [joinM_nil];exact hX)
  have e:withBlock X blk (.cells arr t1 fr)=joinM X (withBlock (fun _=>none) blk (.cells arr t1 fr)):=by rw [← joinM_with,joinM_nil]
  rw [e]
  have hfix:fixB k1 blk [vB t3 k3 (ptrF g k2),vB t2 k2 (ptrF h k1)]++bx=vB t3 k3 (ptrF g k2)::(k2,some ⟨t2,([.func (.func h) #[] #[pv blk]]:List Value).map .val,false⟩)::bx:=by
    simp [fixB,Box.fix,CV.fix,Nat.beq_refl,h4]
  rw [hfix]
  refine Leads.fixBox (vals:=[.func (.func h) #[] #[pv blk]]) (el:=t2) (row:=false) [] [vB t3 k3 (ptrF g k2)] h1' h2' h3' rfl (by simp [CV.fixIn]) ?_
  intro blk2 arr2 fr2 hX2 hF2 hsp2
  obtain ⟨sp2,hsp2⟩:=hsp2
  have ha2:arr2[0]? = some (.func (.func h) #[] #[pv blk]):=by rw [← Array.getElem?_toList,hsp2];rfl
  have hO2:=hO.more (el:=t2) hF2 hX2
  have hn2:=(joinM_none hX2).1
  rw [joinM_with]
  have hfix:fixB k2 blk2 [vB t3 k3 (ptrF g k2)]++bx=(k3,some ⟨t3,([.func (.func g) #[] #[pv blk2]]:List Value).map .val,false⟩)::bx:=by
    simp [fixB,Box.fix,CV.fix,Nat.beq_refl]
  rw [hfix]
  refine Leads.closeRes hO2 (fun ρ fr3 h5 h6 _ => ?_) hl
  exact hD _ blk arr t1 fr blk2 arr2 t2 fr2 ρ.1 _ t3 fr3 (cJ h5 _ _ (cJ hn2 _ _ (cN _ _ _))) ha (cJ h5 _ _ (cN _ _ _)) ha2 (cN _ _ _) O
end
theorem gd_truth (b:Bool):gd (truth b)=true:=by cases b<;>rfl
theorem pick_truth (b:Bool) (x y:Nm):pickX (truth b) x y = .ok (if b=true then x else y):=by
  unfold pickX
  rw [gd_truth,if_neg (by decide)]
  cases b
  · rw [if_pos (show truth false=(false,0) from rfl)];rfl
  · rw [if_neg (show truth true≠(false,0) by decide)];rfl
theorem zz_inj {x y:Nm} (hx:In2 x.2) (hy:In2 y.2) (gx:gd x=true) (gy:gd y=true) (h:zz x=zz y):x=y:=by
  obtain ⟨a,M⟩:=x
  obtain ⟨b,N⟩:=y
  unfold gd formB at gx gy
  unfold zz zv at h
  unfold In2 at hx hy
  simp only at *
  cases a<;>cases b<;>simp_all<;>omega
theorem node_neg {u:Nm} (hu:In2 u.2):nodeX 10 [u]=doX 6 (false,0) u:=by
  rw [nodeX]
  unfold doX
  rw [show (gd (false,0)&&gd u)=gd u by rw [show gd (false,0)=true from rfl,Bool.true_and]]
  cases g:gd u with
  | false=>rfl
  | true =>
    have hr:=(gd_q g hu).2
    rw [if_neg (by decide),if_pos rfl,if_neg (by decide),if_neg (by omega),show arith 6 (zz (false,0)) (zz u) = -(zz u) by unfold arith;rw [if_neg (by decide),if_pos rfl,show zz (false,0)=0 from rfl];omega,if_pos (by unfold R127 at *;omega)]
theorem node_not (u:Nm):nodeX 15 [u]=sameX (false,0) u:=by
  rw [nodeX]
  unfold sameX truX
  rw [show (gd (false,0)&&gd u)=gd u by rw [show gd (false,0)=true from rfl,Bool.true_and],if_neg (show ¬ (15:Int)=10 by decide)]
  have e:decide (((false,0):Nm)=u)=decide (u=(false,0)):=by
    by_cases h:u=(false,0)
    · rw [cP h,cP h.symm]
    · rw [cO h,cO (fun e=>h e.symm)]
  rw [e]
theorem less_ok {x y a:Nm} (h:lessX x y = .ok a):In2 a.2:=by
  unfold lessX truX at h
  split at h
  · cases h
  · cases h;exact truth_in2 _
theorem less_err {x y:Nm} {e:Int} (h:lessX x y = .error e):e≠0:=by
  unfold lessX truX at h
  split at h
  · cases h;decide
  · cases h
theorem node_least {x y:Nm} (hx:In2 x.2) (hy:In2 y.2):nodeX 11 [x,y]=choX lessX x y:=by
  rw [nodeX]
  rw [if_neg (by decide),if_neg (by decide),if_pos (rfl:(11:Int)=11)]
  unfold choX lessX truX
  cases g:(gd x&&gd y) with
  | false=>rfl
  | true =>
    obtain ⟨gx,gy⟩:=Bool.and_eq_true_iff.1 g
    simp only [Bool.true_eq_false,if_false,pick_truth]
    by_cases h:zz x<zz y
    · rw [if_neg (by omega),if_pos (cP h)]
    · rw [if_neg (show ¬ decide (zz x<zz y)=true by rw [cO h];decide)]
      by_cases h2:zz y<zz x
      · rw [if_pos h2]
      · rw [if_neg h2,zz_inj hx hy gx gy (by omega)]
theorem node_great {x y:Nm} (hx:In2 x.2) (hy:In2 y.2):nodeX 12 [x,y]=choX (fun x y=>lessX y x) x y:=by
  rw [nodeX]
  rw [if_neg (by decide),if_neg (by decide),if_neg (show ¬ (12:Int)=11 by decide),if_pos (rfl:(12:Int)=12)]
  unfold choX lessX truX
  simp only
  rw [Bool.and_comm]
  cases g:(gd y&&gd x) with
  | false=>rfl
  | true =>
    obtain ⟨gy,gx⟩:=Bool.and_eq_true_iff.1 g
    simp only [Bool.true_eq_false,if_false,pick_truth]
    by_cases h:zz y<zz x
    · rw [if_neg (by omega),if_pos (cP h)]
    · rw [if_neg (show ¬ decide (zz y<zz x)=true by rw [cO h];decide)]
      by_cases h2:zz x<zz y
      · rw [if_pos h2]
      · rw [if_neg h2,zz_inj hx hy gx gy (by omega)]
theorem node_same (x y:Nm):nodeX 13 [x,y]=sameX x y:=by
  rw [nodeX]
  rw [if_neg (by decide),if_neg (by decide),if_neg (show ¬ (13:Int)=11 by decide),if_neg (show ¬ (13:Int)=12 by decide),if_pos (rfl:(13:Int)=13)]
  rfl
theorem node_less (x y:Nm):nodeX 14 [x,y]=lessX x y:=by
  rw [nodeX]
  rw [if_neg (by decide),if_neg (by decide),if_neg (show ¬ (14:Int)=11 by decide),if_neg (show ¬ (14:Int)=12 by decide),if_neg (show ¬ (14:Int)=13 by decide)]
  rfl
theorem node_need (x y:Nm):nodeX 17 [x,y]=needX x y:=by
  rw [nodeX]
  rw [if_neg (by decide),if_pos rfl]
  rfl
theorem node_do {op:Int} (ho:5≤op∧op≤9) (x y:Nm):nodeX op [x,y]=doX op x y:=if_pos ho
def cloF (op:Int):FuncId:=if op=16 then 150 else if op=10∨op=15 then 144 else 133
def wordS (op:Int):List UInt8:=if 5≤op∧op≤17 then wordX op else []
def rowL (op:Int):List Value:=[.string ⟨(wordS op).toArray⟩,.int .i64 (takes op:Nat),.bool (op==2||op==3),.bool (op==2),.bool (op==1)]
abbrev LRow (op:Int) (c:CV):LV:=.sv (.agg ((rowL op).map .val++[c]))
abbrev dB (k:Nat) (op:Int):Nat×Option Box:=(k,some ⟨0,[],.res (deedR (cloF op) op)⟩)
def leafV (op:Int):Value:=if op=1 then fnV 103 else if op=2 then fnV 104 else if op=3 then fnV 105 else if op=4 then fnV 106 else .nilFunc
def rwR (op:Int):LV:=if 5≤op∧op≤17 then LRow op (ptrF (cloF op) 1000001) else LRow op (.val (leafV op))
def rwBx (op:Int):List (Nat×Option Box):=if 5≤op∧op≤17 then [dB 1000001 op] else []
theorem rw_fn {op:Int} (h:5≤op∧op≤17):rwR op=LRow op (ptrF (cloF op) 1000001)∧rwBx op=[dB 1000001 op]:=⟨if_pos h,if_pos h⟩
theorem rw_no {op:Int} (h:¬ (5≤op∧op≤17)):rwR op=LRow op (.val (leafV op))∧rwBx op=[]:=⟨if_neg h,if_neg h⟩
theorem rwBx_use (op:Int):((rwBx op).all fun p=>match p.2 with|some b=>b.cells.all (CV.inUse (rwBx op))|none=>true)=true:=by
  by_cases h:5≤op∧op≤17
  · rw [(rw_fn h).2];rfl
  · rw [(rw_no h).2];rfl
theorem rwR_use (op:Int):LV.inUse (rwBx op) (rwR op)=true:=by
  by_cases h:5≤op∧op≤17
  · rw [(rw_fn h).1,(rw_fn h).2];rfl
  · rw [(rw_no h).1,(rw_no h).2];rfl
theorem rowL_bad {op:Int} (h:op<1∨17<op):rowL op=[.string ⟨#[]⟩,.int .i64 0,.bool false,.bool false,.bool false]:=by
  unfold rowL wordS
  rw [if_neg (by omega),takes_out (by omega),cR (show op≠2 by omega),cR (show op≠3 by omega),cR (show op≠1 by omega)]
  rfl
set_option maxHeartbeats 12800000 in
theorem rowOf_all (op:Int):MSpec Tryz.prog X 91 [Ln .i64 op] [] (rwR op) (rwBx op):=by
  refine cG Tryz.func91 rfl (by kernel_rfl) rfl (rwR_use op) (rwBx_use op) rfl rfl ?_
  intro C
  refine LWP.ends ?_
  (refine aA<|rgN<|aP O dR ?_;refine aB<|aA<|aA<|rgN<|kmv O<|aB<|aG<|aA ?_)
  by_cases c1:op=1
  · subst c1
    rw [(rw_no (op:=1) (by decide)).1,(rw_no (op:=1) (by decide)).2]
    (refine rgN<|keq O O (r:=true) O<|kas O<|aB<|aE O ?_;refine aA<|rgN<|aT O O (by exact O) (by exact nl3 O O O O) dR ?_;refine aT O O (by exact O) (by exact nl6 O O O O O O O) dR ?_;refine aM O O O O O O dR ?_;refine aB<|aI ?_)
    exact cD ⟨[],⟨[_],⟨⟨_,_,O,O,O,.inl ⟨AggT.h,O⟩⟩,trivial⟩,O⟩,trivial,O,O⟩
  (refine rgN<|keq O O (r:=false) (cR c1)<|kas O<|aB<|aF O ?_;refine aA ?_)
  by_cases c2:op=2
  · subst c2
    rw [(rw_no (op:=2) (by decide)).1,(rw_no (op:=2) (by decide)).2]
    (refine rgN<|keq O O (r:=true) O<|kas O<|aB<|aE O ?_;refine aA<|rgN<|aT O O (by exact O) (by exact nl3 O O O O) dR ?_;refine aT O O (by exact O) (by exact nl6 O O O O O O O) dR ?_;refine aM O O O O O O dR ?_;refine aB<|aI ?_)
    exact cD ⟨[],⟨[_],⟨⟨_,_,O,O,O,.inl ⟨AggT.h,O⟩⟩,trivial⟩,O⟩,trivial,O,O⟩
  (refine rgN<|keq O O (r:=false) (cR c2)<|kas O<|aB<|aF O ?_;refine aA ?_)
  by_cases c3:op=3
  · subst c3
    rw [(rw_no (op:=3) (by decide)).1,(rw_no (op:=3) (by decide)).2]
    (refine rgN<|keq O O (r:=true) O<|kas O<|aB<|aE O ?_;refine aA<|rgN<|aT O O (by exact O) (by exact nl3 O O O O) dR ?_;refine aT O O (by exact O) (by exact nl6 O O O O O O O) dR ?_;refine aM O O O O O O dR ?_;refine aB<|aI ?_)
    exact cD ⟨[],⟨[_],⟨⟨_,_,O,O,O,.inl ⟨AggT.h,O⟩⟩,trivial⟩,O⟩,trivial,O,O⟩
  (refine rgN<|keq O O (r:=false) (cR c3)<|kas O<|aB<|aF O ?_;refine aA ?_)
  by_cases c4:op=4
  · subst c4
    rw [(rw_no (op:=4) (by decide)).1,(rw_no (op:=4) (by decide)).2]
    (refine rgN<|keq O O (r:=true) O<|kas O<|aB<|aE O ?_;refine aA<|rgN<|aT O O (by exact O) (by exact nl6 O O O O O O O) dR ?_;refine aM O O O O O O dR ?_;refine aB<|aI ?_)
    exact cD ⟨[],⟨[_],⟨⟨_,_,O,O,O,.inl ⟨AggT.h,O⟩⟩,trivial⟩,O⟩,trivial,O,O⟩
  (refine rgN<|keq O O (r:=false) (cR c4)<|kas O<|aB<|aF O ?_;refine aA ?_)
  by_cases c5:op=5
  · subst c5
    rw [(rw_fn (op:=5) (by decide)).1,(rw_fn (op:=5) (by decide)).2]
    (refine rgN<|keq O O (r:=true) O<|kas O<|aB<|aE O ?_;refine aA<|rgN<|bE [(1000001,501)] (.sv (.one (ptrF 133 501))) [vB 173 501 (.val (fnV 108))] ((mA_ofTwo X 108)) O O (by exact trivial) O O O O O (by exact (.box O O .nil)) dR<|aT O O (by exact O) (by exact nl6 O O O O O O O) dR ?_;refine aM O O O O O O dR ?_;refine aB<|aI ?_)
    refine cE (σ':=⟨[(2,Lp 2)],vB 173 501 (.val (fnV 108))::(2,some ⟨137,(rowL 5).map .val++[ptrF (cloF 5) 501],false⟩)::[],X⟩) (Le.of (by exact ⟨O,trivial⟩) (by exact ⟨O,O,trivial⟩) (by exact O) (by exact O) (by repeat' (first|refine bT ?_ ?_|rfl|exact bV|exact bU|exact bW O))) ?_
    refine deed_shut1 (f:=cloF 5) (op:=5) (fun Y _ _ _ _ h1 h2=>deed_two O h1 h2 (two_fn Y (fun Z x y hx hy=>wAdd_do Z x y hx hy)) (fun u w _ _=>node_do (by decide) u w)) (cD ?_)
    exact ⟨[(1000001,501)],⟨[_],⟨⟨_,_,rfl,rfl,rfl,.inl ⟨AggT.h,rfl⟩⟩,trivial⟩,rfl⟩,(by repeat' (first|exact trivial|refine cQ ⟨_,rfl,?_⟩ ?_|refine cQ ⟨_,rfl⟩ ?_|rfl|exact bX _ _ _ _|exact bY _ _ _ _|exact bZ rfl)),rfl,rfl⟩
  (refine rgN<|keq O O (r:=false) (cR c5)<|kas O<|aB<|aF O ?_;refine aA ?_)
  by_cases c6:op=6
  · subst c6
    rw [(rw_fn (op:=6) (by decide)).1,(rw_fn (op:=6) (by decide)).2]
    (refine rgN<|keq O O (r:=true) O<|kas O<|aB<|aE O ?_;refine aA<|rgN<|bE [(1000001,501)] (.sv (.one (ptrF 133 501))) [vB 173 501 (.val (fnV 109))] ((mA_ofTwo X 109)) O O (by exact trivial) O O O O O (by exact (.box O O .nil)) dR<|aT O O (by exact O) (by exact nl6 O O O O O O O) dR ?_;refine aM O O O O O O dR ?_;refine aB<|aI ?_)
    refine cE (σ':=⟨[(2,Lp 2)],vB 173 501 (.val (fnV 109))::(2,some ⟨137,(rowL 6).map .val++[ptrF (cloF 6) 501],false⟩)::[],X⟩) (Le.of (by exact ⟨O,trivial⟩) (by exact ⟨O,O,trivial⟩) (by exact O) (by exact O) (by repeat' (first|refine bT ?_ ?_|rfl|exact bV|exact bU|exact bW O))) ?_
    refine deed_shut1 (f:=cloF 6) (op:=6) (fun Y _ _ _ _ h1 h2=>deed_two O h1 h2 (two_fn Y (fun Z x y hx hy=>wSub_do Z x y hx hy)) (fun u w _ _=>node_do (by decide) u w)) (cD ?_)
    exact ⟨[(1000001,501)],⟨[_],⟨⟨_,_,rfl,rfl,rfl,.inl ⟨AggT.h,rfl⟩⟩,trivial⟩,rfl⟩,(by repeat' (first|exact trivial|refine cQ ⟨_,rfl,?_⟩ ?_|refine cQ ⟨_,rfl⟩ ?_|rfl|exact bX _ _ _ _|exact bY _ _ _ _|exact bZ rfl)),rfl,rfl⟩
  (refine rgN<|keq O O (r:=false) (cR c6)<|kas O<|aB<|aF O ?_;refine aA ?_)
  by_cases c7:op=7
  · subst c7
    rw [(rw_fn (op:=7) (by decide)).1,(rw_fn (op:=7) (by decide)).2]
    (refine rgN<|keq O O (r:=true) O<|kas O<|aB<|aE O ?_;refine aA<|rgN<|bE [(1000001,501)] (.sv (.one (ptrF 133 501))) [vB 173 501 (.val (fnV 110))] ((mA_ofTwo X 110)) O O (by exact trivial) O O O O O (by exact (.box O O .nil)) dR<|aT O O (by exact O) (by exact nl6 O O O O O O O) dR ?_;refine aM O O O O O O dR ?_;refine aB<|aI ?_)
    refine cE (σ':=⟨[(2,Lp 2)],vB 173 501 (.val (fnV 110))::(2,some ⟨137,(rowL 7).map .val++[ptrF (cloF 7) 501],false⟩)::[],X⟩) (Le.of (by exact ⟨O,trivial⟩) (by exact ⟨O,O,trivial⟩) (by exact O) (by exact O) (by repeat' (first|refine bT ?_ ?_|rfl|exact bV|exact bU|exact bW O))) ?_
    refine deed_shut1 (f:=cloF 7) (op:=7) (fun Y _ _ _ _ h1 h2=>deed_two O h1 h2 (two_fn Y (fun Z x y hx hy=>wMul_do Z x y hx hy)) (fun u w _ _=>node_do (by decide) u w)) (cD ?_)
    exact ⟨[(1000001,501)],⟨[_],⟨⟨_,_,rfl,rfl,rfl,.inl ⟨AggT.h,rfl⟩⟩,trivial⟩,rfl⟩,(by repeat' (first|exact trivial|refine cQ ⟨_,rfl,?_⟩ ?_|refine cQ ⟨_,rfl⟩ ?_|rfl|exact bX _ _ _ _|exact bY _ _ _ _|exact bZ rfl)),rfl,rfl⟩
  (refine rgN<|keq O O (r:=false) (cR c7)<|kas O<|aB<|aF O ?_;refine aA ?_)
  by_cases c8:op=8
  · subst c8
    rw [(rw_fn (op:=8) (by decide)).1,(rw_fn (op:=8) (by decide)).2]
    (refine rgN<|keq O O (r:=true) O<|kas O<|aB<|aE O ?_;refine aA<|rgN<|bE [(1000001,501)] (.sv (.one (ptrF 133 501))) [vB 173 501 (.val (fnV 111))] ((mA_ofTwo X 111)) O O (by exact trivial) O O O O O (by exact (.box O O .nil)) dR<|aT O O (by exact O) (by exact nl6 O O O O O O O) dR ?_;refine aM O O O O O O dR ?_;refine aB<|aI ?_)
    refine cE (σ':=⟨[(2,Lp 2)],vB 173 501 (.val (fnV 111))::(2,some ⟨137,(rowL 8).map .val++[ptrF (cloF 8) 501],false⟩)::[],X⟩) (Le.of (by exact ⟨O,trivial⟩) (by exact ⟨O,O,trivial⟩) (by exact O) (by exact O) (by repeat' (first|refine bT ?_ ?_|rfl|exact bV|exact bU|exact bW O))) ?_
    refine deed_shut1 (f:=cloF 8) (op:=8) (fun Y _ _ _ _ h1 h2=>deed_two O h1 h2 (two_fn Y (fun Z x y hx hy=>wQuo_do Z x y hx hy)) (fun u w _ _=>node_do (by decide) u w)) (cD ?_)
    exact ⟨[(1000001,501)],⟨[_],⟨⟨_,_,rfl,rfl,rfl,.inl ⟨AggT.h,rfl⟩⟩,trivial⟩,rfl⟩,(by repeat' (first|exact trivial|refine cQ ⟨_,rfl,?_⟩ ?_|refine cQ ⟨_,rfl⟩ ?_|rfl|exact bX _ _ _ _|exact bY _ _ _ _|exact bZ rfl)),rfl,rfl⟩
  (refine rgN<|keq O O (r:=false) (cR c8)<|kas O<|aB<|aF O ?_;refine aA ?_)
  by_cases c9:op=9
  · subst c9
    rw [(rw_fn (op:=9) (by decide)).1,(rw_fn (op:=9) (by decide)).2]
    (refine rgN<|keq O O (r:=true) O<|kas O<|aB<|aE O ?_;refine aA<|rgN<|bE [(1000001,501)] (.sv (.one (ptrF 133 501))) [vB 173 501 (.val (fnV 112))] ((mA_ofTwo X 112)) O O (by exact trivial) O O O O O (by exact (.box O O .nil)) dR<|aT O O (by exact O) (by exact nl6 O O O O O O O) dR ?_;refine aM O O O O O O dR ?_;refine aB<|aI ?_)
    refine cE (σ':=⟨[(2,Lp 2)],vB 173 501 (.val (fnV 112))::(2,some ⟨137,(rowL 9).map .val++[ptrF (cloF 9) 501],false⟩)::[],X⟩) (Le.of (by exact ⟨O,trivial⟩) (by exact ⟨O,O,trivial⟩) (by exact O) (by exact O) (by repeat' (first|refine bT ?_ ?_|rfl|exact bV|exact bU|exact bW O))) ?_
    refine deed_shut1 (f:=cloF 9) (op:=9) (fun Y _ _ _ _ h1 h2=>deed_two O h1 h2 (two_fn Y (fun Z x y hx hy=>wRem_do Z x y hx hy)) (fun u w _ _=>node_do (by decide) u w)) (cD ?_)
    exact ⟨[(1000001,501)],⟨[_],⟨⟨_,_,rfl,rfl,rfl,.inl ⟨AggT.h,rfl⟩⟩,trivial⟩,rfl⟩,(by repeat' (first|exact trivial|refine cQ ⟨_,rfl,?_⟩ ?_|refine cQ ⟨_,rfl⟩ ?_|rfl|exact bX _ _ _ _|exact bY _ _ _ _|exact bZ rfl)),rfl,rfl⟩
  (refine rgN<|keq O O (r:=false) (cR c9)<|kas O<|aB<|aF O ?_;refine aA ?_)
  by_cases c10:op=10
  · subst c10
    rw [(rw_fn (op:=10) (by decide)).1,(rw_fn (op:=10) (by decide)).2]
    (refine rgN<|keq O O (r:=true) O<|kas O<|aB<|aE O ?_;refine aA<|rgN<|bE [(1000001,501)] (.sv (.one (ptrF 145 501))) [vB 173 501 (.val (fnV 109))] ((mA_withZero X 109)) O O (by exact trivial) O O O O O (by exact (.box O O .nil)) dR<|bE [(1000001,502),(1000002,501)] (.sv (.one (ptrF 144 502))) [vB 171 502 (ptrF 145 501),vB 173 501 (.val (fnV 109))] ((mB_ofOne X 145 109 173)) O O (by exact (cQ ⟨_,O,O⟩ trivial)) (by exact (bT (bT O O) O)) O O O O (by exact (.box O O (.box O O .nil))) dR<|aT O O (by exact O) (by exact nl6 O O O O O O O) dR ?_;refine aM O O O O O O dR ?_;refine aB<|aI ?_)
    refine cE (σ':=⟨[(2,Lp 2)],vB 171 502 (ptrF 145 501)::vB 173 501 (.val (fnV 109))::(2,some ⟨137,(rowL 10).map .val++[ptrF (cloF 10) 502],false⟩)::[],X⟩) (Le.of (by exact ⟨O,trivial⟩) (by exact ⟨O,O,O,trivial⟩) (by exact O) (by exact O) (by repeat' (first|refine bT ?_ ?_|rfl|exact bV|exact bU|exact bW O))) ?_
    refine deed_shut2 (f:=cloF 10) (op:=10) (fun Y _ _ _ _ _ _ _ _ h1 h2 h3 h4=>deed_one O h3 h4 (one_zero h1 h2 (two_fn Y (fun Z x y hx hy=>wSub_do Z x y hx hy))) (fun u hu=>node_neg hu)) O O O (cD ?_)
    exact ⟨[(1000001,502)],⟨[_],⟨⟨_,_,rfl,rfl,rfl,.inl ⟨AggT.h,rfl⟩⟩,trivial⟩,rfl⟩,(by repeat' (first|exact trivial|refine cQ ⟨_,rfl,?_⟩ ?_|refine cQ ⟨_,rfl⟩ ?_|rfl|exact bX _ _ _ _|exact bY _ _ _ _|exact bZ rfl)),rfl,rfl⟩
  (refine rgN<|keq O O (r:=false) (cR c10)<|kas O<|aB<|aF O ?_;refine aA ?_)
  by_cases c11:op=11
  · subst c11
    rw [(rw_fn (op:=11) (by decide)).1,(rw_fn (op:=11) (by decide)).2]
    (refine rgN<|keq O O (r:=true) O<|kas O<|aB<|aE O ?_;refine aA<|rgN<|bE [(1000001,501)] (.sv (.one (ptrF 146 501))) [vB 173 501 (.val (fnV 116))] ((mA_chosen X 116)) O O (by exact trivial) O O O O O (by exact (.box O O .nil)) dR<|bE [(1000001,502),(1000002,501)] (.sv (.one (ptrF 133 502))) [vB 173 502 (ptrF 146 501),vB 173 501 (.val (fnV 116))] ((mB_ofTwo X 146 116 173)) O O (by exact (cQ ⟨_,O,O⟩ trivial)) (by exact (bT (bT O O) O)) O O O O (by exact (.box O O (.box O O .nil))) dR<|aT O O (by exact O) (by exact nl6 O O O O O O O) dR ?_;refine aM O O O O O O dR ?_;refine aB<|aI ?_)
    refine cE (σ':=⟨[(2,Lp 2)],vB 173 502 (ptrF 146 501)::vB 173 501 (.val (fnV 116))::(2,some ⟨137,(rowL 11).map .val++[ptrF (cloF 11) 502],false⟩)::[],X⟩) (Le.of (by exact ⟨O,trivial⟩) (by exact ⟨O,O,O,trivial⟩) (by exact O) (by exact O) (by repeat' (first|refine bT ?_ ?_|rfl|exact bV|exact bU|exact bW O))) ?_
    refine deed_shut2 (f:=cloF 11) (op:=11) (fun Y _ _ _ _ _ _ _ _ h1 h2 h3 h4=>deed_two O h3 h4 (two_chosen h1 h2 (two_fn Y (fun Z x y hx hy=>tLess Z x y hx hy)) (fun _ _ _ h=>less_ok h) (fun _ _ _ h=>less_err h)) (fun u w hu hw=>node_least hu hw)) O O O (cD ?_)
    exact ⟨[(1000001,502)],⟨[_],⟨⟨_,_,rfl,rfl,rfl,.inl ⟨AggT.h,rfl⟩⟩,trivial⟩,rfl⟩,(by repeat' (first|exact trivial|refine cQ ⟨_,rfl,?_⟩ ?_|refine cQ ⟨_,rfl⟩ ?_|rfl|exact bX _ _ _ _|exact bY _ _ _ _|exact bZ rfl)),rfl,rfl⟩
  (refine rgN<|keq O O (r:=false) (cR c11)<|kas O<|aB<|aF O ?_;refine aA ?_)
  by_cases c12:op=12
  · subst c12
    rw [(rw_fn (op:=12) (by decide)).1,(rw_fn (op:=12) (by decide)).2]
    (refine rgN<|keq O O (r:=true) O<|kas O<|aB<|aE O ?_;refine aA<|rgN<|bE [(1000001,501)] (.sv (.one (ptrF 149 501))) [vB 173 501 (.val (fnV 116))] ((mA_swapped X 116)) O O (by exact trivial) O O O O O (by exact (.box O O .nil)) dR<|bE [(1000001,502),(1000002,501)] (.sv (.one (ptrF 146 502))) [vB 173 502 (ptrF 149 501),vB 173 501 (.val (fnV 116))] ((mB_chosen X 149 116 173)) O O (by exact (cQ ⟨_,O,O⟩ trivial)) (by exact (bT (bT O O) O)) O O O O (by exact (.box O O (.box O O .nil))) dR<|bE [(1000001,503),(1000002,502),(1000003,501)] (.sv (.one (ptrF 133 503))) [vB 173 503 (ptrF 146 502),vB 173 502 (ptrF 149 501),vB 173 501 (.val (fnV 116))] ((mC_ofTwo X 146 149 116 173)) O O (by exact (cQ ⟨_,O,O⟩ (cQ ⟨_,O,O⟩ trivial))) (by exact (bT (bT O O) (bT (bT O O) O))) O O O O (by exact (.box O O (.box O O (.box O O .nil)))) dR<|aT O O (by exact O) (by exact nl6 O O O O O O O) dR ?_;refine aM O O O O O O dR ?_;refine aB<|aI ?_)
    refine cE (σ':=⟨[(2,Lp 2)],vB 173 503 (ptrF 146 502)::vB 173 502 (ptrF 149 501)::vB 173 501 (.val (fnV 116))::(2,some ⟨137,(rowL 12).map .val++[ptrF (cloF 12) 503],false⟩)::[],X⟩) (Le.of (by exact ⟨O,trivial⟩) (by exact ⟨O,O,O,O,trivial⟩) (by exact O) (by exact O) (by repeat' (first|refine bT ?_ ?_|rfl|exact bV|exact bU|exact bW O))) ?_
    refine deed_shut3 (f:=cloF 12) (op:=12) (fun Y _ _ _ _ _ _ _ _ _ _ _ _ h1 h2 h3 h4 h5 h6=>deed_two O h5 h6 (two_chosen h3 h4 (two_swapped h1 h2 (two_fn Y (fun Z x y hx hy=>tLess Z x y hx hy))) (fun _ _ _ h=>less_ok h) (fun _ _ _ h=>less_err h)) (fun u w hu hw=>node_great hu hw)) O O O O O O O (cD ?_)
    exact ⟨[(1000001,503)],⟨[_],⟨⟨_,_,rfl,rfl,rfl,.inl ⟨AggT.h,rfl⟩⟩,trivial⟩,rfl⟩,(by repeat' (first|exact trivial|refine cQ ⟨_,rfl,?_⟩ ?_|refine cQ ⟨_,rfl⟩ ?_|rfl|exact bX _ _ _ _|exact bY _ _ _ _|exact bZ rfl)),rfl,rfl⟩
  (refine rgN<|keq O O (r:=false) (cR c12)<|kas O<|aB<|aF O ?_;refine aA ?_)
  by_cases c13:op=13
  · subst c13
    rw [(rw_fn (op:=13) (by decide)).1,(rw_fn (op:=13) (by decide)).2]
    (refine rgN<|keq O O (r:=true) O<|kas O<|aB<|aE O ?_;refine aA<|rgN<|bE [(1000001,501)] (.sv (.one (ptrF 133 501))) [vB 173 501 (.val (fnV 118))] ((mA_ofTwo X 118)) O O (by exact trivial) O O O O O (by exact (.box O O .nil)) dR<|aT O O (by exact O) (by exact nl6 O O O O O O O) dR ?_;refine aM O O O O O O dR ?_;refine aB<|aI ?_)
    refine cE (σ':=⟨[(2,Lp 2)],vB 173 501 (.val (fnV 118))::(2,some ⟨137,(rowL 13).map .val++[ptrF (cloF 13) 501],false⟩)::[],X⟩) (Le.of (by exact ⟨O,trivial⟩) (by exact ⟨O,O,trivial⟩) (by exact O) (by exact O) (by repeat' (first|refine bT ?_ ?_|rfl|exact bV|exact bU|exact bW O))) ?_
    refine deed_shut1 (f:=cloF 13) (op:=13) (fun Y _ _ _ _ h1 h2=>deed_two O h1 h2 (two_fn Y (fun Z x y hx hy=>tSame Z x y hx hy)) (fun u w _ _=>node_same u w)) (cD ?_)
    exact ⟨[(1000001,501)],⟨[_],⟨⟨_,_,rfl,rfl,rfl,.inl ⟨AggT.h,rfl⟩⟩,trivial⟩,rfl⟩,(by repeat' (first|exact trivial|refine cQ ⟨_,rfl,?_⟩ ?_|refine cQ ⟨_,rfl⟩ ?_|rfl|exact bX _ _ _ _|exact bY _ _ _ _|exact bZ rfl)),rfl,rfl⟩
  (refine rgN<|keq O O (r:=false) (cR c13)<|kas O<|aB<|aF O ?_;refine aA ?_)
  by_cases c14:op=14
  · subst c14
    rw [(rw_fn (op:=14) (by decide)).1,(rw_fn (op:=14) (by decide)).2]
    (refine rgN<|keq O O (r:=true) O<|kas O<|aB<|aE O ?_;refine aA<|rgN<|bE [(1000001,501)] (.sv (.one (ptrF 133 501))) [vB 173 501 (.val (fnV 116))] ((mA_ofTwo X 116)) O O (by exact trivial) O O O O O (by exact (.box O O .nil)) dR<|aT O O (by exact O) (by exact nl6 O O O O O O O) dR ?_;refine aM O O O O O O dR ?_;refine aB<|aI ?_)
    refine cE (σ':=⟨[(2,Lp 2)],vB 173 501 (.val (fnV 116))::(2,some ⟨137,(rowL 14).map .val++[ptrF (cloF 14) 501],false⟩)::[],X⟩) (Le.of (by exact ⟨O,trivial⟩) (by exact ⟨O,O,trivial⟩) (by exact O) (by exact O) (by repeat' (first|refine bT ?_ ?_|rfl|exact bV|exact bU|exact bW O))) ?_
    refine deed_shut1 (f:=cloF 14) (op:=14) (fun Y _ _ _ _ h1 h2=>deed_two O h1 h2 (two_fn Y (fun Z x y hx hy=>tLess Z x y hx hy)) (fun u w _ _=>node_less u w)) (cD ?_)
    exact ⟨[(1000001,501)],⟨[_],⟨⟨_,_,rfl,rfl,rfl,.inl ⟨AggT.h,rfl⟩⟩,trivial⟩,rfl⟩,(by repeat' (first|exact trivial|refine cQ ⟨_,rfl,?_⟩ ?_|refine cQ ⟨_,rfl⟩ ?_|rfl|exact bX _ _ _ _|exact bY _ _ _ _|exact bZ rfl)),rfl,rfl⟩
  (refine rgN<|keq O O (r:=false) (cR c14)<|kas O<|aB<|aF O ?_;refine aA ?_)
  by_cases c15:op=15
  · subst c15
    rw [(rw_fn (op:=15) (by decide)).1,(rw_fn (op:=15) (by decide)).2]
    (refine rgN<|keq O O (r:=true) O<|kas O<|aB<|aE O ?_;refine aA<|rgN<|bE [(1000001,501)] (.sv (.one (ptrF 145 501))) [vB 173 501 (.val (fnV 118))] ((mA_withZero X 118)) O O (by exact trivial) O O O O O (by exact (.box O O .nil)) dR<|bE [(1000001,502),(1000002,501)] (.sv (.one (ptrF 144 502))) [vB 171 502 (ptrF 145 501),vB 173 501 (.val (fnV 118))] ((mB_ofOne X 145 118 173)) O O (by exact (cQ ⟨_,O,O⟩ trivial)) (by exact (bT (bT O O) O)) O O O O (by exact (.box O O (.box O O .nil))) dR<|aT O O (by exact O) (by exact nl6 O O O O O O O) dR ?_;refine aM O O O O O O dR ?_;refine aB<|aI ?_)
    refine cE (σ':=⟨[(2,Lp 2)],vB 171 502 (ptrF 145 501)::vB 173 501 (.val (fnV 118))::(2,some ⟨137,(rowL 15).map .val++[ptrF (cloF 15) 502],false⟩)::[],X⟩) (Le.of (by exact ⟨O,trivial⟩) (by exact ⟨O,O,O,trivial⟩) (by exact O) (by exact O) (by repeat' (first|refine bT ?_ ?_|rfl|exact bV|exact bU|exact bW O))) ?_
    refine deed_shut2 (f:=cloF 15) (op:=15) (fun Y _ _ _ _ _ _ _ _ h1 h2 h3 h4=>deed_one O h3 h4 (one_zero h1 h2 (two_fn Y (fun Z x y hx hy=>tSame Z x y hx hy))) (fun u hu=>node_not u)) O O O (cD ?_)
    exact ⟨[(1000001,502)],⟨[_],⟨⟨_,_,rfl,rfl,rfl,.inl ⟨AggT.h,rfl⟩⟩,trivial⟩,rfl⟩,(by repeat' (first|exact trivial|refine cQ ⟨_,rfl,?_⟩ ?_|refine cQ ⟨_,rfl⟩ ?_|rfl|exact bX _ _ _ _|exact bY _ _ _ _|exact bZ rfl)),rfl,rfl⟩
  (refine rgN<|keq O O (r:=false) (cR c15)<|kas O<|aB<|aF O ?_;refine aA ?_)
  by_cases c16:op=16
  · subst c16
    rw [(rw_fn (op:=16) (by decide)).1,(rw_fn (op:=16) (by decide)).2]
    (refine rgN<|keq O O (r:=true) O<|kas O<|aB<|aE O ?_;refine aA<|rgN<|bE [(1000001,501)] (.sv (.one (ptrF 150 501))) [vB 206 501 (.val (fnV 120))] ((mA_ofThree X 120)) O O (by exact trivial) O O O O O (by exact (.box O O .nil)) dR<|aT O O (by exact O) (by exact nl6 O O O O O O O) dR ?_;refine aM O O O O O O dR ?_;refine aB<|aI ?_)
    refine cE (σ':=⟨[(2,Lp 2)],vB 206 501 (.val (fnV 120))::(2,some ⟨137,(rowL 16).map .val++[ptrF (cloF 16) 501],false⟩)::[],X⟩) (Le.of (by exact ⟨O,trivial⟩) (by exact ⟨O,O,trivial⟩) (by exact O) (by exact O) (by repeat' (first|refine bT ?_ ?_|rfl|exact bV|exact bU|exact bW O))) ?_
    refine deed_shut1 (f:=cloF 16) (op:=16) (fun Y _ _ _ _ h1 h2=>deed_three O h1 h2 (three_fn Y (fun Z x y z hx hy hz=>tPick Z x y z hx)) (fun u w z _ _ _=>O)) (cD ?_)
    exact ⟨[(1000001,501)],⟨[_],⟨⟨_,_,rfl,rfl,rfl,.inl ⟨AggT.h,rfl⟩⟩,trivial⟩,rfl⟩,(by repeat' (first|exact trivial|refine cQ ⟨_,rfl,?_⟩ ?_|refine cQ ⟨_,rfl⟩ ?_|rfl|exact bX _ _ _ _|exact bY _ _ _ _|exact bZ rfl)),rfl,rfl⟩
  (refine rgN<|keq O O (r:=false) (cR c16)<|kas O<|aB<|aF O ?_;refine aA ?_)
  by_cases c17:op=17
  · subst c17
    rw [(rw_fn (op:=17) (by decide)).1,(rw_fn (op:=17) (by decide)).2]
    (refine rgN<|keq O O (r:=true) O<|kas O<|aB<|aE O ?_;refine aA<|rgN<|bE [(1000001,501)] (.sv (.one (ptrF 133 501))) [vB 173 501 (.val (fnV 121))] ((mA_ofTwo X 121)) O O (by exact trivial) O O O O O (by exact (.box O O .nil)) dR<|aT O O (by exact O) (by exact nl6 O O O O O O O) dR ?_;refine aM O O O O O O dR ?_;refine aB<|aI ?_)
    refine cE (σ':=⟨[(2,Lp 2)],vB 173 501 (.val (fnV 121))::(2,some ⟨137,(rowL 17).map .val++[ptrF (cloF 17) 501],false⟩)::[],X⟩) (Le.of (by exact ⟨O,trivial⟩) (by exact ⟨O,O,trivial⟩) (by exact O) (by exact O) (by repeat' (first|refine bT ?_ ?_|rfl|exact bV|exact bU|exact bW O))) ?_
    refine deed_shut1 (f:=cloF 17) (op:=17) (fun Y _ _ _ _ h1 h2=>deed_two O h1 h2 (two_fn Y (fun Z x y hx hy=>tNeed Z x y hy)) (fun u w _ _=>node_need u w)) (cD ?_)
    exact ⟨[(1000001,501)],⟨[_],⟨⟨_,_,rfl,rfl,rfl,.inl ⟨AggT.h,rfl⟩⟩,trivial⟩,rfl⟩,(by repeat' (first|exact trivial|refine cQ ⟨_,rfl,?_⟩ ?_|refine cQ ⟨_,rfl⟩ ?_|rfl|exact bX _ _ _ _|exact bY _ _ _ _|exact bZ rfl)),rfl,rfl⟩
  (refine rgN<|keq O O (r:=false) (cR c17)<|kas O<|aB<|aF O ?_;refine aH ?_;refine aA ?_)
  have hbad:op<1∨17<op:=by omega
  rw [(rw_no (op:=op) (by omega)).1,(rw_no (op:=op) (by omega)).2]
  unfold LRow
  rw [rowL_bad hbad,show leafV op = .nilFunc by unfold leafV;rw [if_neg c1,if_neg c2,if_neg c3,if_neg c4]]
  (refine rgN<|aT O O (by exact O) (by exact nl6 O O O O O O O) dR ?_;refine aM O O O O O O dR ?_;refine aB<|aI ?_)
  exact cD ⟨[],⟨[_],⟨⟨_,_,O,O,O,.inl ⟨AggT.h,O⟩⟩,trivial⟩,O⟩,trivial,O,O⟩
theorem rowOf_fn (op:Int) (h:5≤op∧op≤17):MSpec Tryz.prog X 91 [Ln .i64 op] [] (LRow op (ptrF (cloF op) 1000001)) [dB 1000001 op]:=by
  have:=rowOf_all X op
  rw [(rw_fn h).1,(rw_fn h).2] at this
  exact this
theorem rowOf_leaf (op:Int) (h:¬ (5≤op∧op≤17)):PSpec Tryz.prog X 91 [Ln .i64 op] (LRow op (.val (leafV op))):=by
  have:=rowOf_all X op
  rw [(rw_no h).1,(rw_no h).2] at this
  exact this.plain
theorem rowOf_1:PSpec Tryz.prog X 91 [Ln .i64 1] (LRow 1 (.val (fnV 103))):=rowOf_leaf X 1 (by decide)
theorem rowOf_2:PSpec Tryz.prog X 91 [Ln .i64 2] (LRow 2 (.val (fnV 104))):=rowOf_leaf X 2 (by decide)
theorem rowOf_3:PSpec Tryz.prog X 91 [Ln .i64 3] (LRow 3 (.val (fnV 105))):=rowOf_leaf X 3 (by decide)
theorem rowOf_4:PSpec Tryz.prog X 91 [Ln .i64 4] (LRow 4 (.val (fnV 106))):=rowOf_leaf X 4 (by decide)
theorem rowOf_no (op:Int) (h:op<1∨17<op):PSpec Tryz.prog X 91 [Ln .i64 op] (LRow op (.val .nilFunc)):=by
  have:=rowOf_leaf X op (by omega)
  rw [show leafV op = .nilFunc by unfold leafV;rw [if_neg (by omega),if_neg (by omega),if_neg (by omega),if_neg (by omega)]] at this
  exact this
end Go.Proofs.YtamplgnbbanamaaGreatDoor
end
section
namespace Go.Proofs.YtamplgnbbanamaaGreatDoor
open Go Go.Lg Go.Lg.Fml Go.Lg.Fld Go.Lg.Arith
set_option maxRecDepth 100000
variable (X:Nat→Option Obj)
theorem tSmall (n:Int):PSpec Tryz.prog X 122 [Ln .i64 n] (Lb (decide (0≤n)&&decide (n≤7))):=by
  by_cases h:0≤n
  · rw [cP h,Bool.true_and]
    refine cF Tryz.func122 rfl (by kernel_rfl) rfl rfl ?_
    intro C
    (refine aA<|rgN<|kas O<|aB<|aA<|rgN<|kmv O<|bD O O (r:=true) (cP h) dR<|kmv O<|gmv O O O<|K.leq O O O (dS O O) ?_;refine kpt O O<|kas O<|aB<|aI ?_)
    exact ⟨[_],⟨O,trivial⟩,O⟩
  · rw [cO h,Bool.false_and]
    refine cF Tryz.func122 rfl (by kernel_rfl) rfl rfl ?_
    intro C
    (refine aA<|rgN<|kas O<|aB<|aA<|rgN<|kmv O<|bD O O (r:=false) (cO h) dR<|kmv O<|aC O O O<|aC O O O<|kpf O O<|kas O<|aB ?_;refine aI ?_)
    exact ⟨[_],⟨O,trivial⟩,O⟩
def bndI (x:Ins):Bool:=(decide (0≤x.a)&&decide (x.a≤7))&&((decide (0≤x.b)&&decide (x.b≤7))&&gd x.k)
theorem okI_bnd (x:Ins):okI x=((decide (1≤x.op)&&decide (x.op≤17))&&bndI x):=by
  unfold okI bndI
  cases gd x.k<;>cases (decide (0≤x.a)&&decide (x.a≤7))<;>cases (decide (0≤x.b)&&decide (x.b≤7))<;>rfl
theorem tBounded (x:Ins) (hx:smallI x) (r:Bool) (hr:bndI x=r):PSpec Tryz.prog X 92 [LIn x] (Lb r):=by
  subst hr
  unfold bndI
  have hA:=tSmall X x.a
  have hB:=tSmall X x.b
  have hG:=tForm X x.k hx.2.2.2 _ rfl
  generalize (decide (0≤x.a)&&decide (x.a≤7))=A at *
  generalize (decide (0≤x.b)&&decide (x.b≤7))=B at *
  generalize gd x.k=G at *
  cases A with
  | false =>
    refine cF Tryz.func92 rfl (by kernel_rfl) rfl rfl ?_
    intro C
    (refine aA<|rgN<|aL O O O dR<|kas O<|aB<|aA<|rgN<|kfa O O ?_;refine kl1 O O O<|kca O O hA<|kmv O<|aC O O O<|aC O O O<|aC O O O<|kpf O O<|kmv O<|aC O O O<|aC O O O<|aC O O O<|kpf O O<|kas O<|aB ?_;refine aI ?_)
    exact ⟨[_],⟨O,trivial⟩,O⟩
  | true =>
  cases B with
  | false =>
    refine cF Tryz.func92 rfl (by kernel_rfl) rfl rfl ?_
    intro C
    (refine aA<|rgN<|aL O O O dR<|kas O<|aB<|aA<|rgN<|kfa O O ?_;refine kl1 O O O<|kca O O hA<|kmv O<|aN O O (dS O O) ?_;refine aO O O O (dS O O) ?_;refine gca O O hB O O<|kpt O O<|kmv O<|aC O O O<|aC O O O<|aC O O O<|kpf O O<|kas O<|aB<|aI ?_)
    exact ⟨[_],⟨O,trivial⟩,O⟩
  | true =>
    refine cF Tryz.func92 rfl (by kernel_rfl) rfl rfl ?_
    intro C
    (refine aA<|rgN<|aL O O O dR<|kas O<|aB<|aA<|rgN<|kfa O O ?_;refine kl1 O O O<|kca O O hA<|kmv O<|aN O O (dS O O) ?_;refine aO O O O (dS O O) ?_;refine gca O O hB O O<|kpt O O<|kmv O<|aN O O (dS O O) ?_;refine bJ O O O (by exact nl3 O O O O) (dS O O) ?_;refine gca O O (hG) O O<|kpt O O<|kas O<|aB<|aI ?_)
    exact ⟨[_],⟨O,trivial⟩,O⟩
def rowVs (p:Int×Value):List Value:=rowL p.1++[p.2]
def rwsV (q:List (Int×Value)):List Value:=(q.map rowVs).flatten
theorem rowVs_len (p:Int×Value):(rowVs p).length=6:=rfl
theorem rwsV_len (q:List (Int×Value)):(rwsV q).length=q.length*6:=by
  unfold rwsV
  induction q with
  | nil=>rfl
  | cons x t ih=>rw [List.map_cons,List.flatten_cons,cV,ih,rowVs_len,dI];omega
theorem rwsV_snoc (q:List (Int×Value)) (p:Int×Value):rwsV (q++[p])=rwsV q++rowVs p:=by
  unfold rwsV
  rw [dH,List.flatten_append]
  simp
def zeR (k:Nat):List Value:=(List.replicate k [Value.string ⟨#[]⟩,.int .i64 0,.bool false,.bool false,.bool false,.nilFunc]).flatten
theorem zeR_succ (k:Nat):zeR (k+1)=[Value.string ⟨#[]⟩,.int .i64 0,.bool false,.bool false,.bool false,.nilFunc]++zeR k:=by unfold zeR;rw [List.replicate_succ,List.flatten_cons]
theorem zeR_len (k:Nat):(zeR k).length=k*6:=by
  induction k with
  | zero=>rfl
  | succ k ih=>rw [zeR_succ,cV,ih];simp;omega
def rowsR (l:List Ins):Rsc:=⟨fun ρ H=>∃ (q:List (Int×Value)) (fr:Nat×Nat),H ρ.1=some (.cells (rwsV q).toArray 137 fr)∧ρ.2=(rwsV q).length∧q.map (·.1)=l.map Ins.op∧∀ p∈q,DeedV H p.2 p.1⟩
structure RowsOK (Y:Nat→Option Obj) (ad:Option Addr) (l:List Ins):Prop where
  ex:∃ q:List (Int×Value),Go.Lg.RowsIn Y ad 6 (q.map rowVs)∧q.map (·.1)=l.map Ins.op∧∀ p∈q,DeedV Y p.2 p.1
theorem rows_fix {l:List Ins} {ρ:Nat×Nat} {H Y:Nat→Option Obj} (h:(rowsR l).holds ρ H) (hY:MoreM H Y):RowsOK Y (some ⟨ρ.1,0,none⟩) l:=by
  obtain ⟨q,fr,h1,h2,h3,h4⟩:=h
  refine ⟨q,rows_in (hY _ _ h1) (fun r hr=>by obtain ⟨x,_,rfl⟩:=List.mem_map.1 hr;rfl) ⟨[],by rw [dJ];rfl⟩,h3,fun p hp=>(h4 p hp).mono hY⟩
theorem RowsOK.at {Y:Nat→Option Obj} {ad:Option Addr} {l:List Ins} (h:RowsOK Y ad l) {i:Nat} {x:Ins} (hx:l[i]? = some x):
    ∃ (blk off:Nat) (arr:Array Value) (el:TypeId) (fr:Nat×Nat) (v:Value),ad=some ⟨blk,off,none⟩∧Y blk=some (.cells arr el fr)∧off+i*6+6≤arr.size∧((arr.toList.drop (off+i*6)).take 6).map CV.val=(rowVs (x.op,v)).map CV.val∧DeedV Y v x.op:=by
  obtain ⟨q,h1,h2,h3⟩:=h.ex
  have hq:(q.map (·.1))[i]? = some x.op:=by rw [h2,dL,hx];rfl
  rw [dL] at hq
  cases hp:q[i]? with
  | none=>rw [hp] at hq;cases hq
  | some p =>
    rw [hp] at hq
    have hq:p.1=x.op:=by simpa using hq
    obtain ⟨blk,off,arr,el,fr,e1,e2,e3,e4⟩:=h1 i (rowVs p) (by rw [dL,hp];rfl)
    have h5:=h3 p (dD hp)
    obtain ⟨o,v⟩:=p
    have hq:o=x.op:=hq
    subst hq
    exact ⟨blk,off,arr,el,fr,v,e1,e2,e3,by rw [e4],h5⟩
def rsR (l:List Ins):LV:=if chkX l=0 then .tup [.one (.slc 1000001 0 l.length 6),Sn .i64 0] else .tup [Vnil,Sn .i64 (chkX l)]
def rsBx (l:List Ins):List (Nat×Option Box):=if chkX l=0 then [(1000001,some ⟨0,[],.res (rowsR l)⟩)] else []
theorem rs_ok {l:List Ins} (h:chkX l=0):rsR l = .tup [.one (.slc 1000001 0 l.length 6),Sn .i64 0]∧rsBx l=[(1000001,some ⟨0,[],.res (rowsR l)⟩)]:=⟨if_pos h,if_pos h⟩
theorem rs_no {l:List Ins} (h:chkX l≠0):rsR l = .tup [Vnil,Sn .i64 (chkX l)]∧rsBx l=[]:=⟨if_neg h,if_neg h⟩
theorem rsBx_use (l:List Ins):((rsBx l).all fun p=>match p.2 with|some b=>b.cells.all (CV.inUse (rsBx l))|none=>true)=true:=by
  by_cases h:chkX l=0
  · rw [(rs_ok h).2];rfl
  · rw [(rs_no h).2];rfl
theorem rsR_use (l:List Ins):LV.inUse (rsBx l) (rsR l)=true:=by
  by_cases h:chkX l=0
  · rw [(rs_ok h).1,(rs_ok h).2];rfl
  · rw [(rs_no h).1,(rs_no h).2];rfl
theorem joinM_assoc (X H G:Nat→Option Obj):joinM (joinM X H) G=joinM X (joinM H G):=by
  funext b
  unfold joinM
  cases G b<;>rfl
theorem owned_join {C:Ctx} {X H G:Nat→Option Obj} (h:OwnedM C X H) (h':OwnedM C (joinM X H) G):OwnedM C X (joinM H G)∧MoreM H (joinM H G)∧MoreM G (joinM H G):=by
  have hn:∀ b o,G b=some o→H b=none∧X b=none:=fun b o hb=>joinM_none (h'.own b o hb).2.2
  refine ⟨⟨fun b o hb => ?_⟩,fun b o hb => ?_,fun b o hb=>joinM_in hb⟩
  · cases hg:G b with
    | some o' =>
      rw [joinM_in hg] at hb
      cases hb
      obtain ⟨h1,h2,_⟩:=h'.own b o hg
      exact ⟨h1,h2,(hn b o hg).2⟩
    | none=>rw [joinM_out hg] at hb;exact h.own b o hb
  · cases hg:G b with
    | some o'=>rw [(hn b o' hg).1] at hb;cases hb
    | none=>rw [joinM_out hg];exact hb
abbrev rwSt (ad:Option Addr) (n cap i:Nat) (d:Nat) (cells:List Value) (ms:List (Nat×LV)) (mb:List (Nat×Option Box)) (Y:Nat→Option Obj):St:=
  ⟨ms++[(0,Lx ad n cap),(4,.sv (.one (.slc 500 0 n 6))),(5,Ln .i64 (d:Nat)),(15,Lx ad n cap),(16,Ln .i64 (n:Nat)),(17,Ln .i64 (i:Nat))],mb++[(500,some ⟨137,cells.map .val,false⟩)],Y⟩
abbrev rdB8 (x:Ins) (c:CV):List (Nat×Option Box):=[(7,some ⟨66,(insV x).map .val,false⟩),(8,some ⟨137,(rowL x.op).map .val++[c],false⟩)]
set_option maxHeartbeats 12800000 in
theorem tRowsOf (l:List Ins) (ad:Option Addr) (cap:Nat) (hin:InsIn X ad l) (hbig:l.length<1152921504606846976):MSpec Tryz.prog X 75 [Lx ad l.length cap] [] (rsR l) (rsBx l):=by
  refine cG Tryz.func75 rfl (by kernel_rfl) rfl (rsR_use l) (rsBx_use l) rfl rfl ?_
  intro C
  by_cases h64:64<l.length
  · have hc:chkX l=5:=if_pos h64
    obtain ⟨q1,q2⟩:=rs_no (l:=l) (by rw [hc];decide)
    rw [q1,q2,hc]
    (refine aA<|rgN<|kas O<|kas O<|aB<|aA<|aA<|rgN<|kmv O<|aQ O cC O dR ?_;refine aS O O (r:=true) (cP (by omega)) dR<|aB<|aE O ?_;refine aA<|rgN<|kas O<|kas O<|aB<|aI ?_)
    exact ⟨[],⟨[_,_],⟨O,O,trivial⟩,O⟩,trivial,O,O⟩
  have hmk:slcBuild Tryz.prog 129 l.length=some (zeR l.length,6,137):=slcBuild_many (z := #[.string ⟨#[]⟩,.int .i64 0,.bool false,.bool false,.bool false,.nilFunc]) (by kernel_rfl) (by kernel_rfl) rfl (by omega)
  refine LWP.ends ?_
  (refine aA<|rgN<|kas O<|kas O<|aB<|aA<|aA<|rgN<|kmv O<|aQ O cC O dR ?_;refine aS O O (r:=false) (cO (by omega)) dR<|aB<|aF O ?_;refine aH ?_;refine aA<|rgN<|kmv O<|aQ O cC O dR ?_;refine K.makeSlc (m:=l.length) (bytes:=40) O O hmk (by kernel_rfl) (by omega) O O dR<|kas O<|kas O<|aB<|aA<|aA<|rgN<|kmv O<|aQ O cC O dR ?_;refine kmv O<|aB<|aG ?_)
  refine cM (fun k σ=>∃ (i d:Nat) (q:List (Int×Value)) (H:Nat→Option Obj),i≤l.length∧k=l.length-i∧q.map (·.1)=(l.take i).map Ins.op∧(∀ p∈q,DeedV H p.2 p.1)∧OwnedM C X H∧dep okI 0 (l.take i)=some d∧σ=rwSt ad l.length cap i d (rwsV q++zeR (l.length-i)) [] [] (joinM X H)) l.length
    (cE (σ':=rwSt ad l.length cap 0 0 (rwsV []++zeR (l.length-0)) [] [] X) ?_ (cD ⟨0,0,[],fun _=>none,by omega,by omega,rfl,fun p hp=>absurd hp (by simp),OwnedM.nil _ _,rfl,by rw [joinM_nil]⟩)) ?_
  · exact Le.ofR [(500,14)] (by exact ⟨rfl,rfl,rfl,rfl,rfl,rfl,trivial⟩) (by repeat' (first|exact trivial|refine cQ ⟨_,rfl,?_⟩ ?_|refine cQ ⟨_,rfl⟩ ?_|rfl|exact bX _ _ _ _|exact bY _ _ _ _|exact bZ rfl)) (by exact rfl) (by exact rfl) (by repeat' (first|refine bT ?_ ?_|rfl|exact bV|exact bU|exact bW rfl)) (by exact rfl) (by exact rfl)
  rintro k σ ⟨i,d,q,H,hi,rfl,hq,hD,hO,hdep,rfl⟩
  have hqn:q.length=i:=by
    have:=congrArg List.length hq
    rw [cW,cW,cZ] at this
    omega
  have hd16:=dep_le (by omega) hdep
  by_cases hlt:i<l.length
  · obtain ⟨x,hx⟩:∃ x,l[i]? = some x:=⟨_,cX hlt⟩
    have hmem:=dD hx
    have hsx:=hin.small x hmem
    have hinJ:InsIn (joinM X H) ad l:=hin.mono fun b o hb=>by
      cases hc:H b with
      | none=>rw [joinM_out hc];exact hb
      | some o'=>have:=(hO.own b o' hc).2.2;rw [hb] at this;cases this
    obtain ⟨blk,off,arr,el,fr,rfl,hX,hsz,hcs,hop⟩:=hinJ.at hx
    have hio:off+Int.toNat (i:Int)*6=off+i*6:=by simp
    have hin0:0≤(i:Int)∧(i:Int)<(l.length:Nat):=by omega
    have hsn:=dep_snoc hdep hx
    have hok:=okI_bnd x
    have htk:=takes_le x.op
    have bad:¬ (okI x=true∧takes x.op≤d∧d-takes x.op+1≤16)→chkX l=4:=fun h=>chkX_bad h64 hdep hx h
    by_cases hop17:x.op<1∨17<x.op
    · have hc:=bad (fun h=>by have:=(okI_facts h.1).1;omega)
      obtain ⟨q1,q2⟩:=rs_no (l:=l) (by rw [hc];decide)
      rw [q1,q2,hc]
      have hR:=rowOf_no (joinM X H) x.op hop17
      (refine aA<|rgN<|klt O O (cP (by omega))<|aB<|aA<|aE O ?_;refine aH ?_;refine aA<|aG<|aA<|rgN<|kmv O<|aR O O cC hin0 hio dR<|aY O hX (by kernel_rfl) hsz hcs dR<|aP O dR ?_;refine kas O<|aM O O O O O O dR ?_;refine aB<|aA<|rgN<|kfa O O ?_;refine kl1 O O O<|kca O O (hR)<|aP O dR ?_;refine aM O O O O O O dR ?_;refine aB<|aA<|aA<|rgN<|kfa O O ?_;refine kl1 O O O<|K.funcNil O (by kernel_rfl) (r:=true) (.inl ⟨O,O⟩) dR ?_;refine kmv O<|aC O O O<|aC O O O<|aC O O O<|kpt O O<|kmv O<|aC O O O<|aC O O O<|aC O O O<|aC O O O<|kpt O O<|aB<|aE O ?_;refine aA<|rgN<|kas O<|kas O<|aB<|aI ?_)
      exact cD ⟨[],⟨[_,_],⟨O,O,trivial⟩,O⟩,trivial,O,O⟩
    (refine aA<|rgN<|klt O O (cP (by omega))<|aB<|aA<|aE O ?_;refine aH ?_;refine aA<|aG<|aA<|rgN<|kmv O<|aR O O cC hin0 hio dR<|aY O hX (by kernel_rfl) hsz hcs dR<|aP O dR ?_;refine kas O<|aM O O O O O O dR ?_;refine aB<|aA ?_)
    refine LWP.meetL (fun σ=>∃ (v:Value) (G:Nat→Option Obj),DeedV G v x.op∧MoreM H G∧OwnedM C X G∧σ=rwSt (some ⟨blk,off,none⟩) l.length cap i d (rwsV q++zeR (l.length-i)) [(6,Ln .i64 (i:Nat)),(7,Lp 7),(8,Lp 8)] (rdB8 x (.val v)) (joinM X G)) ?_ ?_
    · by_cases h5:x.op<5
      · obtain ⟨f,hDf,hR⟩:∃ f,DeedV H (fnV f) x.op∧PSpec Tryz.prog (joinM X H) 91 [Ln .i64 x.op] (LRow x.op (.val (fnV f))):=by
          generalize x.op=op at *
          rcases (show op=1∨op=2∨op=3∨op=4 by omega) with rfl|rfl|rfl|rfl
          · exact ⟨_,deed_num H,rowOf_1 _⟩
          · exact ⟨_,deed_elem H,rowOf_2 _⟩
          · exact ⟨_,deed_here H,rowOf_3 _⟩
          · exact ⟨_,deed_place H,rowOf_4 _⟩
        (refine rgN<|kfa O O ?_;refine kl1 O O O<|kca O O (hR)<|aP O dR ?_;refine aM O O O O O O dR ?_;refine aB ?_)
        exact cE (Le.of (by exact ⟨O,O,O,O,O,O,O,O,O,trivial⟩) (by exact ⟨O,O,O,trivial⟩) (by exact O) (by exact O) (by repeat' (first|refine bT ?_ ?_|rfl|exact bV|exact bU|exact bW O))) (cD ⟨_,H,hDf,MoreM.refl H,hO,O⟩)
      · have hR:=rowOf_fn (joinM X H) x.op (by omega)
        (refine rgN<|kfa O O ?_;refine kl1 O O O<|bE [(1000001,600)] (LRow x.op (ptrF (cloF x.op) 600)) [dB 600 x.op] (hR) O O (by exact trivial) O O O O O (by exact (.box O O .nil)) dR<|aP O dR ?_;refine aM O O O O O O dR ?_;refine aB ?_)
        refine cE (σ':=⟨[(6,Ln .i64 (i:Nat)),(7,Lp 7),(8,Lp 8),(0,Lx (some ⟨blk,off,none⟩) l.length cap),(4,.sv (.one (.slc 500 0 l.length 6))),(5,Ln .i64 (d:Nat)),(15,Lx (some ⟨blk,off,none⟩) l.length cap),(16,Ln .i64 (l.length:Nat)),(17,Ln .i64 (i:Nat))],rdB8 x (ptrF (cloF x.op) 600)++dB 600 x.op::[(500,some ⟨137,(rwsV q++zeR (l.length-i)).map .val,false⟩)],joinM X H⟩) (Le.of (by exact ⟨O,O,O,O,O,O,O,O,O,trivial⟩) (by exact ⟨O,O,O,O,trivial⟩) (by exact O) (by exact O) (by repeat' (first|refine bT ?_ ?_|rfl|exact bV|exact bU|exact bW O))) ?_
        refine Leads.fixRsc [] (rdB8 x (ptrF (cloF x.op) 600)) O O (by exact (by repeat' (first|refine bT ?_ ?_|rfl|exact bV|exact bU|exact bW O))) O O fun ρ G2 hR2 hO2 => ?_
        obtain ⟨k1,k2,k3⟩:=owned_join hO hO2
        rw [joinM_assoc]
        exact cD ⟨.func (.func (cloF x.op)) #[] #[pv ρ.1],joinM H G2,DeedV.mono k3 hR2,k2,k1,O⟩
    rintro σ ⟨v,G,hDv,hHG,hOG,rfl⟩
    obtain ⟨f,caps,ev,_⟩:=id hDv
    subst ev
    have hB:=tBounded (joinM X G) x hsx _ rfl
    cases hb:bndI x with
    | false =>
      rw [hb] at hB hok
      have hc:=bad (fun h=>by rw [hok,Bool.and_false] at h;cases h.1)
      obtain ⟨q1,q2⟩:=rs_no (l:=l) (by rw [hc];decide)
      rw [q1,q2,hc]
      (refine aA<|aA<|rgN<|kfa O O ?_;refine kl1 O O O<|K.funcNil O (by kernel_rfl) (r:=false) (.inr ⟨⟨_,_,_,O⟩,O⟩) dR ?_;refine kmv O<|aK O O O (dS O O) ?_;refine gca O O hB O O<|aV O O (dS O O) ?_;refine kpf O O<|kmv O<|aC O O O<|aC O O O<|aC O O O<|aC O O O<|kpt O O<|aB<|aE O ?_;refine aA<|rgN<|kas O<|kas O<|aB<|aI ?_)
      exact cD ⟨[],⟨[_,_],⟨O,O,trivial⟩,O⟩,trivial,O,O⟩
    | true =>
    rw [hb] at hB hok
    rw [cP (show 1≤x.op by omega),cP (show x.op≤17 by omega)] at hok
    have hok:okI x=true:=hok
    by_cases hd:d<takes x.op
    · have hc:=bad (fun h=>by omega)
      obtain ⟨q1,q2⟩:=rs_no (l:=l) (by rw [hc];decide)
      rw [q1,q2,hc]
      (refine aA<|aA<|rgN<|kfa O O ?_;refine kl1 O O O<|K.funcNil O (by kernel_rfl) (r:=false) (.inr ⟨⟨_,_,_,O⟩,O⟩) dR ?_;refine kmv O<|aK O O O (dS O O) ?_;refine gca O O hB O O<|aV O O (dS O O) ?_;refine kpf O O<|kmv O<|gmv O O O<|aN O O (dS O O) ?_;refine aO O O O (dS O O) ?_;refine bK O O (r:=true) (cP (by omega)) (dS O O) ?_;refine kpf O O<|aB<|aE O ?_;refine aA<|rgN<|kas O<|kas O<|aB<|aI ?_)
      exact cD ⟨[],⟨[_,_],⟨O,O,trivial⟩,O⟩,trivial,O,O⟩
    have hix:0+Int.toNat (i:Int)*6=i*6:=by rw [dG];omega
    have hpl:(rwsV q).length=i*6:=by rw [rwsV_len,hqn]
    have hroom:i*6+6≤((rwsV q++zeR (l.length-i)).map CV.val).length:=by rw [cW,cV,hpl,zeR_len];omega
    have hspl:splice ((rwsV q++zeR (l.length-i)).map CV.val) (i*6) ((rowL x.op).map .val++[.val (.func (.func f) #[] caps.toArray)])=(rwsV (q++[(x.op,.func (.func f) #[] caps.toArray)])++zeR (l.length-(i+1))).map CV.val:=by
      rw [rwsV_snoc,show l.length-i=(l.length-(i+1))+1 by omega,zeR_succ]
      unfold splice
      simp only [dH,dM]
      have hml:((rwsV q).map CV.val).length=i*6:=by rw [cW,hpl]
      generalize (rwsV q).map CV.val=R at *
      rw [← hml,List.take_left,List.drop_length_add_append]
      simp [rowVs,rowL]
    have hsub:IntKind.i64.wrap (1-((takes x.op:Nat):Int))=1-((takes x.op:Nat):Int):=cH (by omega)
    have hadd:IntKind.i64.wrap (((d:Nat):Int)+(1-((takes x.op:Nat):Int)))=((d-takes x.op+1:Nat):Int):=by rw [cH (by omega)];omega
    have hinc:IntKind.i64.wrap (((i:Nat):Int)+1)=((i+1:Nat):Int):=by rw [cH (by omega)];omega
    by_cases h16:16<d-takes x.op+1
    · have hc:=bad (fun h=>by omega)
      obtain ⟨q1,q2⟩:=rs_no (l:=l) (by rw [hc];decide)
      rw [q1,q2,hc]
      (refine aA<|aA<|rgN<|kfa O O ?_;refine kl1 O O O<|K.funcNil O (by kernel_rfl) (r:=false) (.inr ⟨⟨_,_,_,O⟩,O⟩) dR ?_;refine kmv O<|aK O O O (dS O O) ?_;refine gca O O hB O O<|aV O O (dS O O) ?_;refine kpf O O<|kmv O<|gmv O O O<|aN O O (dS O O) ?_;refine aO O O O (dS O O) ?_;refine bK O O (r:=false) (cO (by omega)) (dS O O) ?_;refine kpf O O<|aB<|aF O ?_;refine aH ?_;refine aA<|rgN<|kmv O<|kmv O<|aK O O O dR ?_;refine K.indexSlc O O (by omega) hix dR ?_;refine K.store O O O O (by kernel_rfl) hroom hspl dR<|aB<|aA<|rgN<|kmv O<|kfa O O ?_;refine kl1 O O O<|bA O O hsub dR<|kad O O hadd<|kas O<|aB<|aA<|rgN<|kmv O<|aS O O (r:=true) (cP (by omega)) dR<|aB<|aE O ?_;refine aA<|rgN<|kas O<|kas O<|aB<|aI ?_)
      exact cD ⟨[],⟨[_,_],⟨O,O,trivial⟩,O⟩,trivial,O,O⟩
    · rw [if_pos ⟨hok,by omega,by omega⟩] at hsn
      (refine aA<|aA<|rgN<|kfa O O ?_;refine kl1 O O O<|K.funcNil O (by kernel_rfl) (r:=false) (.inr ⟨⟨_,_,_,O⟩,O⟩) dR ?_;refine kmv O<|aK O O O (dS O O) ?_;refine gca O O hB O O<|aV O O (dS O O) ?_;refine kpf O O<|kmv O<|gmv O O O<|aN O O (dS O O) ?_;refine aO O O O (dS O O) ?_;refine bK O O (r:=false) (cO (by omega)) (dS O O) ?_;refine kpf O O<|aB<|aF O ?_;refine aH ?_;refine aA<|rgN<|kmv O<|kmv O<|aK O O O dR ?_;refine K.indexSlc O O (by omega) hix dR ?_;refine K.store O O O O (by kernel_rfl) hroom hspl dR<|aB<|aA<|rgN<|kmv O<|kfa O O ?_;refine kl1 O O O<|bA O O hsub dR<|kad O O hadd<|kas O<|aB<|aA<|rgN<|kmv O<|aS O O (r:=false) (cO (by omega)) dR<|aB<|aF O ?_;refine aH ?_;refine rgN<|kad O O hinc<|kmv O<|aB ?_)
      refine cE (σ':=rwSt (some ⟨blk,off,none⟩) l.length cap (i+1) (d-takes x.op+1) (rwsV (q++[(x.op,.func (.func f) #[] caps.toArray)])++zeR (l.length-(i+1))) [] [] (joinM X G)) (Le.of (by exact ⟨O,O,O,O,O,O,trivial⟩) (by exact ⟨O,trivial⟩) (by exact O) (by exact O) (by repeat' (first|refine bT ?_ ?_|rfl|exact bV|exact bU|exact bW O))) (cD ⟨l.length-(i+1),by omega,i+1,_,_,G,by omega,O,?_,?_,hOG,hsn,O⟩)
      · rw [dH,hq,List.take_add_one,hx,dH]
        rfl
      · intro p hp
        rcases List.mem_append.1 hp with hp|hp
        · exact (hD p hp).mono hHG
        · rw [List.mem_singleton] at hp
          subst hp
          exact hDv
  · have e:i=l.length:=by omega
    subst e
    rw [dF] at hq hdep
    have hz:zeR (l.length-l.length)=[]:=by rw [Nat.sub_self];rfl
    rw [hz,dJ]
    by_cases h1:d=1
    · subst h1
      have hc:chkX l=0:=by unfold chkX;rw [if_neg h64,if_pos hdep]
      obtain ⟨q1,q2⟩:=rs_ok hc
      rw [q1,q2]
      (refine aA<|rgN<|klt O O (cO (by omega))<|aB<|aA<|aF O ?_;refine aJ<|aA<|aA<|rgN<|kmv O<|kne O O (r:=false) O<|aB<|aF O ?_;refine aH ?_;refine aA<|rgN<|kmv O<|kas O<|kas O<|aB<|aI ?_)
      refine cE (σ':=⟨[(2,.sv (.one (.slc 500 0 l.length 6))),(3,Ln .i64 0)],[(500,some ⟨137,(rwsV q).map .val,false⟩)],joinM X H⟩) (Le.of (by exact ⟨O,O,trivial⟩) (by exact ⟨O,trivial⟩) (by exact O) (by exact O) (by repeat' (first|refine bT ?_ ?_|rfl|exact bV|exact bU|exact bW O))) ?_
      refine Leads.closeRes (R:=rowsR l) hO (fun ρ fr g1 g2 g3=>⟨q,fr,cN _ _ _,g3,hq,fun p hp=>(hD p hp).mono (cJ g1)⟩) (cD ?_)
      exact ⟨[(1000001,500)],⟨[_,_],⟨rfl,rfl,trivial⟩,rfl⟩,(by repeat' (first|exact trivial|refine cQ ⟨_,rfl,?_⟩ ?_|refine cQ ⟨_,rfl⟩ ?_|rfl|exact bX _ _ _ _|exact bY _ _ _ _|exact bZ rfl)),rfl,rfl⟩
    · have hc:chkX l=4:=by unfold chkX;rw [if_neg h64,if_neg (fun h=>h1 (by rw [hdep] at h;exact Option.some.inj h))]
      obtain ⟨q1,q2⟩:=rs_no (l:=l) (by rw [hc];decide)
      rw [q1,q2,hc]
      (refine aA<|rgN<|klt O O (cO (by omega))<|aB<|aA<|aF O ?_;refine aJ<|aA<|aA<|rgN<|kmv O<|kne O O (r:=true) (cT (by omega))<|aB<|aE O ?_;refine aA<|rgN<|kas O<|kas O<|aB<|aI ?_)
      exact cD ⟨[],⟨[_,_],⟨O,O,trivial⟩,O⟩,trivial,O,O⟩
theorem gCheck' (l:List Ins) (ad:Option Addr) (cap:Nat) (hin:InsIn X ad l) (hl:l.length<1152921504606846976):PSpec Tryz.prog X 81 [Lx ad l.length cap] (Ln .i64 (chkX l)):=by
  have hR:=tRowsOf X l ad cap hin hl
  refine cF Tryz.func81 rfl (by kernel_rfl) rfl rfl ?_
  intro C
  by_cases h:chkX l=0
  · rw [(rs_ok h).1,(rs_ok h).2] at hR
    rw [h]
    (refine aA<|rgN<|kas O<|aB<|aA<|rgN<|kmv O<|bE [(1000001,500)] (.tup [.one (.slc 500 0 l.length 6),Sn .i64 0]) [(500,some ⟨0,[],.res (rowsR l)⟩)] (hR) O O (by exact trivial) O O O O O (by exact (.box O O .nil)) dR<|kmv O<|kex O O<|kex O O<|kas O<|kas O<|aB ?_;refine aA<|rgN<|kmv O<|kas O<|aB<|aI ?_)
    exact ⟨[_],⟨O,trivial⟩,O⟩
  · rw [(rs_no h).1,(rs_no h).2] at hR
    (refine aA<|rgN<|kas O<|aB<|aA<|rgN<|kmv O<|aU [] [] (hR) O O (by exact trivial) O O O O O (by exact .nil) dR<|kmv O<|kex O O<|kex O O<|kas O<|kas O<|aB ?_;refine aA<|rgN<|kmv O<|kas O<|aB<|aI ?_)
    exact ⟨[_],⟨O,trivial⟩,O⟩
end Go.Proofs.YtamplgnbbanamaaGreatDoor
end
section
namespace Go.Lg.Fml
theorem dep_step {okJ:Ins→Bool} {l:List Ins} {m i d:Nat} {x:Ins} (h:dep okJ 0 l=some m) (hd:dep okJ 0 (l.take i)=some d) (hx:l[i]? = some x):okJ x=true∧takes x.op≤d∧d-takes x.op+1≤16∧dep okJ 0 (l.take (i+1))=some (d-takes x.op+1):=by
  have h1:=dep_snoc hd hx
  by_cases c:okJ x=true∧takes x.op≤d∧d-takes x.op+1≤16
  · rw [if_pos c] at h1
    exact ⟨c.1,c.2.1,c.2.2,h1⟩
  · rw [if_neg c] at h1
    have:=dep_none h1
    rw [h] at this
    cases this
section
variable {V:Type} {one:Ins→List V→Except Int V}
theorem run_snoc {l:List Ins} {i:Nat} {x:Ins} {st:List V} (h:run one (l.take i) [] = .ok st) (hx:l[i]? = some x):run one (l.take (i+1)) []=match one x (st.take (takes x.op)).reverse with | .error e=>.error e | .ok v=>.ok (v::st.drop (takes x.op)):=by
  rw [List.take_add_one,hx,run_app,h]
  simp only [Option.toList_some,run]
  cases one x (st.take (takes x.op)).reverse<;>rfl
end
end Go.Lg.Fml
namespace Go.Proofs.YtamplgnbbanamaaGreatDoor
open Go Go.Lg Go.Lg.Fml Go.Lg.Fld Go.Lg.Arith
set_option maxRecDepth 100000
theorem more_join {C:Ctx} {X H:Nat→Option Obj} (hO:OwnedM C X H):MoreM X (joinM X H)∧MoreM H (joinM X H):=by
  refine ⟨fun b o hb => ?_,fun b o hb=>joinM_in hb⟩
  cases hc:H b with
  | none=>rw [joinM_out hc];exact hb
  | some o'=>have:=(hO.own b o' hc).2.2;rw [hb] at this;cases this
variable (X:Nat→Option Obj)
end Go.Proofs.YtamplgnbbanamaaGreatDoor
end
section
namespace Go.Proofs.YtamplgnbbanamaaGreatDoor
open Go Go.Lg Go.Lg.Fml Go.Lg.Fld Go.Lg.Arith
set_option maxRecDepth 100000
theorem joinS_lib:∀ l:List (List UInt8),joinS l=Lib.join l [44]
  | []=>rfl
  | [a]=>(Lib.join_one a [44]).symm
  | a::b::t=>by
    rw [Lib.join_cons]
    unfold joinS Lib.joinTail
    rw [joinS_lib (b::t),Lib.join_cons,List.map_cons,List.flatten_cons]
    simp [Lib.joinTail]
def txV (l:List (List UInt8)):List Value:=l.map fun t=>.string ⟨t.toArray⟩
def TsIn (Z:Nat→Option Obj) (ad:Option Addr) (l:List (List UInt8)):Prop:=Go.Lg.RowsIn Z ad 1 (l.map fun t=>[Value.string ⟨t.toArray⟩])
theorem txV_rows (l:List (List UInt8)):(l.map fun t=>[Value.string ⟨t.toArray⟩]).flatten=txV l:=by
  unfold txV
  induction l with
  | nil=>rfl
  | cons a t ih=>rw [List.map_cons,List.flatten_cons,ih];rfl
theorem txV_len (l:List (List UInt8)):((txV l).map CV.val).length=l.length*1:=by unfold txV;rw [cW,cW,Nat.mul_one]
theorem txV_app (a b:List (List UInt8)):txV (a++b)=txV a++txV b:=by unfold txV;rw [dH]
theorem texts_tail {Z:Nat→Option Obj} {sb:Nat} {arr:Array Value} {el:TypeId} {fr:Nat×Nat} {ns:List (List UInt8)} {rest cap:Nat} (hZ:Z sb=some (.cells arr el fr)) (hsp:∃ sp,arr.toList=txV ns++sp) (hc:cap=rest→ns.drop rest=[]):
    TsIn Z (some ⟨sb,if cap=rest then 0 else 0+rest*1,none⟩) (ns.drop rest):=by
  have hN:TsIn Z (some ⟨sb,0,none⟩) ns:=rows_in hZ (fun r hr=>by obtain ⟨x,_,rfl⟩:=List.mem_map.1 hr;rfl) (by rw [txV_rows];exact hsp)
  intro i r hi
  by_cases c:cap=rest
  · rw [hc c] at hi;simp at hi
  · rw [if_neg c]
    rw [dL,List.getElem?_drop] at hi
    obtain ⟨blk,off,arr',el',fr',e1,e2,e3,e4⟩:=hN (rest+i) r (by rw [dL];exact hi)
    simp only [Option.some.injEq,Addr.mk.injEq] at e1
    obtain ⟨rfl,rfl,_⟩:=e1
    refine ⟨sb,0+rest*1,arr',el',fr',O,e2,by omega,?_⟩
    rw [← e4,show 0+rest*1+i*1=0+(rest+i)*1 by omega]
def shownX (x:Ins) (a:List (List UInt8)):List UInt8:=if takes x.op=0 then leafS x else ((wordX x.op++[40])++joinS a)++[41]
theorem shownX_len {x:Ins} {a:List (List UInt8)} (hx:okI x=true) (h2:In2 x.k.2) (ha:a.length=takes x.op):(shownX x a).length≤(a.map List.length).sum+50:=by
  unfold shownX
  split
  · have:=leafS_len hx h2;omega
  · have h1:=word_len x.op
    have h2:=joinS_len (l:=a) (n:=(a.map List.length).sum) (by have:=takes_le x.op;omega) (dN _)
    simp only [cV,cY]
    omega
variable (X:Nat→Option Obj)
theorem join_x (ad:Option Addr) (cap:Nat) (l:List (List UInt8)) (hin:TsIn X ad l) (hpos:0<l.length) (hl:l.length≤cap) (hl3:l.length≤3) (hs:(l.map List.length).sum≤3200):PSpec Tryz.prog X 44 [Lx ad l.length cap,Ls [44]] (Ls (joinS l)):=by
  have hjl:=joinS_len hl3 hs
  rw [joinS_lib] at hjl ⊢
  obtain ⟨blk,off,arr0,el0,fr0,rfl,hX0,_,_⟩:=hin 0 _ (by rw [dL,cX hpos];rfl)
  refine PSpec.ofBelow (vals:=[.slice (some ⟨blk,off,none⟩) l.length cap,.string ⟨([44]:List UInt8).toArray⟩]) (v:=.string ⟨(Lib.join l [44]).toArray⟩) (by kernel_rfl) O O fun w hX => ?_
  have hb:=hX _ _ hX0
  have hbk:blk<w.heap.size:=(Array.getElem?_eq_some_iff.1 hb).1
  have hcells:∀ (j:Nat) (x:ByteArray),(l.map fun t=>(⟨t.toArray⟩:ByteArray))[j]? = some x→w.cell? ⟨blk,off+j,none⟩=some (.string x):=fun j x hx=>by
    rw [dL] at hx
    cases ht:l[j]? with
    | none=>rw [ht] at hx;cases hx
    | some t =>
      rw [ht] at hx
      simp only [Option.map_some,Option.some.injEq] at hx
      subst hx
      obtain ⟨blk',off',arr,el,fr,e1,e2,e3,e4⟩:=hin j _ (by rw [dL,ht];rfl)
      simp only [Option.some.injEq,Addr.mk.injEq] at e1
      obtain ⟨rfl,rfl,_⟩:=e1
      have hb2:=hX _ _ e2
      have h5:((arr.toList.drop (off+j*1)).take 1)[0]? = some (.string ⟨t.toArray⟩):=by rw [e4];rfl
      rw [List.getElem?_take,if_pos (by decide),List.getElem?_drop,Nat.add_zero,Array.getElem?_toList,Nat.mul_one] at h5
      simpa [World.cell?,hb2] using h5
  have hmap:((l.map fun t=>(⟨t.toArray⟩:ByteArray)).map fun x=>x.data.toList)=l:=by rw [List.map_map];exact List.map_id _
  have h:=Tryz.strings_Join blk off cap (l.map fun t=>(⟨t.toArray⟩:ByteArray)) ⟨([44]:List UInt8).toArray⟩ w hcells hbk (by rw [cW];omega) (by rw [cW];exact hl) (by rw [hmap];show (Lib.join l [44]).length≤_;omega)
  rw [hmap,cW] at h
  exact h
theorem tItoa (n:Int) (h:0≤n∧n≤7):PSpec Tryz.prog X 70 [Ln .i64 n] (Ls (Lib.itoa n)):=by
  obtain ⟨m,rfl⟩:∃ m:Nat,n=(m:Nat):=⟨n.toNat,by omega⟩
  exact PSpec.ofBelow (vals:=[.int .i64 (m:Nat)]) (v:=.string ⟨(Lib.itoa (m:Nat)).toArray⟩) (by kernel_rfl) rfl rfl (fun w _=>(Tryz.strconv_Itoa_small m (by omega) w).mono fun _ _ ⟨he,hw⟩=>⟨by rw [Lib.itoa_nonneg];exact he,by rw [hw];exact Go.RowKit.Below.refl _ _⟩)
theorem xtab_mono {X Y:Nat→Option Obj} (h:MoreM X Y) (hT:XTab X):XTab Y:=fun w hw=>hT w fun b o hb=>hw b o (h b o hb)
set_option maxHeartbeats 6400000 in
theorem tShown (hT:XTab X) (x:Ins) (hx:smallI x) (hok:okI x=true) (f:FuncId) (caps:List Value) (tad:Option Addr) (tcap:Nat) (ts:List (List UInt8)) (hts:TsIn X tad ts) (hlen:ts.length=takes x.op) (hcap:ts.length≤tcap) (hs:(ts.map List.length).sum≤3200):
    PSpec Tryz.prog X 88 [LRow x.op (.val (.func (.func f) #[] caps.toArray)),LIn x,Lx tad ts.length tcap] (Ls (shownX x ts)):=by
  obtain ⟨h17,hgk,ha7,hb7⟩:=okI_facts hok
  have h2:=hx.2.2.2
  have htk:=takes_le x.op
  by_cases h0:takes x.op=0
  · have hdA:=tItoa X x.a ha7
    have hdB:=tItoa X x.b hb7
    have lA:=Lib.itoa_length_le x.a (by omega) (by omega)
    have lB:=Lib.itoa_length_le x.b (by omega) (by omega)
    have hlf:∀ a b:List UInt8,([102]++a)++([46]++b)=(([102]++a)++[46])++b:=fun a b=>by simp only [dM]
    have c:x.op=1∨x.op=2∨x.op=3∨x.op=4:=by
      unfold takes at h0
      split at h0
      · omega
      · split at h0
        · omega
        · split at h0<;>omega
    rw [show shownX x ts=leafS x from if_pos h0]
    rcases c with c|c|c|c
    · obtain ⟨e1,r1⟩:LI x.k.1 x.k.2=LQ (zz x.k)∧R127 (zz x.k):=⟨LI_q h2 hgk,(zv_in h2 hgk).1⟩
      have hTx:=Text_spec X hT (zz x.k) r1
      rw [← e1] at hTx
      rw [show leafS x=textQ (zz x.k) from if_pos c]
      generalize textQ (zz x.k)=s at *
      clear e1 r1
      refine cF Tryz.func88 rfl (by kernel_rfl) rfl rfl ?_
      intro C
      (refine aA<|rgN<|aL O O O dR<|aL O O O dR<|kas O<|aB<|aA<|aA<|rgN<|kfa O O ?_;refine kl1 O O O<|aB<|aG<|aA<|rgN<|keq O O (r:=true) (cU c)<|kas O<|aB<|aE O ?_;refine aA<|rgN<|kfa O O ?_;refine bJ O O O (by exact nl3 O O O O) dR ?_;refine kca O O (hTx)<|kas O<|aB<|aI ?_)
      exact ⟨[_],⟨O,trivial⟩,O⟩
    · rw [show leafS x=([102]++dg1 x.a)++([46]++dg1 x.b) by unfold leafS;rw [if_neg (by omega),if_pos c],hlf]
      unfold dg1
      generalize Lib.itoa x.a=sa at *
      generalize Lib.itoa x.b=sb at *
      have g1:(⟨([102]:List UInt8).toArray⟩:ByteArray).size+(⟨sa.toArray⟩:ByteArray).size≤9223372036854775807:=by show 1+sa.length≤_;omega
      have g2:(⟨(([102]:List UInt8)++sa).toArray⟩:ByteArray).size+(⟨([46]:List UInt8).toArray⟩:ByteArray).size≤9223372036854775807:=by show (([102]:List UInt8)++sa).length+1≤_;rw [cV];simp only [cY];omega
      have g3:(⟨((([102]:List UInt8)++sa)++[46]).toArray⟩:ByteArray).size+(⟨sb.toArray⟩:ByteArray).size≤9223372036854775807:=by show ((([102]:List UInt8)++sa)++[46]).length+sb.length≤_;rw [cV,cV];simp only [cY];omega
      refine cF Tryz.func88 rfl (by kernel_rfl) rfl rfl ?_
      intro C
      (refine aA<|rgN<|aL O O O dR<|aL O O O dR<|kas O<|aB<|aA<|aA<|rgN<|kfa O O ?_;refine kl1 O O O<|aB<|aG<|aA<|rgN<|keq O O (r:=false) (cR (by omega))<|kas O<|aB<|aF O ?_;refine aA<|rgN<|keq O O (r:=true) (cU c)<|kas O<|aB<|aE O ?_;refine aA<|rgD mixed<|kfa O O ?_;refine kl1 O O O<|kca O O hdA<|bM O O g1 (str_add [102] sa) dR<|bM O O g2 (str_add ([102]++sa) [46]) dR<|kfa O O ?_;refine kl1 O O O<|kca O O hdB<|bM O O g3 (str_add (([102]++sa)++[46]) sb) dR<|kas O<|aB<|rgA ?_;refine aI ?_)
      exact ⟨[_],⟨O,trivial⟩,O⟩
    · rw [show leafS x=([102]++dg1 x.a)++[64] by unfold leafS;rw [if_neg (by omega),if_neg (by omega),if_pos c]]
      unfold dg1
      generalize Lib.itoa x.a=sa at *
      have g1:(⟨([102]:List UInt8).toArray⟩:ByteArray).size+(⟨sa.toArray⟩:ByteArray).size≤9223372036854775807:=by show 1+sa.length≤_;omega
      have g2:(⟨(([102]:List UInt8)++sa).toArray⟩:ByteArray).size+(⟨([64]:List UInt8).toArray⟩:ByteArray).size≤9223372036854775807:=by show (([102]:List UInt8)++sa).length+1≤_;rw [cV];simp only [cY];omega
      refine cF Tryz.func88 rfl (by kernel_rfl) rfl rfl ?_
      intro C
      (refine aA<|rgN<|aL O O O dR<|aL O O O dR<|kas O<|aB<|aA<|aA<|rgN<|kfa O O ?_;refine kl1 O O O<|aB<|aG<|aA<|rgN<|keq O O (r:=false) (cR (by omega))<|kas O<|aB<|aF O ?_;refine aA<|rgN<|keq O O (r:=false) (cR (by omega))<|kas O<|aB<|aF O ?_;refine aA<|rgN<|keq O O (r:=true) (cU c)<|kas O<|aB<|aE O ?_;refine aA<|rgN<|kfa O O ?_;refine kl1 O O O<|kca O O hdA<|bM O O g1 (str_add [102] sa) dR<|bM O O g2 (str_add ([102]++sa) [64]) dR<|kas O<|aB<|aI ?_)
      exact ⟨[_],⟨O,trivial⟩,O⟩
    · rw [show leafS x=[64] by unfold leafS;rw [if_neg (by omega),if_neg (by omega),if_neg (by omega)]]
      refine cF Tryz.func88 rfl (by kernel_rfl) rfl rfl ?_
      intro C
      (refine aA<|rgN<|aL O O O dR<|aL O O O dR<|kas O<|aB<|aA<|aA<|rgN<|kfa O O ?_;refine kl1 O O O<|aB<|aG<|aA<|rgN<|keq O O (r:=false) (cR (by omega))<|kas O<|aB<|aF O ?_;refine aA<|rgN<|keq O O (r:=false) (cR (by omega))<|kas O<|aB<|aF O ?_;refine aA<|rgN<|keq O O (r:=false) (cR (by omega))<|kas O<|aB<|aF O ?_;refine aA<|rgN<|keq O O (r:=true) (cU c)<|kas O<|aB<|aE O ?_;refine aA<|rgN<|kas O<|aB<|aI ?_)
      exact ⟨[_],⟨O,trivial⟩,O⟩
  · have h5:5≤x.op∧x.op≤17:=by
      refine ⟨?_,h17.2⟩
      unfold takes at h0
      split at h0
      · omega
      · split at h0
        · omega
        · split at h0<;>omega
    have hw:wordS x.op=wordX x.op:=if_pos h5
    have hwl:=word_len x.op
    rw [show shownX x ts=((wordX x.op++[40])++joinS ts)++[41] from if_neg h0,← hw]
    rw [← hw] at hwl
    have hjl:=joinS_len (l:=ts) (by omega) hs
    have hJ:=join_x X tad tcap ts hts (by omega) hcap (by omega) hs
    generalize joinS ts=js at *
    have g1:(⟨(wordS x.op).toArray⟩:ByteArray).size+(⟨([40]:List UInt8).toArray⟩:ByteArray).size≤9223372036854775807:=by show (wordS x.op).length+1≤_;omega
    have g2:(⟨(wordS x.op++[40]).toArray⟩:ByteArray).size+(⟨js.toArray⟩:ByteArray).size≤9223372036854775807:=by show (wordS x.op++[40]).length+js.length≤_;rw [cV];simp only [cY];omega
    have g3:(⟨((wordS x.op++[40])++js).toArray⟩:ByteArray).size+(⟨([41]:List UInt8).toArray⟩:ByteArray).size≤9223372036854775807:=by show ((wordS x.op++[40])++js).length+1≤_;rw [cV,cV];simp only [cY];omega
    refine cF Tryz.func88 rfl (by kernel_rfl) rfl rfl ?_
    intro C
    (refine aA<|rgN<|aL O O O dR<|aL O O O dR<|kas O<|aB<|aA<|aA<|rgN<|kfa O O ?_;refine kl1 O O O<|aB<|aG<|aA<|rgN<|keq O O (r:=false) (cR (by omega))<|kas O<|aB<|aF O ?_;refine aA<|rgN<|keq O O (r:=false) (cR (by omega))<|kas O<|aB<|aF O ?_;refine aA<|rgN<|keq O O (r:=false) (cR (by omega))<|kas O<|aB<|aF O ?_;refine aA<|rgN<|keq O O (r:=false) (cR (by omega))<|kas O<|aB<|aF O ?_;refine aH ?_;refine aA<|rgD mixed<|kfa O O ?_;refine kl1 O O O<|bM O O g1 (str_add (wordS x.op) [40]) dR<|kmv O<|kca O O hJ<|bM O O g2 (str_add (wordS x.op++[40]) js) dR<|bM O O g3 (str_add ((wordS x.op++[40])++js) [41]) dR<|kas O<|aB<|rgA ?_;refine aI ?_)
    exact ⟨[_],⟨O,trivial⟩,O⟩
theorem tShow1 (hT:XTab X) (x:Ins) (hx:smallI x) (hok:okI x=true) (f:FuncId) (caps:List Value) (tad:Option Addr) (tcap:Nat) (ts:List (List UInt8)) (hts:TsIn X tad ts) (hlen:ts.length=takes x.op) (hcap:ts.length≤tcap) (hs:(ts.map List.length).sum≤3200):
    PSpec Tryz.prog X 87 [LRow x.op (.val (.func (.func f) #[] caps.toArray)),LIn x,Lx tad ts.length tcap] (.tup [Ss (shownX x ts),Sn .i64 0]):=by
  have hP:=tShown X hT x hx hok f caps tad tcap ts hts hlen hcap hs
  generalize shownX x ts=r at *
  refine cF Tryz.func87 rfl (by kernel_rfl) rfl rfl ?_
  intro C
  (refine aA<|rgN<|aL O O O dR<|aL O O O dR<|kas O<|kas O<|aB<|aA<|rgN<|aK O O O dR ?_;refine aK O O O dR ?_;refine kmv O<|kca O O (hP)<|kas O<|kas O<|aB<|aI ?_)
  exact ⟨[_,_],⟨O,O,trivial⟩,O⟩
abbrev rsSt (rad ad:Option Addr) (n rcap cap i:Nat) (ms:List (Nat×LV)) (mb:List (Nat×Option Box)) (Y:Nat→Option Obj):St:=
  ⟨ms++[(0,Lx rad n rcap),(1,Lx ad n cap),(2,.sv (.one (.val (fnV 87)))),(15,Lx rad n rcap),(16,Ln .i64 (n:Nat)),(17,Ln .i64 (i:Nat))],mb,Y⟩
set_option maxHeartbeats 12800000 in
theorem tRunS (hT:XTab X) (l:List Ins) (hchk:chkX l=0) (ad:Option Addr) (cap:Nat) (hin:InsIn X ad l) (rad:Option Addr) (rcap:Nat) (hrows:RowsOK X rad l):
    PSpec Tryz.prog X 86 [Lx rad l.length rcap,Lx ad l.length cap,.sv (.one (.val (fnV 87)))] (.tup [Ss (showX l),Sn .i64 0]):=by
  obtain ⟨h64,hdep1⟩:=chkX_zero hchk
  refine cF Tryz.func86 rfl (by kernel_rfl) rfl rfl ?_
  intro C
  have hmk:slcBuild Tryz.prog 55 16=some ((List.replicate 16 [Value.string ⟨#[]⟩]).flatten,1,9):=slcBuild_many (z := #[.string ⟨#[]⟩]) (by kernel_rfl) (by kernel_rfl) rfl (by omega)
  (refine aA<|rgN<|kas O<|kas O<|aB<|aA<|rgN<|K.makeSlc0 (m:=16) (bytes:=16) O O hmk (by kernel_rfl) (by omega) O dR ?_;refine kas O<|aB<|aA<|aA<|rgN<|kmv O<|aQ O cC O dR ?_;refine kmv O<|aB<|aG ?_)
  refine cL (fun k σ=>∃ (i:Nat) (st:List (List UInt8)),i≤l.length∧k=l.length-i∧run oneS (l.take i) [] = .ok st∧(st.map List.length).sum≤50*i∧dep okI 0 (l.take i)=some st.length∧σ=rsSt rad ad l.length rcap cap i [(8,.sv (.one (.slc 500 0 st.length 1)))] [(500,some ⟨9,(txV st.reverse).map .val,true⟩)] X) l.length
    ⟨rsSt rad ad l.length rcap cap 0 [(8,.sv (.one (.slc 500 0 0 1)))] [(500,some ⟨9,[],true⟩)] X,Le.ofR [(500,14)] (by exact ⟨rfl,rfl,rfl,rfl,rfl,rfl,rfl,trivial⟩) (by repeat' (first|exact trivial|refine cQ ⟨_,rfl,?_⟩ ?_|refine cQ ⟨_,rfl⟩ ?_|rfl|exact bX _ _ _ _|exact bY _ _ _ _|exact bZ rfl)) (by exact rfl) (by exact rfl) (by repeat' (first|refine bT ?_ ?_|rfl|exact bV|exact bU|exact bW rfl)) (by exact rfl) (by exact rfl),0,[],by omega,by omega,rfl,dN _,rfl,rfl⟩ ?_
  rintro k σ ⟨i,st,hi,rfl,hst,hst2,hdep,rfl⟩
  by_cases hlt:i<l.length
  · obtain ⟨x,hx⟩:∃ x,l[i]? = some x:=⟨_,cX hlt⟩
    have hmem:=dD hx
    have hsx:=hin.small x hmem
    obtain ⟨hok,htk,h16,hdn⟩:=dep_step hdep1 hdep hx
    have hd16:=dep_le (by omega) hdep
    obtain ⟨rblk,roff,rarr,rel,rfr,dv,rfl,hXr,hszr,hcsr,hDv⟩:=hrows.at hx
    obtain ⟨g,gcaps,egv,_⟩:=id hDv
    subst egv
    obtain ⟨blk,off,arr,el,fr,rfl,hX,hsz,hcs,hop⟩:=hin.at hx
    have hio:off+Int.toNat (i:Int)*6=off+i*6:=by simp
    have hior:roff+Int.toNat (i:Int)*6=roff+i*6:=by simp
    have hin0:0≤(i:Int)∧(i:Int)<(l.length:Nat):=by omega
    obtain ⟨rest,hrest⟩:∃ rest,st.length-takes x.op=rest:=⟨_,rfl⟩
    have hsub:IntKind.i64.wrap (((st.length:Nat):Int)-((takes x.op:Nat):Int))=((rest:Nat):Int):=by rw [cH (by omega)];omega
    (refine aA<|rgN<|klt O O (cP (by omega))<|aB<|aA<|aE O ?_;refine aH ?_;refine aA<|aG<|aA<|rgN<|kmv O<|aR O O cC hin0 hior dR<|aY O hXr (by kernel_rfl) hszr hcsr dR<|aP O dR ?_;refine kas O<|aM O O O O O O dR ?_;refine aB<|aA<|rgN<|kmv O<|K.lenSlc O cC O dR ?_;refine kfa O O ?_;refine kl1 O O O<|bA O O hsub dR<|kas O<|aB<|aA ?_)
    refine LWP.le (σ':=⟨[(8,.sv (.one (.slc 500 0 st.length 1))),(0,Lx (some ⟨rblk,roff,none⟩) l.length rcap),(1,Lx (some ⟨blk,off,none⟩) l.length cap),(2,.sv (.one (.val (fnV 87)))),(9,Ln .i64 (i:Nat)),(10,Lp 10),(11,Ln .i64 (rest:Nat)),(15,Lx (some ⟨rblk,roff,none⟩) l.length rcap),(16,Ln .i64 (l.length:Nat)),(17,Ln .i64 (i:Nat))],[(500,some ⟨9,(txV st.reverse).map .val,true⟩),(10,some ⟨137,(rowVs (x.op,.func (.func g) #[] gcaps.toArray)).map .val,false⟩)],X⟩) (Le.of (by exact ⟨O,O,O,O,O,O,O,O,O,O,trivial⟩) (by exact ⟨O,O,trivial⟩) (by exact O) (by exact O) (by repeat' (first|refine bT ?_ ?_|rfl|exact bV|exact bU|exact bW O))) ?_
    refine LWP.freeze O (by exact (by repeat' (first|refine bT ?_ ?_|rfl|exact bV|exact bU|exact bW O))) O fun sb scap sarr sfr hn hFz hcp hfit hsp => ?_
    have hXZ:MoreM X (withBlock X sb (.cells sarr 9 sfr)):=cJ hn
    have hts:st.reverse.drop rest=(st.take (takes x.op)).reverse:=by rw [List.drop_reverse,← hrest,show st.length-(st.length-takes x.op)=takes x.op by omega]
    have hln:((st.take (takes x.op)).reverse).length=takes x.op:=by rw [List.length_reverse,cZ];omega
    have hN:=texts_tail (cap:=scap) (rest:=rest) (cN X sb (.cells sarr 9 sfr)) hsp (fun e=>List.drop_eq_nil_of_le (by rw [List.length_reverse];omega))
    rw [hts] at hN
    have hsum:(st.map List.length).sum=(((st.take (takes x.op)).reverse).map List.length).sum+((st.drop (takes x.op)).map List.length).sum:=by
      rw [List.map_reverse,List.sum_reverse,← List.sum_append,← dH,List.take_append_drop]
    have hP:=tShow1 _ (xtab_mono hXZ hT) x hsx hok g gcaps _ (scap-rest) _ hN hln (by omega) (by omega)
    have hln2:st.length-rest=((st.take (takes x.op)).reverse).length:=by rw [hln];omega
    have hXc:=hXZ _ _ hX
    have hsn:=run_snoc hst hx
    have hnl2:=shownX_len hok hsx.2.2.2 hln
    rw [show oneS x (st.take (takes x.op)).reverse = .ok (shownX x (st.take (takes x.op)).reverse) from rfl] at hsn
    simp only at hsn
    generalize shownX x (st.take (takes x.op)).reverse=u at *
    (refine rgD mixed<|kmv O<|aK O O O dR ?_;refine kmv O<|kmv O<|aR O O cC hin0 hio dR<|aY O hXc (by kernel_rfl) hsz hcs dR<|kmv O<|kmv O<|K.cutLoX O O cC (by omega) O hln2 O dR ?_;refine K.callF (caps:=[]) O O O hP dR ?_;refine kmv O<|kex O O<|kex O O<|kas O<|kas O<|aB<|rgA ?_;refine aA<|aA<|rgN<|kmv O<|kne O O (r:=false) O<|aB<|aF O ?_;refine aH ?_)
    have hspl:txV st.reverse=txV (st.reverse.take rest)++txV (st.reverse.drop rest):=by rw [← txV_app,List.take_append_drop]
    have hsp2:∃ sp,sarr.toList=txV (st.reverse.take rest)++sp:=by
      obtain ⟨sp,hsp⟩:=hsp
      exact ⟨_,by rw [hsp,hspl,dM]⟩
    have hrl:(st.reverse.take rest).length=rest:=by rw [cZ,List.length_reverse];omega
    refine LWP.le (σ':=⟨[(8,.sv (.one (.val (.slice (some ⟨sb,0,none⟩) st.length scap)))),(0,Lx (some ⟨rblk,roff,none⟩) l.length rcap),(1,Lx (some ⟨blk,off,none⟩) l.length cap),(2,.sv (.one (.val (fnV 87)))),(11,Ln .i64 (rest:Nat)),(12,Ls u),(15,Lx (some ⟨rblk,roff,none⟩) l.length rcap),(16,Ln .i64 (l.length:Nat)),(17,Ln .i64 (i:Nat))],[],withBlock X sb (.cells sarr 9 sfr)⟩) (Le.of (by exact ⟨O,O,O,O,O,O,O,O,O,trivial⟩) (by exact trivial) (by exact O) (by exact O) (by repeat' (first|refine bT ?_ ?_|rfl|exact bV|exact bU|exact bW O))) ?_
    refine LWP.thaw (k:=500) (sz:=1) (vals:=txV (st.reverse.take rest)) hn hFz hcp hfit hsp2 O O O (by decide) ?_
    have hl3:((txV (st.reverse.take rest)).map CV.val).length=rest*1:=by rw [txV_len,hrl]
    have hnc:(txV (st.reverse.take rest)).map CV.val++[CV.val (.string ⟨u.toArray⟩)]=(txV (st.reverse.take rest++[u])).map CV.val:=by rw [txV_app,dH];rfl
    have hinc:IntKind.i64.wrap (((i:Nat):Int)+1)=((i+1:Nat):Int):=by rw [cH (by omega)];omega
    have hst':st.reverse.take rest=(st.drop (takes x.op)).reverse:=by rw [List.take_reverse,← hrest,show st.length-(st.length-takes x.op)=takes x.op by omega]
    have hlen2:(u::st.drop (takes x.op)).length=rest+1:=by rw [dI,dA];omega
    (refine rgN<|kmv O<|kmv O<|K.cutSlc O O cC (by omega) dR<|kmv O<|aZ (zs:=[Value.string ⟨#[]⟩]) (sz:=1) (e:=9) (cs':=[.val (.string ⟨u.toArray⟩)]) (by kernel_rfl) O O O O O O dR<|bQ (by_:=16) (e2:=9) (l2:=[.val (.string ⟨u.toArray⟩)]) (nl:=rest+1) (nc:=(txV (st.reverse.take rest++[u])).map .val) O O hl3 O O (dN _) O O (by kernel_rfl) (by kernel_rfl) (by omega) (by omega) O O hnc dR<|kas O<|aB<|rgN<|kad O O hinc<|kmv O<|aB ?_)
    exact ⟨l.length-(i+1),rsSt (some ⟨rblk,roff,none⟩) (some ⟨blk,off,none⟩) l.length rcap cap (i+1) [(8,.sv (.one (.slc 500 0 (rest+1) 1)))] [(500,some ⟨9,(txV (st.reverse.take rest++[u])).map .val,true⟩)] X,by omega,Le.ofR [(500,49)] (by exact ⟨rfl,rfl,rfl,rfl,rfl,rfl,rfl,trivial⟩) (by repeat' (first|exact trivial|refine cQ ⟨_,rfl,?_⟩ ?_|refine cQ ⟨_,rfl⟩ ?_|rfl|exact bX _ _ _ _|exact bY _ _ _ _|exact bZ rfl)) (by exact rfl) (by exact rfl) (by repeat' (first|refine bT ?_ ?_|rfl|exact bV|exact bU|exact bW rfl)) (by exact rfl) (by exact rfl),i+1,u::st.drop (takes x.op),by omega,rfl,hsn,by rw [List.map_cons,List.sum_cons];omega,by rw [hdn,hlen2];congr 1;omega,by rw [hlen2,List.reverse_cons,← hst']⟩
  · have e:i=l.length:=by omega
    subst e
    rw [dF] at hst hdep
    have hl1:st.length=1:=by rw [hdep1] at hdep;exact (Option.some.inj hdep).symm
    match st,hl1,hst with
    | [u],_,hst =>
    rw [show showX l=u by unfold showX;rw [if_pos hchk,hst]]
    show LWP _ _ _ _ _ _
    refine LWP.le (σ':=rsSt rad ad l.length rcap cap l.length [(8,.sv (.one (.slc 500 0 1 1)))] [(500,some ⟨9,[.val (.string ⟨u.toArray⟩)],true⟩)] X) (Le.of (by exact ⟨O,O,O,O,O,O,O,trivial⟩) (by exact ⟨O,trivial⟩) (by exact O) (by exact O) (by repeat' (first|refine bT ?_ ?_|rfl|exact bV|exact bU|exact bW O))) ?_
    (refine aA<|rgN<|klt O O (cO (by omega))<|aB<|aA<|aF O ?_;refine aJ<|aA<|rgN<|kmv O<|K.indexSlc (off':=0) O O (by omega) O dR ?_;refine kl1 O O O<|kas O<|kas O<|aB<|aI ?_)
    exact ⟨[_,_],⟨O,O,trivial⟩,O⟩
set_option maxHeartbeats 3200000 in
theorem gShow' (hT:XTab X) (l:List Ins) (ad:Option Addr) (cap:Nat) (hin:InsIn X ad l) (hbig:l.length<1152921504606846976):PSpec Tryz.prog X 71 [Lx ad l.length cap] (Ls (showX l)):=by
  have hR:=tRowsOf X l ad cap hin hbig
  refine cF Tryz.func71 rfl (by kernel_rfl) rfl rfl ?_
  intro C
  by_cases h:chkX l=0
  · rw [(rs_ok h).1,(rs_ok h).2] at hR
    (refine aA<|rgN<|kas O<|aB<|aA<|rgN<|kmv O<|bE [(1000001,500)] (.tup [.one (.slc 500 0 l.length 6),Sn .i64 0]) [(500,some ⟨0,[],.res (rowsR l)⟩)] (hR) O O (by exact trivial) O O O O O (by exact (.box O O .nil)) dR<|kmv O<|kex O O<|kex O O<|kas O<|kas O<|aB ?_;refine aA<|aA<|rgN<|kmv O<|kne O O ((cS (by omega)))<|aB<|aF O ?_;refine aH ?_;refine aA ?_)
    refine LWP.le (σ':=⟨[(3,.sv (.one (.slc 500 0 l.length 6))),(0,Lx ad l.length cap),(4,Ln .i64 0)],[(500,some ⟨0,[],.res (rowsR l)⟩)],X⟩) (Le.of (by exact ⟨O,O,O,trivial⟩) (by exact ⟨O,trivial⟩) (by exact O) (by exact O) (by repeat' (first|refine bT ?_ ?_|rfl|exact bV|exact bU|exact bW O))) ?_
    refine LWP.fixRes O O O fun ρ H rcap hRr hO _ _ => ?_
    obtain ⟨m1,m2⟩:=more_join hO
    have hP:=tRunS _ (xtab_mono m1 hT) l h ad cap (hin.mono m1) (some ⟨ρ.1,0,none⟩) rcap (rows_fix hRr m2)
    generalize showX l=s at *
    (refine rgN<|kmv O<|kmv O<|kca O O hP<|kmv O<|kex O O<|kex O O<|kas O<|kas O<|aB<|aA<|rgN<|kmv O<|kas O ?_;refine aB<|aI ?_)
    exact ⟨[_],⟨O,trivial⟩,O⟩
  · rw [(rs_no h).1,(rs_no h).2] at hR
    rw [show showX l=[] from if_neg h]
    (refine aA<|rgN<|kas O<|aB<|aA<|rgN<|kmv O<|aU [] [] (hR) O O (by exact trivial) O O O O O (by exact .nil) dR<|kmv O<|kex O O<|kex O O<|kas O<|kas O<|aB ?_;refine aA<|aA<|rgN<|kmv O<|kne O O (r:=true) (cT h)<|aB<|aE O ?_;refine aA<|rgN<|kas O<|aB<|aI ?_)
    exact ⟨[_],⟨O,trivial⟩,O⟩
end Go.Proofs.YtamplgnbbanamaaGreatDoor
end
section
namespace Go.Proofs.YtamplgnbbanamaaGreatDoor
open Go Go.Lg
variable (X:Nat→Option Obj)
theorem WPart_1 (l s:List UInt8) (hn:fitW 4 (s.length:Nat)=true) (hs:s.length<100000000) (hl:l.length<800000000):MSpec Tryz.prog X 55 [Lp 1000000,Ls s] (w1 1000000 1000001 1000002 l) (Lb true) (w1 1000000 1000001 1000003 ((l++leB 4 s.length)++s)++[(1000002,none)]):=by
  have hf:s.length<256^4:=by unfold fitW at hn;simp only [Bool.and_eq_true,decide_eq_true_eq] at hn;exact hn.2
  refine cG Tryz.func55 rfl (by kernel_rfl) rfl rfl (by repeat' (first|refine bT ?_ ?_|rfl|exact bV|exact bU|exact bW rfl)) rfl rfl ?_
  intro C
  have hz:(⟨s.toArray⟩:ByteArray).size=s.length:=rfl
  have wl:IntKind.u64.wrap (((⟨s.toArray⟩:ByteArray).size:Nat):Int)=(s.length:Nat):=by rw [wrap_u64 (by omega)];rfl
  (refine aA<|rgN<|kas O<|aB<|aA<|rgN<|kmv O<|kmv O<|kln O<|kcv O wl ?_;refine aU [(1000003,501)] (w1 1000000 1000001 501 (l++leB 4 s.length)++[(1000002,none)]) (WNum_1_4 X l s.length (by omega) hf (by omega)) O O (by exact (cQ ⟨_,O,O⟩ (cQ ⟨_,O,O⟩ (cQ ⟨_,O,(bX _ _ _ _)⟩ trivial)))) (by exact (bT (bT O (bT O O)) (bT (bT O O) (bT bV O)))) O O O O (by exact (.box O O (.box O O (.box O (bX _ _ _ _) (.dead O .nil))))) dR<|kmv O<|gmv O O O<|gmv O O O<|aU [(1000002,501),(1000003,503)] (w1 1000000 1000001 503 ((l++leB 4 s.length)++s)++[(501,none)]) (WRaw_1 X (l++leB 4 s.length) s (by rw [cV,leB_length];omega)) O O (by exact (cQ ⟨_,O,O⟩ (cQ ⟨_,O,O⟩ (cQ ⟨_,O,(bX _ _ _ _)⟩ trivial)))) (by exact (bT (bT O (bT O O)) (bT (bT O O) (bT bV O)))) O O O O (by exact (.box O O (.box O O (.box O (bX _ _ _ _) (.dead O .nil))))) (dS O O) ?_;refine kpt O O<|kas O<|aB<|aI ?_)
  exact ⟨[(1000003,503)],⟨[_],⟨rfl,trivial⟩,rfl⟩,(by repeat' (first|exact trivial|refine cQ ⟨_,rfl,?_⟩ ?_|refine cQ ⟨_,rfl⟩ ?_|rfl|exact bX _ _ _ _|exact bY _ _ _ _|exact bZ rfl)),rfl,rfl⟩
end Go.Proofs.YtamplgnbbanamaaGreatDoor
end
section
namespace Go.Proofs.YtamplgnbbanamaaGreatDoor
open Go Go.Lg Go.Lg.Fml Go.Lg.Fld Go.Lg.Arith
set_option maxRecDepth 100000
theorem leB1o (n:Nat):leB 1 n=[o8 (n:Nat)]:=by
  simp only [leB]
  congr 1
abbrev LOp (op:Int):LV:=.sv (.agg [.val (.bool (op==2||op==3)),.val (.bool (op==2)),.val (.bool (op==1))])
theorem op_1:LOp 1 = .sv (.agg [.val (.bool false),.val (.bool false),.val (.bool true)]):=rfl
theorem op_2:LOp 2 = .sv (.agg [.val (.bool true),.val (.bool true),.val (.bool false)]):=rfl
theorem op_3:LOp 3 = .sv (.agg [.val (.bool true),.val (.bool false),.val (.bool false)]):=rfl
theorem op_no {op:Int} (h1:op≠1) (h2:op≠2) (h3:op≠3):LOp op = .sv (.agg [.val (.bool false),.val (.bool false),.val (.bool false)]):=by
  unfold LOp
  rw [cR h1,cR h2,cR h3]
  rfl
variable (X:Nat→Option Obj)
set_option maxHeartbeats 6400000 in
theorem tOnly3 (A B K:Bool) (x:Ins) (hx:smallI x):PSpec Tryz.prog X 77 [.sv (.agg [.val (.bool A),.val (.bool B),.val (.bool K)]),LIn x] (Lb ((A||(x.a==0))&&(B||(x.b==0))&&(K||decide (x.k=(false,0))))):=by
  have q:=eqI (b:=x.k.1) (b':=false) (h:=x.k.2/18446744073709551616) (h':=0) (l:=x.k.2%18446744073709551616) (l':=0) _ (eqZ hx.2.2.2)
  rw [show decide (((x.k.1,x.k.2):Nm)=(false,0))=decide (x.k=(false,0)) from rfl] at q
  generalize hr:decide (x.k=(false,0))=r at *
  generalize hp:(x.a==0)=p
  generalize hq:(x.b==0)=s
  cases A<;>cases p<;>cases B<;>cases s<;>cases K
  all_goals
    refine cF Tryz.func77 rfl (by kernel_rfl) rfl rfl ?_
    intro C
    (first|(refine aA<|rgN<|aL O O O dR<|aL O O O dR<|kas O<|aB<|aA<|rgN<|kfa O O ?_;refine kl1 O O O<|kmv O<|aN O O (dS O O) ?_;refine aO O O O (dS O O) ?_;refine bC O O hp (dS O O) ?_;refine kpf O O<|kmv O<|aN O O (dS O O) ?_;refine aO O O O (dS O O) ?_;refine gmv O O O<|aN O O (dS O O) ?_;refine aO O O O (dS O O) ?_;refine bC O O hq (dS O O) ?_;refine bP O O (dS O O) ?_;refine kpt O O<|kmv O<|aN O O (dS O O) ?_;refine aO O O O (dS O O) ?_;refine gmv O O O<|aN O O (dS O O) ?_;refine bJ O O O (by exact nl3 O O O O) (dS O O) ?_;refine aT O O (by exact O) (by exact nl3 O O O O) (dS O O) ?_;refine bR O O O O (by kernel_rfl) q (.inl ⟨O,O⟩) (dS O O) ?_;refine bP O O (dS O O) ?_;refine kpt O O<|kas O<|aB<|aI ?_)|(refine aA<|rgN<|aL O O O dR<|aL O O O dR<|kas O<|aB<|aA<|rgN<|kfa O O ?_;refine kl1 O O O<|kmv O<|aN O O (dS O O) ?_;refine aO O O O (dS O O) ?_;refine bC O O hp (dS O O) ?_;refine kpf O O<|kmv O<|aN O O (dS O O) ?_;refine aO O O O (dS O O) ?_;refine gmv O O O<|aC O O O<|aC O O O<|aC O O O<|bF O O (dS O O) ?_;refine kpt O O<|kmv O<|aN O O (dS O O) ?_;refine aO O O O (dS O O) ?_;refine gmv O O O<|aN O O (dS O O) ?_;refine bJ O O O (by exact nl3 O O O O) (dS O O) ?_;refine aT O O (by exact O) (by exact nl3 O O O O) (dS O O) ?_;refine bR O O O O (by kernel_rfl) q (.inl ⟨O,O⟩) (dS O O) ?_;refine bP O O (dS O O) ?_;refine kpt O O<|kas O<|aB<|aI ?_)|(refine aA<|rgN<|aL O O O dR<|aL O O O dR<|kas O<|aB<|aA<|rgN<|kfa O O ?_;refine kl1 O O O<|kmv O<|aC O O O<|aC O O O<|aC O O O<|kpt O O<|kmv O<|aN O O (dS O O) ?_;refine aO O O O (dS O O) ?_;refine gmv O O O<|aN O O (dS O O) ?_;refine aO O O O (dS O O) ?_;refine bC O O hq (dS O O) ?_;refine bP O O (dS O O) ?_;refine kpt O O<|kmv O<|aN O O (dS O O) ?_;refine aO O O O (dS O O) ?_;refine gmv O O O<|aN O O (dS O O) ?_;refine bJ O O O (by exact nl3 O O O O) (dS O O) ?_;refine aT O O (by exact O) (by exact nl3 O O O O) (dS O O) ?_;refine bR O O O O (by kernel_rfl) q (.inl ⟨O,O⟩) (dS O O) ?_;refine bP O O (dS O O) ?_;refine kpt O O<|kas O<|aB<|aI ?_)|(refine aA<|rgN<|aL O O O dR<|aL O O O dR<|kas O<|aB<|aA<|rgN<|kfa O O ?_;refine kl1 O O O<|kmv O<|aC O O O<|aC O O O<|aC O O O<|kpt O O<|kmv O<|aN O O (dS O O) ?_;refine aO O O O (dS O O) ?_;refine gmv O O O<|aC O O O<|aC O O O<|aC O O O<|bF O O (dS O O) ?_;refine kpt O O<|kmv O<|aN O O (dS O O) ?_;refine aO O O O (dS O O) ?_;refine gmv O O O<|aN O O (dS O O) ?_;refine bJ O O O (by exact nl3 O O O O) (dS O O) ?_;refine aT O O (by exact O) (by exact nl3 O O O O) (dS O O) ?_;refine bR O O O O (by kernel_rfl) q (.inl ⟨O,O⟩) (dS O O) ?_;refine bP O O (dS O O) ?_;refine kpt O O<|kas O<|aB<|aI ?_)|(refine aA<|rgN<|aL O O O dR<|aL O O O dR<|kas O<|aB<|aA<|rgN<|kfa O O ?_;refine kl1 O O O<|kmv O<|aN O O (dS O O) ?_;refine aO O O O (dS O O) ?_;refine bC O O hp (dS O O) ?_;refine kpf O O<|kmv O<|aN O O (dS O O) ?_;refine aO O O O (dS O O) ?_;refine gmv O O O<|aN O O (dS O O) ?_;refine aO O O O (dS O O) ?_;refine bC O O hq (dS O O) ?_;refine bP O O (dS O O) ?_;refine kpt O O<|kmv O<|aN O O (dS O O) ?_;refine aO O O O (dS O O) ?_;refine gmv O O O<|aC O O O<|aC O O O<|aC O O O<|aC O O O<|bF O O (dS O O) ?_;refine kpt O O<|kas O<|aB<|aI ?_)|(refine aA<|rgN<|aL O O O dR<|aL O O O dR<|kas O<|aB<|aA<|rgN<|kfa O O ?_;refine kl1 O O O<|kmv O<|aN O O (dS O O) ?_;refine aO O O O (dS O O) ?_;refine bC O O hp (dS O O) ?_;refine kpf O O<|kmv O<|aN O O (dS O O) ?_;refine aO O O O (dS O O) ?_;refine gmv O O O<|aC O O O<|aC O O O<|aC O O O<|bF O O (dS O O) ?_;refine kpt O O<|kmv O<|aN O O (dS O O) ?_;refine aO O O O (dS O O) ?_;refine gmv O O O<|aC O O O<|aC O O O<|aC O O O<|aC O O O<|bF O O (dS O O) ?_;refine kpt O O<|kas O<|aB<|aI ?_)|(refine aA<|rgN<|aL O O O dR<|aL O O O dR<|kas O<|aB<|aA<|rgN<|kfa O O ?_;refine kl1 O O O<|kmv O<|aC O O O<|aC O O O<|aC O O O<|kpt O O<|kmv O<|aN O O (dS O O) ?_;refine aO O O O (dS O O) ?_;refine gmv O O O<|aN O O (dS O O) ?_;refine aO O O O (dS O O) ?_;refine bC O O hq (dS O O) ?_;refine bP O O (dS O O) ?_;refine kpt O O<|kmv O<|aN O O (dS O O) ?_;refine aO O O O (dS O O) ?_;refine gmv O O O<|aC O O O<|aC O O O<|aC O O O<|aC O O O<|bF O O (dS O O) ?_;refine kpt O O<|kas O<|aB<|aI ?_)|(refine aA<|rgN<|aL O O O dR<|aL O O O dR<|kas O<|aB<|aA<|rgN<|kfa O O ?_;refine kl1 O O O<|kmv O<|aN O O (dS O O) ?_;refine aO O O O (dS O O) ?_;refine bC O O hp (dS O O) ?_;refine kpf O O<|kmv O<|aN O O (dS O O) ?_;refine aO O O O (dS O O) ?_;refine gmv O O O<|aN O O (dS O O) ?_;refine aO O O O (dS O O) ?_;refine bC O O hq (dS O O) ?_;refine bP O O (dS O O) ?_;refine kpt O O<|kmv O<|aC O O O<|aC O O O<|aC O O O<|aD O O<|aD O O<|aD O O<|aD O O<|aC O O O<|kpf O O<|kas O<|aB<|aI ?_)|(refine aA<|rgN<|aL O O O dR<|aL O O O dR<|kas O<|aB<|aA<|rgN<|kfa O O ?_;refine kl1 O O O<|kmv O<|aC O O O<|aC O O O<|aC O O O<|kpt O O<|kmv O<|aN O O (dS O O) ?_;refine aO O O O (dS O O) ?_;refine gmv O O O<|aC O O O<|aC O O O<|aC O O O<|bF O O (dS O O) ?_;refine kpt O O<|kmv O<|aN O O (dS O O) ?_;refine aO O O O (dS O O) ?_;refine gmv O O O<|aC O O O<|aC O O O<|aC O O O<|aC O O O<|bF O O (dS O O) ?_;refine kpt O O<|kas O<|aB<|aI ?_)|(refine aA<|rgN<|aL O O O dR<|aL O O O dR<|kas O<|aB<|aA<|rgN<|kfa O O ?_;refine kl1 O O O<|kmv O<|aC O O O<|aC O O O<|aC O O O<|kpt O O<|kmv O<|aN O O (dS O O) ?_;refine aO O O O (dS O O) ?_;refine gmv O O O<|aN O O (dS O O) ?_;refine aO O O O (dS O O) ?_;refine bC O O hq (dS O O) ?_;refine bP O O (dS O O) ?_;refine kpt O O<|kmv O<|aC O O O<|aC O O O<|aC O O O<|aD O O<|aD O O<|aD O O<|aD O O<|aC O O O<|kpf O O<|kas O<|aB<|aI ?_)|(refine aA<|rgN<|aL O O O dR<|aL O O O dR<|kas O<|aB<|aA<|rgN<|kfa O O ?_;refine kl1 O O O<|kmv O<|aN O O (dS O O) ?_;refine aO O O O (dS O O) ?_;refine bC O O hp (dS O O) ?_;refine kpf O O<|kmv O<|aC O O O<|aC O O O<|aC O O O<|aD O O<|aD O O<|aD O O<|aC O O O<|kpf O O<|kmv O<|aC O O O<|aC O O O<|aC O O O ?_;refine aD O O<|aD O O<|aD O O<|aD O O<|aC O O O<|kpf O O<|kas O<|aB<|aI ?_))
    exact ⟨[_],⟨O,trivial⟩,O⟩
theorem tOnly (x:Ins) (hx:smallI x):PSpec Tryz.prog X 77 [LOp x.op,LIn x] (Lb (plainI x)):=by
  have h:=tOnly3 X (x.op==2||x.op==3) (x.op==2) (x.op==1) x hx
  have e:(((x.op==2||x.op==3)||(x.a==0))&&((x.op==2)||(x.b==0))&&((x.op==1)||decide (x.k=(false,0))))=plainI x:=by
    unfold plainI
    have hb:∀ a b:Int,(a==b)=decide (a=b):=fun a b=>rfl
    rw [hb,hb,hb,hb,hb]
    generalize decide (x.op=1)=a1
    generalize decide (x.op=2)=a2
    generalize decide (x.op=3)=a3
    generalize decide (x.a=0)=b1
    generalize decide (x.b=0)=b2
    generalize decide (x.k=(false,0))=b3
    cases a1<;>cases a2<;>cases a3<;>cases b1<;>cases b2<;>cases b3<;>rfl
  rw [e] at h
  exact h
theorem ePut_0 (n:Nat) (h:n<256):MSpec Tryz.prog X 76 [Lp 1000000,Ln .i64 (n:Nat)] (w0 1000000) (.tup []) (w1 1000000 1000001 1000002 [o8 (n:Nat)]):=by
  have hN:=WNum_0_1 X n (by omega) (by omega)
  rw [leB1o n] at hN
  refine cG Tryz.func76 rfl (by kernel_rfl) rfl rfl (by repeat' (first|refine bT ?_ ?_|rfl|exact bV|exact bU|exact bW rfl)) rfl rfl ?_
  intro C
  have hw:IntKind.u64.wrap ((n:Nat):Int)=((n:Nat):Int):=wrap_u64 (by omega)
  (refine rgN<|kmv O<|kmv O<|kcv O hw ?_;refine aU [(1000001,501),(1000002,502)] (w1 1000000 501 502 [o8 (n:Nat)]) (hN) O O (by exact (cQ ⟨_,O,O⟩ trivial)) (by exact (bT (bT O (bT O O)) O)) O O O O (by exact (.box O O (.box O O (.box O O .nil)))) dR<|aB ?_)
  exact ⟨[(1000001,501),(1000002,502)],⟨[],trivial,rfl⟩,(by repeat' (first|exact trivial|refine cQ ⟨_,rfl,?_⟩ ?_|refine cQ ⟨_,rfl⟩ ?_|rfl|exact bX _ _ _ _|exact bY _ _ _ _|exact bZ rfl)),rfl,rfl⟩
theorem ePut_1 (l:List UInt8) (n:Int) (h:0≤n∧n<256) (hl:l.length<900000000):MSpec Tryz.prog X 76 [Lp 1000000,Ln .i64 n] (w1 1000000 1000001 1000002 l) (.tup []) (w1 1000000 1000001 1000003 (l++[o8 n])++[(1000002,none)]):=by
  obtain ⟨k,rfl⟩:=Int.eq_ofNat_of_zero_le h.1
  have hk:k<256:=by omega
  have hN:=WNum_1_1 X l k (by omega) (by omega) hl
  rw [leB1o k] at hN
  refine cG Tryz.func76 rfl (by kernel_rfl) rfl rfl (by repeat' (first|refine bT ?_ ?_|rfl|exact bV|exact bU|exact bW rfl)) rfl rfl ?_
  intro C
  have hw:IntKind.u64.wrap ((k:Nat):Int)=((k:Nat):Int):=wrap_u64 (by omega)
  (refine rgN<|kmv O<|kmv O<|kcv O hw ?_;refine aU [(1000003,501)] (w1 1000000 1000001 501 (l++[o8 (k:Nat)])++[(1000002,none)]) (hN) O O (by exact (cQ ⟨_,O,O⟩ (cQ ⟨_,O,O⟩ (cQ ⟨_,O,(bX _ _ _ _)⟩ trivial)))) (by exact (bT (bT O (bT O O)) (bT (bT O O) (bT bV O)))) O O O O (by exact (.box O O (.box O O (.box O (bX _ _ _ _) (.dead O .nil))))) dR<|aB ?_)
  exact ⟨[(1000003,501)],⟨[],trivial,rfl⟩,(by repeat' (first|exact trivial|refine cQ ⟨_,rfl,?_⟩ ?_|refine cQ ⟨_,rfl⟩ ?_|rfl|exact bX _ _ _ _|exact bY _ _ _ _|exact bZ rfl)),rfl,rfl⟩
def numX (k:Nm):List UInt8:=sgB k.1::(leB 8 (loW k.2)++leB 8 (hiW k.2))
theorem LI_words {N:Int} (h:In2 N) (b:Bool):LI b N=Li b ((hiW N:Nat):Int) ((loW N:Nat):Int):=by
  obtain ⟨h1,h2,h3⟩:=words h
  unfold LI
  have e1:N/18446744073709551616=((hiW N:Nat):Int):=by unfold In2 at h;unfold hiW;omega
  have e2:N%18446744073709551616=((loW N:Nat):Int):=by unfold loW;omega
  rw [e1,e2]
set_option maxHeartbeats 3200000 in
theorem ePutNum (l:List UInt8) (k:Nm) (hk:In2 k.2) (hl:l.length<800000000):MSpec Tryz.prog X 93 [Lp 1000000,LI k.1 k.2] (w1 1000000 1000001 1000002 l) (.tup []) (w1 1000000 1000001 1000003 (l++numX k)++[(1000002,none)]):=by
  rw [LI_words hk]
  obtain ⟨_,h2,h3⟩:=words hk
  have hp:(256:Nat)^8=18446744073709551616:=by decide
  obtain ⟨b,N⟩:=k
  unfold numX
  simp only at hk h2 h3 ⊢
  generalize loW N=lo at *
  generalize hiW N=hi at *
  have p1:=fun n h=>ePut_1 X l n h (by omega)
  have p2:=WNum_1_8 X (l++[sgB b]) lo (by omega) (by omega) (by rw [cV,cY];omega)
  have p3:=WNum_1_8 X ((l++[sgB b])++leB 8 lo) hi (by omega) (by omega) (by rw [cV,cV,cY,leB_length];omega)
  have hfin:l++sgB b::(leB 8 lo++leB 8 hi)=((l++[sgB b])++leB 8 lo)++leB 8 hi:=by simp
  rw [hfin]
  refine cG Tryz.func93 rfl (by kernel_rfl) rfl rfl (by repeat' (first|refine bT ?_ ?_|rfl|exact bV|exact bU|exact bW rfl)) rfl rfl ?_
  intro C
  cases b with
  | false =>
    have p1:MSpec Tryz.prog X 76 [Lp 1000000,Ln .i64 0] (w1 1000000 1000001 1000002 l) (.tup []) (w1 1000000 1000001 1000003 (l++[sgB false])++[(1000002,none)]):=p1 0 ⟨by decide,by decide⟩
    (refine aA<|rgN<|aL O O O dR<|aB<|aA<|rgN<|kas O<|aB<|aA<|aA<|rgN<|kfa O O ?_;refine kl1 O O O<|aB<|aF O ?_;refine aH ?_;refine aA<|rgN<|kmv O<|kmv O<|aU [(1000003,501)] (w1 1000000 1000001 501 (l++[sgB false])++[(1000002,none)]) (p1) O O (by exact (cQ ⟨_,O,O⟩ (cQ ⟨_,O,O⟩ (cQ ⟨_,O,(bX _ _ _ _)⟩ trivial)))) (by exact (bT (bT O (bT O O)) (bT (bT O O) (bT bV O)))) O O O O (by exact (.box O O (.box O O (.box O (bX _ _ _ _) (.dead O .nil))))) dR<|aB<|aA<|rgN<|kmv O<|kfa O O ?_;refine kl1 O O O<|aU [(1000002,501),(1000003,502)] (w1 1000000 1000001 502 ((l++[sgB false])++leB 8 lo)++[(501,none)]) (p2) O O (by exact (cQ ⟨_,O,O⟩ (cQ ⟨_,O,O⟩ (cQ ⟨_,O,(bX _ _ _ _)⟩ trivial)))) (by exact (bT (bT O (bT O O)) (bT (bT O O) (bT bV O)))) O O O O (by exact (.box O O (.box O O (.box O (bX _ _ _ _) (.dead O .nil))))) dR<|aB<|rgN<|kmv O<|kfa O O ?_;refine kl1 O O O<|aU [(1000002,502),(1000003,503)] (w1 1000000 1000001 503 (((l++[sgB false])++leB 8 lo)++leB 8 hi)++[(502,none)]) (p3) O O (by exact (cQ ⟨_,O,O⟩ (cQ ⟨_,O,O⟩ (cQ ⟨_,O,(bX _ _ _ _)⟩ trivial)))) (by exact (bT (bT O (bT O O)) (bT (bT O O) (bT bV O)))) O O O O (by exact (.box O O (.box O O (.box O (bX _ _ _ _) (.dead O .nil))))) dR<|aB ?_)
    exact ⟨[(1000003,503)],⟨[],trivial,rfl⟩,(by repeat' (first|exact trivial|refine cQ ⟨_,rfl,?_⟩ ?_|refine cQ ⟨_,rfl⟩ ?_|rfl|exact bX _ _ _ _|exact bY _ _ _ _|exact bZ rfl)),rfl,rfl⟩
  | true =>
    have p1:MSpec Tryz.prog X 76 [Lp 1000000,Ln .i64 1] (w1 1000000 1000001 1000002 l) (.tup []) (w1 1000000 1000001 1000003 (l++[sgB true])++[(1000002,none)]):=p1 1 ⟨by decide,by decide⟩
    (refine aA<|rgN<|aL O O O dR<|aB<|aA<|rgN<|kas O<|aB<|aA<|aA<|rgN<|kfa O O ?_;refine kl1 O O O<|aB<|aE O ?_;refine rgN<|kas O<|aB<|aA<|rgN<|kmv O<|kmv O<|aU [(1000003,501)] (w1 1000000 1000001 501 (l++[sgB true])++[(1000002,none)]) (p1) O O (by exact (cQ ⟨_,O,O⟩ (cQ ⟨_,O,O⟩ (cQ ⟨_,O,(bX _ _ _ _)⟩ trivial)))) (by exact (bT (bT O (bT O O)) (bT (bT O O) (bT bV O)))) O O O O (by exact (.box O O (.box O O (.box O (bX _ _ _ _) (.dead O .nil))))) dR<|aB<|aA<|rgN<|kmv O<|kfa O O ?_;refine kl1 O O O<|aU [(1000002,501),(1000003,502)] (w1 1000000 1000001 502 ((l++[sgB true])++leB 8 lo)++[(501,none)]) (p2) O O (by exact (cQ ⟨_,O,O⟩ (cQ ⟨_,O,O⟩ (cQ ⟨_,O,(bX _ _ _ _)⟩ trivial)))) (by exact (bT (bT O (bT O O)) (bT (bT O O) (bT bV O)))) O O O O (by exact (.box O O (.box O O (.box O (bX _ _ _ _) (.dead O .nil))))) dR<|aB<|rgN<|kmv O<|kfa O O ?_;refine kl1 O O O<|aU [(1000002,502),(1000003,503)] (w1 1000000 1000001 503 (((l++[sgB true])++leB 8 lo)++leB 8 hi)++[(502,none)]) (p3) O O (by exact (cQ ⟨_,O,O⟩ (cQ ⟨_,O,O⟩ (cQ ⟨_,O,(bX _ _ _ _)⟩ trivial)))) (by exact (bT (bT O (bT O O)) (bT (bT O O) (bT bV O)))) O O O O (by exact (.box O O (.box O O (.box O (bX _ _ _ _) (.dead O .nil))))) dR<|aB ?_)
    exact ⟨[(1000003,503)],⟨[],trivial,rfl⟩,(by repeat' (first|exact trivial|refine cQ ⟨_,rfl,?_⟩ ?_|refine cQ ⟨_,rfl⟩ ?_|rfl|exact bX _ _ _ _|exact bY _ _ _ _|exact bZ rfl)),rfl,rfl⟩
set_option maxHeartbeats 3200000 in
theorem ePutIns (l:List UInt8) (x:Ins) (hx:smallI x) (hok:okI x=true) (hl:l.length<700000000):MSpec Tryz.prog X 78 [Lp 1000000,LOp x.op,LIn x] (w1 1000000 1000001 1000002 l) (.tup []) (w1 1000000 1000001 1000003 (l++encI x)++[(1000002,none)]):=by
  obtain ⟨h17,hgk,ha7,hb7⟩:=okI_facts hok
  have hk2:=hx.2.2.2
  obtain ⟨op,a,b,k⟩:=x
  simp only at h17 hgk ha7 hb7 hk2 ⊢
  have p1:=ePut_1 X l op (by omega) (by omega)
  have pa:=ePut_1 X (l++[o8 op]) a (by omega) (by rw [cV,cY];omega)
  have pb:=ePut_1 X ((l++[o8 op])++[o8 a]) b (by omega) (by rw [cV,cV,cY,cY];omega)
  have pk:=ePutNum X (l++[o8 op]) k hk2 (by rw [cV,cY];omega)
  by_cases c1:op=1
  · subst c1
    rw [show encI ⟨1,a,b,k⟩=o8 1::numX k from rfl,show l++o8 1::numX k=(l++[o8 1])++numX k by simp,op_1]
    refine cG Tryz.func78 rfl (by kernel_rfl) rfl rfl (by repeat' (first|refine bT ?_ ?_|rfl|exact bV|exact bU|exact bW rfl)) rfl rfl ?_
    intro C
    (refine aA<|rgN<|aL O O O dR<|aL O O O dR<|aB<|aA<|rgN<|kmv O<|kfa O O ?_;refine kl1 O O O<|aU [(1000003,501)] (w1 1000000 1000001 501 (l++[o8 1])++[(1000002,none)]) (p1) O O (by exact (cQ ⟨_,O,O⟩ (cQ ⟨_,O,O⟩ (cQ ⟨_,O,(bX _ _ _ _)⟩ trivial)))) (by exact (bT (bT O (bT O O)) (bT (bT O O) (bT bV O)))) O O O O (by exact (.box O O (.box O O (.box O (bX _ _ _ _) (.dead O .nil))))) dR<|aB<|aA<|aA<|rgN<|kfa O O ?_;refine kl1 O O O<|aB<|aF O ?_;refine aH ?_;refine aA<|aA<|rgN<|kfa O O ?_;refine kl1 O O O<|aB<|aF O ?_;refine aH ?_;refine aA<|rgN<|kfa O O ?_;refine kl1 O O O<|aB<|aE O ?_;refine rgN<|kmv O<|kfa O O ?_;refine bJ O O O (by exact nl3 O O O O) dR ?_;refine aU [(1000002,501),(1000003,502)] (w1 1000000 1000001 502 ((l++[o8 1])++numX k)++[(501,none)]) (pk) O O (by exact (cQ ⟨_,O,O⟩ (cQ ⟨_,O,O⟩ (cQ ⟨_,O,(bX _ _ _ _)⟩ trivial)))) (by exact (bT (bT O (bT O O)) (bT (bT O O) (bT bV O)))) O O O O (by exact (.box O O (.box O O (.box O (bX _ _ _ _) (.dead O .nil))))) dR<|aB ?_)
    exact ⟨[(1000003,502)],⟨[],trivial,rfl⟩,(by repeat' (first|exact trivial|refine cQ ⟨_,rfl,?_⟩ ?_|refine cQ ⟨_,rfl⟩ ?_|rfl|exact bX _ _ _ _|exact bY _ _ _ _|exact bZ rfl)),rfl,rfl⟩
  by_cases c2:op=2
  · subst c2
    rw [show encI ⟨2,a,b,k⟩=[o8 2,o8 a,o8 b] from rfl,show l++[o8 2,o8 a,o8 b]=((l++[o8 2])++[o8 a])++[o8 b] by simp,op_2]
    refine cG Tryz.func78 rfl (by kernel_rfl) rfl rfl (by repeat' (first|refine bT ?_ ?_|rfl|exact bV|exact bU|exact bW rfl)) rfl rfl ?_
    intro C
    (refine aA<|rgN<|aL O O O dR<|aL O O O dR<|aB<|aA<|rgN<|kmv O<|kfa O O ?_;refine kl1 O O O<|aU [(1000003,501)] (w1 1000000 1000001 501 (l++[o8 2])++[(1000002,none)]) (p1) O O (by exact (cQ ⟨_,O,O⟩ (cQ ⟨_,O,O⟩ (cQ ⟨_,O,(bX _ _ _ _)⟩ trivial)))) (by exact (bT (bT O (bT O O)) (bT (bT O O) (bT bV O)))) O O O O (by exact (.box O O (.box O O (.box O (bX _ _ _ _) (.dead O .nil))))) dR<|aB<|aA<|aA<|rgN<|kfa O O ?_;refine kl1 O O O<|aB<|aE O ?_;refine rgN<|kmv O<|kfa O O ?_;refine kl1 O O O<|aU [(1000002,501),(1000003,502)] (w1 1000000 1000001 502 ((l++[o8 2])++[o8 a])++[(501,none)]) (pa) O O (by exact (cQ ⟨_,O,O⟩ (cQ ⟨_,O,O⟩ (cQ ⟨_,O,(bX _ _ _ _)⟩ trivial)))) (by exact (bT (bT O (bT O O)) (bT (bT O O) (bT bV O)))) O O O O (by exact (.box O O (.box O O (.box O (bX _ _ _ _) (.dead O .nil))))) dR<|aB<|aA<|aA<|rgN<|kfa O O ?_;refine kl1 O O O<|aB<|aE O ?_;refine rgN<|kmv O<|kfa O O ?_;refine kl1 O O O<|aU [(1000002,502),(1000003,503)] (w1 1000000 1000001 503 (((l++[o8 2])++[o8 a])++[o8 b])++[(502,none)]) (pb) O O (by exact (cQ ⟨_,O,O⟩ (cQ ⟨_,O,O⟩ (cQ ⟨_,O,(bX _ _ _ _)⟩ trivial)))) (by exact (bT (bT O (bT O O)) (bT (bT O O) (bT bV O)))) O O O O (by exact (.box O O (.box O O (.box O (bX _ _ _ _) (.dead O .nil))))) dR<|aB<|aA<|rgN<|kfa O O ?_;refine kl1 O O O<|aB<|aF O ?_;refine aH ?_)
    exact ⟨[(1000003,503)],⟨[],trivial,rfl⟩,(by repeat' (first|exact trivial|refine cQ ⟨_,rfl,?_⟩ ?_|refine cQ ⟨_,rfl⟩ ?_|rfl|exact bX _ _ _ _|exact bY _ _ _ _|exact bZ rfl)),rfl,rfl⟩
  by_cases c3:op=3
  · subst c3
    rw [show encI ⟨3,a,b,k⟩=[o8 3,o8 a] from rfl,show l++[o8 3,o8 a]=(l++[o8 3])++[o8 a] by simp,op_3]
    refine cG Tryz.func78 rfl (by kernel_rfl) rfl rfl (by repeat' (first|refine bT ?_ ?_|rfl|exact bV|exact bU|exact bW rfl)) rfl rfl ?_
    intro C
    (refine aA<|rgN<|aL O O O dR<|aL O O O dR<|aB<|aA<|rgN<|kmv O<|kfa O O ?_;refine kl1 O O O<|aU [(1000003,501)] (w1 1000000 1000001 501 (l++[o8 3])++[(1000002,none)]) (p1) O O (by exact (cQ ⟨_,O,O⟩ (cQ ⟨_,O,O⟩ (cQ ⟨_,O,(bX _ _ _ _)⟩ trivial)))) (by exact (bT (bT O (bT O O)) (bT (bT O O) (bT bV O)))) O O O O (by exact (.box O O (.box O O (.box O (bX _ _ _ _) (.dead O .nil))))) dR<|aB<|aA<|aA<|rgN<|kfa O O ?_;refine kl1 O O O<|aB<|aE O ?_;refine rgN<|kmv O<|kfa O O ?_;refine kl1 O O O<|aU [(1000002,501),(1000003,502)] (w1 1000000 1000001 502 ((l++[o8 3])++[o8 a])++[(501,none)]) (pa) O O (by exact (cQ ⟨_,O,O⟩ (cQ ⟨_,O,O⟩ (cQ ⟨_,O,(bX _ _ _ _)⟩ trivial)))) (by exact (bT (bT O (bT O O)) (bT (bT O O) (bT bV O)))) O O O O (by exact (.box O O (.box O O (.box O (bX _ _ _ _) (.dead O .nil))))) dR<|aB<|aA<|aA<|rgN<|kfa O O ?_;refine kl1 O O O<|aB<|aF O ?_;refine aH ?_;refine aA<|rgN<|kfa O O ?_;refine kl1 O O O<|aB<|aF O ?_;refine aH ?_)
    exact ⟨[(1000003,502)],⟨[],trivial,rfl⟩,(by repeat' (first|exact trivial|refine cQ ⟨_,rfl,?_⟩ ?_|refine cQ ⟨_,rfl⟩ ?_|rfl|exact bX _ _ _ _|exact bY _ _ _ _|exact bZ rfl)),rfl,rfl⟩
  rw [show encI ⟨op,a,b,k⟩=[o8 op] by unfold encI;simp only;rw [if_neg c1,if_neg c2,if_neg c3],op_no c1 c2 c3]
  refine cG Tryz.func78 rfl (by kernel_rfl) rfl rfl (by repeat' (first|refine bT ?_ ?_|rfl|exact bV|exact bU|exact bW rfl)) rfl rfl ?_
  intro C
  (refine aA<|rgN<|aL O O O dR<|aL O O O dR<|aB<|aA<|rgN<|kmv O<|kfa O O ?_;refine kl1 O O O<|aU [(1000003,501)] (w1 1000000 1000001 501 (l++[o8 op])++[(1000002,none)]) (p1) O O (by exact (cQ ⟨_,O,O⟩ (cQ ⟨_,O,O⟩ (cQ ⟨_,O,(bX _ _ _ _)⟩ trivial)))) (by exact (bT (bT O (bT O O)) (bT (bT O O) (bT bV O)))) O O O O (by exact (.box O O (.box O O (.box O (bX _ _ _ _) (.dead O .nil))))) dR<|aB<|aA<|aA<|rgN<|kfa O O ?_;refine kl1 O O O<|aB<|aF O ?_;refine aH ?_;refine aA<|aA<|rgN<|kfa O O ?_;refine kl1 O O O<|aB<|aF O ?_;refine aH ?_;refine aA<|rgN<|kfa O O ?_;refine kl1 O O O<|aB<|aF O ?_;refine aH ?_)
  exact ⟨[(1000003,501)],⟨[],trivial,rfl⟩,(by repeat' (first|exact trivial|refine cQ ⟨_,rfl,?_⟩ ?_|refine cQ ⟨_,rfl⟩ ?_|rfl|exact bX _ _ _ _|exact bY _ _ _ _|exact bZ rfl)),rfl,rfl⟩
abbrev enSt (rad ad:Option Addr) (n rcap cap i:Nat) (B:List UInt8) (Y:Nat→Option Obj):St:=
  ⟨[(0,Lx ad n cap),(6,Lp 18),(23,Lx rad n rcap),(24,Ln .i64 (n:Nat)),(25,Ln .i64 (i:Nat))],w1 18 601 500 B,Y⟩
set_option maxHeartbeats 6400000 in
theorem gEncode' (l:List Ins) (ad:Option Addr) (cap:Nat) (hin:InsIn X ad l) (hbig:l.length<1152921504606846976):PSpec Tryz.prog X 54 [Lx ad l.length cap] (.tup [Ss (encTX l),Sn .i64 (encErr l)]):=by
  have hR:=tRowsOf X l ad cap hin hbig
  refine cF Tryz.func54 rfl (by kernel_rfl) rfl rfl ?_
  intro C
  by_cases h:chkX l=0
  · rw [(rs_ok h).1,(rs_ok h).2] at hR
    have h64:=(chkX_zero h).1
    have hall:=chkX_ok h
    (refine aA<|rgN<|kas O<|kas O<|aB<|aA<|rgN<|kmv O<|bE [(1000001,500)] (.tup [.one (.slc 500 0 l.length 6),Sn .i64 0]) [(500,some ⟨0,[],.res (rowsR l)⟩)] (hR) O O (by exact trivial) O O O O O (by exact (.box O O .nil)) dR<|kmv O<|kex O O<|kex O O<|kas O<|kas O ?_;refine aB<|aA<|aA<|rgN<|kmv O<|kne O O ((cS (by omega)))<|aB<|aF O ?_;refine aH ?_;refine aA ?_)
    refine LWP.le (σ':=⟨[(4,.sv (.one (.slc 500 0 l.length 6))),(0,Lx ad l.length cap)],[(500,some ⟨0,[],.res (rowsR l)⟩)],X⟩) (Le.of (by exact ⟨O,O,trivial⟩) (by exact ⟨O,trivial⟩) (by exact O) (by exact O) (by repeat' (first|refine bT ?_ ?_|rfl|exact bV|exact bU|exact bW O))) ?_
    refine LWP.fixRes O O O fun ρ H rcap hRr hO _ _ => ?_
    obtain ⟨m1,m2⟩:=more_join hO
    have hrows:=rows_fix hRr m2
    replace hin:=hin.mono m1
    generalize joinM X H=Y at *
    have p1:=ePut_0 Y l.length (by omega)
    (refine rgN<|aT O O (by exact O) (by exact nl2 O O O) dR ?_;refine aL O O O dR<|kas O<|aB<|aA<|rgN<|kmv O<|kmv O<|aQ O cC O dR ?_;refine aU [(1000000,18),(1000001,601),(1000002,602)] (w1 18 601 602 [o8 (l.length:Nat)]) (p1) O O (by exact (cQ ⟨_,O,O⟩ trivial)) (by exact (bT (bT O (bT O O)) O)) O O O O (by exact (.box O O (.box O O (.box O O .nil)))) dR<|aB<|aA<|aA<|rgN<|kmv O<|aQ O cC O dR ?_;refine kmv O<|aB<|aG ?_)
    refine cL (fun m σ=>∃ i:Nat,i≤l.length∧m=l.length-i∧(∀ x∈l.take i,plainI x=true)∧σ=enSt (some ⟨ρ.1,0,none⟩) ad l.length rcap cap i (o8 (l.length:Nat)::encIs (l.take i)) Y) l.length
      ⟨enSt (some ⟨ρ.1,0,none⟩) ad l.length rcap cap 0 (o8 (l.length:Nat)::encIs (l.take 0)) Y,Le.ofR [(500,602)] (by exact ⟨rfl,rfl,rfl,rfl,rfl,trivial⟩) (by repeat' (first|exact trivial|refine cQ ⟨_,rfl,?_⟩ ?_|refine cQ ⟨_,rfl⟩ ?_|rfl|exact bX _ _ _ _|exact bY _ _ _ _|exact bZ rfl)) (by exact rfl) (by exact rfl) (by repeat' (first|refine bT ?_ ?_|rfl|exact bV|exact bU|exact bW rfl)) (by exact rfl) (by exact rfl),0,Nat.zero_le _,rfl,fun x hx=>absurd hx (by simp),rfl⟩ ?_
    rintro m σ ⟨i,hi,rfl,hpl,rfl⟩
    have hBl:=encIs_len (l.take i)
    rw [cZ] at hBl
    by_cases hlt:i<l.length
    · obtain ⟨x,hx⟩:∃ x,l[i]? = some x:=⟨_,cX hlt⟩
      have hmem:=dD hx
      have hsx:=hin.small x hmem
      have hok:=hall x hmem
      obtain ⟨rblk,roff,rarr,rel,rfr,dv,hrad,hXr,hszr,hcsr,hDv⟩:=hrows.at hx
      simp only [Option.some.injEq,Addr.mk.injEq] at hrad
      obtain ⟨rfl,rfl,_⟩:=hrad
      obtain ⟨g,gcaps,egv,_⟩:=id hDv
      subst egv
      obtain ⟨blk,off,arr,el,fr,rfl,hX,hsz,hcs,hop⟩:=hin.at hx
      have hio:off+Int.toNat (i:Int)*6=off+i*6:=by simp
      have hior:0+Int.toNat (i:Int)*6=0+i*6:=by simp
      have hin0:0≤(i:Int)∧(i:Int)<(l.length:Nat):=by omega
      have hO:=tOnly Y x hsx
      cases hp:plainI x with
      | false =>
        have he:encErr l=1:=by
          unfold encErr
          rw [if_pos h,if_neg]
          intro ha
          have:=List.all_eq_true.1 ha x hmem
          rw [hp] at this
          cases this
        rw [show encTX l=[] by unfold encTX;rw [he];rfl,he]
        rw [hp] at hO
        (refine aA<|rgN<|klt O O (cP (by omega))<|aB<|aA<|aE O ?_;refine aH ?_;refine aA<|aG<|aA<|rgN<|kmv O<|aR O O cC hin0 hior dR<|aY O hXr (by kernel_rfl) hszr hcsr dR<|aP O dR ?_;refine kas O<|aM O O O O O O dR ?_;refine aB<|aA<|aA<|rgD mixed<|kfa O O ?_;refine bJ O O O O dR ?_;refine kmv O<|kmv O<|aR O O cC hin0 hio dR<|aY O hX (by kernel_rfl) hsz hcs dR<|kca O O hO<|aV O O dR<|aB<|rgA ?_;refine aE O ?_;refine aA<|rgN<|kas O<|kas O<|aB<|aI ?_)
        exact ⟨[_,_],⟨O,O,trivial⟩,O⟩
      | true =>
        rw [hp] at hO
        have hnext:o8 (l.length:Nat)::encIs (l.take (i+1))=(o8 (l.length:Nat)::encIs (l.take i))++encI x:=by
          rw [List.take_add_one,hx,encIs_app]
          simp [encIs]
        have q:=ePutIns Y (o8 (l.length:Nat)::encIs (l.take i)) x hsx hok (by rw [dI];omega)
        rw [← hnext] at q
        have hinc:IntKind.i64.wrap (((i:Nat):Int)+1)=((i+1:Nat):Int):=by rw [cH (by omega)];omega
        (refine aA<|rgN<|klt O O (cP (by omega))<|aB<|aA<|aE O ?_;refine aH ?_;refine aA<|aG<|aA<|rgN<|kmv O<|aR O O cC hin0 hior dR<|aY O hXr (by kernel_rfl) hszr hcsr dR<|aP O dR ?_;refine kas O<|aM O O O O O O dR ?_;refine aB<|aA<|aA<|rgD mixed<|kfa O O ?_;refine bJ O O O O dR ?_;refine kmv O<|kmv O<|aR O O cC hin0 hio dR<|aY O hX (by kernel_rfl) hsz hcs dR<|kca O O hO<|aV O O dR<|aB<|rgA ?_;refine aF O ?_;refine aH ?_;refine rgD mixed<|kmv O<|kfa O O ?_;refine bJ O O O O dR ?_;refine kmv O<|kmv O<|aR O O cC hin0 hio dR<|aY O hX (by kernel_rfl) hsz hcs dR<|aU [(1000000,18),(1000001,601),(1000002,500),(1000003,605)] (w1 18 601 605 (o8 (l.length:Nat)::encIs (l.take (i+1)))++[(500,none)]) (q) O O (by exact (cQ ⟨_,O,O⟩ (cQ ⟨_,O,O⟩ (cQ ⟨_,O,(bX _ _ _ _)⟩ trivial)))) (by exact (bT (bT O (bT O O)) (bT (bT O O) (bT (bT O bV) O)))) O O O O (by exact (.box O O (.box O O (.box O (bX _ _ _ _) (.dead O .nil))))) dR<|aB<|rgA ?_;refine rgN<|kad O O hinc<|kmv O<|aB ?_)
        exact ⟨_,enSt (some ⟨ρ.1,0,none⟩) (some ⟨blk,off,none⟩) l.length rcap cap (i+1) (o8 (l.length:Nat)::encIs (l.take (i+1))) Y,by omega,Le.ofR [(500,605)] (by exact ⟨rfl,rfl,rfl,rfl,rfl,trivial⟩) (by repeat' (first|exact trivial|refine cQ ⟨_,rfl,?_⟩ ?_|refine cQ ⟨_,rfl⟩ ?_|rfl|exact bX _ _ _ _|exact bY _ _ _ _|exact bZ rfl)) (by exact rfl) (by exact rfl) (by repeat' (first|refine bT ?_ ?_|rfl|exact bV|exact bU|exact bW rfl)) (by exact rfl) (by exact rfl),i+1,by omega,rfl,(fun y hy=>by
          rw [List.take_add_one,hx] at hy
          rcases List.mem_append.1 hy with hy|hy
          · exact hpl y hy
          · simp only [Option.toList_some,List.mem_singleton] at hy;rw [hy];exact hp),rfl⟩
    · have e:i=l.length:=by omega
      subst e
      rw [dF] at hpl
      have he:encErr l=0:=by
        unfold encErr
        rw [if_pos h,if_pos (List.all_eq_true.2 hpl)]
      rw [show encTX l=o8 (l.length:Nat)::encIs l by unfold encTX;rw [if_pos he];rfl,he,dF]
      have q:=String_1 Y (o8 (l.length:Nat)::encIs l)
      (refine aA<|rgN<|klt O O (cO (by omega))<|aB<|aA<|aF O ?_;refine aJ<|aA<|rgN<|kmv O<|aU [(1000000,18),(1000001,601),(1000002,500)] (w1 18 601 500 (o8 (l.length:Nat)::encIs l)) (q) O O (by exact (cQ ⟨_,O,O⟩ (cQ ⟨_,O,O⟩ (cQ ⟨_,O,(bX _ _ _ _)⟩ trivial)))) (by exact (bT (bT O (bT O O)) (bT (bT O O) (bT (bT O bV) O)))) O O O O (by exact (.box O O (.box O O (.box O (bX _ _ _ _) .nil)))) dR<|kas O<|kas O<|aB<|aI ?_)
      exact ⟨[_,_],⟨O,O,trivial⟩,O⟩
  · rw [(rs_no h).1,(rs_no h).2] at hR
    have he:encErr l=chkX l:=if_neg h
    rw [show encTX l=[] by unfold encTX;rw [he,if_neg h],he]
    (refine aA<|rgN<|kas O<|kas O<|aB<|aA<|rgN<|kmv O<|aU [] [] (hR) O O (by exact trivial) O O O O O (by exact .nil) dR<|kmv O<|kex O O<|kex O O<|kas O<|kas O ?_;refine aB<|aA<|aA<|rgN<|kmv O<|kne O O (r:=true) (cT h)<|aB<|aE O ?_;refine aA<|rgN<|kmv O<|kas O<|kas O<|aB<|aI ?_)
    exact ⟨[_,_],⟨O,O,trivial⟩,O⟩
end Go.Proofs.YtamplgnbbanamaaGreatDoor
end
