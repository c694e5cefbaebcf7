/- A piece of a proof over this program: contracts of its functions, and a logic to prove them by. -/
import Derived.Test.YtnfbccfghgmfiaaGreatC3
import Derived.Test.YtnfbccfghgmfiaaGreatC5
import Derived.Test.YtnfbccfghgmfiaaGreatC6
section
namespace Go.Proofs.YtnfbccfghgmfiaaGreat
open Go Go.Lg Go.Lg.Fml Go.Lg.Fld Go.Lg.Arith
set_option maxRecDepth 100000
theorem fl_small (l:List Fl) (h:(l.all fun f=>decide (-1000≤f.kind∧f.kind≤1000 ∧ -1000≤f.count∧f.count≤1000))=true):∀ f∈l,(-9223372036854775808≤f.kind∧f.kind<9223372036854775808)∧(-9223372036854775808≤f.count∧f.count<9223372036854775808):=fun f hf=>by
  have:=of_decide_eq_true (List.all_eq_true.1 h f hf)
  omega
theorem sm13a:∀ f∈fl13a,(-9223372036854775808≤f.kind∧f.kind<9223372036854775808)∧(-9223372036854775808≤f.count∧f.count<9223372036854775808):=fl_small _ (by decide)
theorem sm13b:∀ f∈fl13b,(-9223372036854775808≤f.kind∧f.kind<9223372036854775808)∧(-9223372036854775808≤f.count∧f.count<9223372036854775808):=fl_small _ (by decide)
theorem id13a:∀ c∈sc13a.cs,-9223372036854775808≤c.id∧c.id<9223372036854775808:=by
  intro c hc
  simp only [sc13a,List.mem_cons,List.not_mem_nil,or_false] at hc
  subst hc;exact ⟨by decide,by decide⟩
theorem id13b:∀ c∈sc13b.cs,-9223372036854775808≤c.id∧c.id<9223372036854775808:=by
  intro c hc
  simp only [sc13b,List.mem_cons,List.not_mem_nil,or_false] at hc
  rcases hc with rfl|rfl<;>exact ⟨by decide,by decide⟩
theorem nm13a:NamesIn sc13a.cs:=by
  intro c hc
  simp only [sc13a,List.mem_cons,List.not_mem_nil,or_false] at hc
  subst hc
  refine ⟨by decide,fun f hf => ?_⟩
  simp only [fl13a,List.mem_cons,List.not_mem_nil,or_false] at hf
  rcases hf with rfl|rfl<;>decide
theorem nm13b:NamesIn sc13b.cs:=by
  intro c hc
  simp only [sc13b,List.mem_cons,List.not_mem_nil,or_false] at hc
  rcases hc with rfl|rfl
  · refine ⟨by decide,fun f hf => ?_⟩
    simp only [fl13b,List.mem_cons,List.not_mem_nil,or_false] at hf
    rcases hf with rfl;decide
  · exact ⟨by decide,fun f hf=>by cases hf⟩
theorem so13a:scOk sc13a.cs:=⟨by decide,fun c hc=>by
  simp only [sc13a,List.mem_cons,List.not_mem_nil,or_false] at hc
  subst hc;decide⟩
theorem so13b:scOk sc13b.cs:=⟨by decide,fun c hc=>by
  simp only [sc13b,List.mem_cons,List.not_mem_nil,or_false] at hc
  rcases hc with rfl|rfl<;>decide⟩
theorem po13:(plainP sc13a sc13b).rs.length≤30∧∀ r∈(plainP sc13a sc13b).rs,r.ex.length≤12∧∀ c∈r.ex,c.length≤80:=by
  rw [plain13]
  refine ⟨by decide,fun r hr => ?_⟩
  simp only [List.mem_cons,List.not_mem_nil,or_false] at hr
  rcases hr with rfl|rfl
  · exact ⟨by decide,fun c hc=>by
      simp only [List.mem_cons,List.not_mem_nil,or_false] at hc
      subst hc;decide⟩
  · exact ⟨by decide,fun c hc=>by cases hc⟩
theorem smI (l:List Ins) (h:(l.all fun x=>decide ((-1000≤x.op∧x.op≤1000)∧(-1000≤x.a∧x.a≤1000)∧(-1000≤x.b∧x.b≤1000)∧(0≤x.k.2∧x.k.2≤1000)))=true):∀ x∈l,smallI x:=fun x hx=>by
  have:=of_decide_eq_true (List.all_eq_true.1 h x hx)
  exact ⟨by omega,by omega,by omega,by show 0≤_∧_;omega⟩
variable (X:Nat→Option Obj)
set_option maxHeartbeats 12800000 in
theorem awake13_spec:PSpec Tryz.prog X 6 [] (Lb true):=by
  have h2:=two13_spec X
  refine cB Tryz.func6 rfl (by kernel_rfl) rfl rfl ?_
  intro C
  (refine aA<|rgN<|kas O<|aB<|aA<|rgN<|bE [(1000001,701),(1000002,702),(1000003,703),(1000004,704)] (.tup [.agg [.val (.int .i64 1),.slc 701 0 1 3],.agg [.val (.int .i64 2),.slc 703 0 2 3]]) [(701,some ⟨24,c13a (.slc 702 0 2 3),false⟩),(702,some ⟨49,(flV fl13a).map .val,false⟩),(703,some ⟨24,c13b (.slc 704 0 1 3),false⟩),(704,some ⟨49,(flV fl13b).map .val,false⟩)] (h2) O O (by exact trivial) O O O O O (by exact (.box O O (.box O O (.box O O (.box O O .nil))))) dM<|kmv O<|kex O O<|kex O O<|aP O dM ?_;refine aP O dM ?_;refine aM O O O O O O dM ?_;refine aM O O O O O O dM ?_;refine aB<|aA ?_)
  refine LWP.le (σ':=⟨[(1,Lp 1),(2,Lp 2)],[(701,some ⟨24,[.val (.int .i64 1),.val (.string ⟨#[97]⟩)] ++ .slc 702 0 2 3::[],false⟩),(702,some ⟨49,(flV fl13a).map .val,false⟩),(1,some ⟨32,[.val (.int .i64 1),.slc 701 0 1 3],false⟩),(2,some ⟨32,[.val (.int .i64 2),.slc 703 0 2 3],false⟩),(703,some ⟨24,c13b (.slc 704 0 1 3),false⟩),(704,some ⟨49,(flV fl13b).map .val,false⟩)],X⟩) (Le.of (by exact ⟨O,O,trivial⟩) (by exact ⟨O,O,O,O,O,O,trivial⟩) (by exact O) (by exact O) (by repeat' (first|refine bR ?_ ?_|rfl|exact bT|exact bS|exact bU O))) ?_
  refine LWP.freezeCell O O O O O O fun k1 cp1 arr1 fr1 hn1 _ _ _ hv1 => ?_
  refine LWP.le (σ':=⟨[(1,Lp 1),(2,Lp 2)],[(1,some ⟨32,[.val (.int .i64 1)] ++ .slc 701 0 1 3::[],false⟩),(701,some ⟨24,(rowsZ sc13a.cs [.slice (some ⟨k1,0,none⟩) 2 cp1]).map .val,false⟩),(2,some ⟨32,[.val (.int .i64 2),.slc 703 0 2 3],false⟩),(703,some ⟨24,c13b (.slc 704 0 1 3),false⟩),(704,some ⟨49,(flV fl13b).map .val,false⟩)],_⟩) (Le.of (by exact ⟨O,O,trivial⟩) (by exact ⟨O,O,O,O,O,trivial⟩) (by exact O) (by exact O) (by repeat' (first|refine bR ?_ ?_|rfl|exact bT|exact bS|exact bU O))) ?_
  refine LWP.freezeCell O O O O O O fun k2 cp2 arr2 fr2 hn2 _ _ _ hv2 => ?_
  have hFa:FieldsIn (withBlock X k1 (.cells arr1 49 fr1)) (some ⟨k1,0,none⟩) fl13a:=by
    obtain ⟨sp,hv⟩:=hv1
    exact fields_block (cH _ _ _) hv sm13a
  have hA:CompsIn (withBlock (withBlock X k1 (.cells arr1 49 fr1)) k2 (.cells arr2 24 fr2)) (some ⟨k2,0,none⟩) sc13a.cs:=by
    obtain ⟨sp,hv⟩:=hv2
    refine comps_lit (cH _ _ _) hv O id13a fun i c v hc hvv => ?_
    match i,hc,hvv with
    | 0,hc,hvv =>
      simp only [sc13a,List.getElem?_cons_zero,Option.some.injEq] at hc hvv
      subst hc hvv
      exact ⟨_,cp1,O,hFa.mono (cE hn2)⟩
  have hXY:∀ b o,X b=some o→withBlock (withBlock X k1 (.cells arr1 49 fr1)) k2 (.cells arr2 24 fr2) b=some o:=fun b o h=>cE hn2 b o (cE hn1 b o h)
  clear hFa hv1 hv2 hn1 hn2
  generalize withBlock (withBlock X k1 (.cells arr1 49 fr1)) k2 (.cells arr2 24 fr2)=Y at *
  generalize (some ⟨k2,0,none⟩:Option Addr)=ad1 at *
  refine LWP.le (σ':=⟨[(1,Lp 1),(2,Lp 2)],[(703,some ⟨24,[.val (.int .i64 1),.val (.string ⟨#[97]⟩)] ++ .slc 704 0 1 3::[.val (.int .i64 2),.val (.string ⟨#[98]⟩),.val (.slice none 0 0)],false⟩),(704,some ⟨49,(flV fl13b).map .val,false⟩),(2,some ⟨32,[.val (.int .i64 2),.slc 703 0 2 3],false⟩),sxB 1 1 ad1 1 cp2],Y⟩) (Le.of (by exact ⟨O,O,trivial⟩) (by exact ⟨O,O,O,O,trivial⟩) (by exact O) (by exact O) (by repeat' (first|refine bR ?_ ?_|rfl|exact bT|exact bS|exact bU O))) ?_
  refine LWP.freezeCell O O O O O O fun k3 cp3 arr3 fr3 hn3 _ _ _ hv3 => ?_
  refine LWP.le (σ':=⟨[(1,Lp 1),(2,Lp 2)],[(2,some ⟨32,[.val (.int .i64 2)] ++ .slc 703 0 2 3::[],false⟩),(703,some ⟨24,(rowsZ sc13b.cs [.slice (some ⟨k3,0,none⟩) 1 cp3,.slice none 0 0]).map .val,false⟩),sxB 1 1 ad1 1 cp2],_⟩) (Le.of (by exact ⟨O,O,trivial⟩) (by exact ⟨O,O,O,trivial⟩) (by exact O) (by exact O) (by repeat' (first|refine bR ?_ ?_|rfl|exact bT|exact bS|exact bU O))) ?_
  refine LWP.freezeCell O O O O O O fun k4 cp4 arr4 fr4 hn4 _ _ _ hv4 => ?_
  have hFb:FieldsIn (withBlock Y k3 (.cells arr3 49 fr3)) (some ⟨k3,0,none⟩) fl13b:=by
    obtain ⟨sp,hv⟩:=hv3
    exact fields_block (cH _ _ _) hv sm13b
  have hB:CompsIn (withBlock (withBlock Y k3 (.cells arr3 49 fr3)) k4 (.cells arr4 24 fr4)) (some ⟨k4,0,none⟩) sc13b.cs:=by
    obtain ⟨sp,hv⟩:=hv4
    refine comps_lit (cH _ _ _) hv O id13b fun i c v hc hvv => ?_
    match i,hc,hvv with
    | 0,hc,hvv =>
      simp only [sc13b,List.getElem?_cons_zero,Option.some.injEq] at hc hvv
      subst hc hvv
      exact ⟨_,cp3,O,hFb.mono (cE hn4)⟩
    | 1,hc,hvv =>
      simp only [sc13b,List.getElem?_cons_succ,List.getElem?_cons_zero,Option.some.injEq] at hc hvv
      subst hc hvv
      exact ⟨none,0,rfl,fun i r h=>by simp at h,fun f hf=>by cases hf⟩
  have hYZ:∀ b o,Y b=some o→withBlock (withBlock Y k3 (.cells arr3 49 fr3)) k4 (.cells arr4 24 fr4) b=some o:=fun b o h=>cE hn4 b o (cE hn3 b o h)
  replace hA:=hA.mono hYZ
  clear hFb hv3 hv4 hn3 hn4 hYZ hXY
  generalize withBlock (withBlock Y k3 (.cells arr3 49 fr3)) k4 (.cells arr4 24 fr4)=Z at *
  generalize (some ⟨k4,0,none⟩:Option Addr)=ad2 at *
  have hP:=cPlain Z sc13a sc13b ad1 ad2 cp2 cp4 hA hB nm13a nm13b so13a.big so13b.big
  rcases hP with ⟨h0,_⟩|hP
  · cases h0
  (refine rgN<|aK O O O dM ?_;refine aK O O O dM ?_;refine bE [(1000001,601)] (.sv (.agg [.val (.int .i64 1),.val (.int .i64 2),.slc 601 0 2 3])) [rlB 27 601 (plainP sc13a sc13b).rs] (hP) O O (by exact trivial) O O O O O (by exact (.box O O .nil)) dM<|aP O dM ?_;refine aM O O O O O O dM ?_;refine aB<|aA ?_)
  refine LWP.le (σ':=⟨[(1,Lp 1),(2,Lp 2),(3,Lp 3)],[(3,some ⟨35,[.val (.int .i64 1),.val (.int .i64 2)] ++ .slc 601 0 2 3::[],false⟩),rlB 27 601 (plainP sc13a sc13b).rs,sxB 2 2 ad2 2 cp4,sxB 1 1 ad1 1 cp2],Z⟩) (Le.of (by exact ⟨O,O,O,trivial⟩) (by exact ⟨O,O,O,O,trivial⟩) (by exact O) (by exact O) (by repeat' (first|refine bR ?_ ?_|rfl|exact bT|exact bS|exact bU O))) ?_
  refine LWP.fixCell O O O O O O fun ρ H pc hR hO _ _ => ?_
  have hp:=hR.2.mono fun b o h=>joinM_in (X:=Z) h
  replace hA:=hA.mono (fun _ _ h=>joinM_has hO h)
  replace hB:=hB.mono (fun _ _ h=>joinM_has hO h)
  clear hR hO hP
  generalize joinM Z H=Z2 at *
  generalize (some ⟨ρ.1,0,none⟩:Option Addr)=pd at *
  have q1:=cCheck Z2 sc13a sc13b (plainP sc13a sc13b) ad1 ad2 pd cp2 cp4 pc hA hB hp nm13a nm13b so13a so13b po13
  have q2:=cCheck Z2 sc13b sc13a (plainP sc13a sc13b) ad2 ad1 pd cp4 cp2 pc hB hA hp nm13b nm13a so13b so13a po13
  have q3:=cCheck Z2 sc13a sc13b ⟨1,2,[]⟩ ad1 ad2 none cp2 cp4 0 hA hB RulesIn.nil nm13a nm13b so13a so13b ⟨by decide,fun r hr=>by cases hr⟩
  rw [ck13] at q1
  rw [ck13b] at q2
  rw [ck13n] at q3
  obtain ⟨ab,ao,aarr,ael,afr,afd,afc,rfl,hAX,hAz,hAc,_,_,_,hFa⟩:=hA.get (i:=0) (c:=⟨1,[97],fl13a⟩) rfl
  obtain ⟨bb,bo,barr,bel,bfr,bfd,bfc,rfl,hBX,_,_,_,_,b3,hFb⟩:=hB.get (i:=0) (c:=⟨1,[97],fl13b⟩) rfl
  obtain ⟨fb,fo,farr,fel,ffr,rfl,hFX,hFz,hFc,_⟩:=hFb.cells (i:=0) (f:=⟨[120],4,1⟩) rfl
  rw [plain13] at hp
  obtain ⟨pb,po,parr,pel,pfr,_,_,rfl,hPX,_,_,_,p2,_,_⟩:=hp.get (i:=1) (r:=⟨2,0,[]⟩) rfl
  have m1:=fun (S:Nat→Option (Option Box)) (hk:S 13=some (some ⟨66,(inssV [⟨3,1,0,(false,0)⟩]).map .val,false⟩))=>formula_lent Z2 (S:=S) (c:=⟨1,[97],fl13a⟩) (f:=⟨[120],4,1⟩) (l:=[⟨3,1,0,(false,0)⟩]) (ccap:=afc) (k:=13) (t:=0) hFa (smI _ (by decide)) (by decide) (by decide) fm13a hk
  have m2:=fun (S:Nat→Option (Option Box)) (hk:S 62=some (some ⟨66,(inssV [⟨3,2,0,(false,0)⟩]).map .val,false⟩))=>formula_lent Z2 (S:=S) (c:=⟨1,[97],fl13a⟩) (f:=⟨[120],4,1⟩) (l:=[⟨3,2,0,(false,0)⟩]) (ccap:=afc) (k:=62) (t:=0) hFa (smI _ (by decide)) (by decide) (by decide) fm13b hk
  ((refine rgN<|aT O O (by exact O) (by exact nl6 O O O O O O O) dM ?_;refine aZ (zs:=[.int .i64 0,.int .i64 0,.int .i64 0,.bool false,.int .u64 0,.int .u64 0]) (sz:=6) (e:=66) (cs':=(inssV [⟨3,1,0,(false,0)⟩]).map .val) (by kernel_rfl) O O O O O O dM<|kas O<|aB<|aA<|rgD mixed<|aK O O O dM ?_;refine aK O O O dM ?_;refine aK O O O dM ?_;refine kca O O q1<|keq O O (r:=true) O<|kmv O<|aN O O (dN O O) ?_;refine aO O O O (dN O O) ?_;refine aQ O bY O (dN O O) ?_;refine bC O O (r:=true) O (dN O O) ?_;refine kpt O O<|kmv O<|aN O O (dN O O) ?_;refine aO O O O (dN O O) ?_;refine aR O O bY (by decide) O (dN O O) ?_;refine bH O O (dN O O) ?_);(refine aW O hPX O p2 (dN O O) ?_;refine bC O O (r:=true) O (dN O O) ?_;refine kpt O O<|kmv O<|aN O O (dN O O) ?_;refine aO O O O (dN O O) ?_;refine aR O O bY (by decide) O (dN O O) ?_;refine aY O hAX (by kernel_rfl) hAz hAc (dN O O) ?_;refine aN O O (dN O O) ?_;refine aO O O O (dN O O) ?_;refine aR O O bY (by decide) O (dN O O) ?_;refine bH O O (dN O O) ?_;refine aW O hBX O b3 (dN O O) ?_;refine aR O O bY (by decide) O (dN O O) ?_);(refine aY O hFX (by kernel_rfl) hFz hFc (dN O O) ?_;refine gmv O O O<|K.callL [13] O O O (m1 _ O) (dN O O) ?_;refine bC O O (r:=true) O (dN O O) ?_;refine kpt O O<|kmv O<|aN O O (dN O O) ?_;refine aO O O O (dN O O) ?_;refine aR O O bY (by decide) O (dN O O) ?_;refine aY O hAX (by kernel_rfl) hAz hAc (dN O O) ?_;refine aN O O (dN O O) ?_;refine aO O O O (dN O O) ?_;refine aR O O bY (by decide) O (dN O O) ?_;refine bH O O (dN O O) ?_;refine aW O hBX O b3 (dN O O) ?_);(refine aR O O bY (by decide) O (dN O O) ?_;refine aY O hFX (by kernel_rfl) hFz hFc (dN O O) ?_;refine aT O O (by exact O) (by exact nl6 O O O O O O O) (dN O O) ?_;refine aZ (zs:=[.int .i64 0,.int .i64 0,.int .i64 0,.bool false,.int .u64 0,.int .u64 0]) (sz:=6) (e:=66) (cs':=(inssV [⟨3,2,0,(false,0)⟩]).map .val) (by kernel_rfl) O O O O O O (dN O O) ?_;refine K.callL [62] O O O (m2 _ O) (dN O O) ?_;refine bC O O (r:=true) O (dN O O) ?_;refine kpt O O<|kmv O<|aK O O O (dN O O) ?_;refine aK O O O (dN O O) ?_;refine aK O O O (dN O O) ?_;refine gca O O q2 O O<|bC O O (r:=true) O (dN O O) ?_;refine kpt O O<|kmv O<|aK O O O (dN O O) ?_;refine aK O O O (dN O O) ?_);(refine aT O O (by exact O) (by exact nl3 O O O O) (dN O O) ?_;refine gca O O q3 O O<|bC O O (r:=true) O (dN O O) ?_;refine kpt O O<|kas O<|aB<|rgA ?_;refine aI ?_))
  exact ⟨[_],⟨O,trivial⟩,O⟩
end Go.Proofs.YtnfbccfghgmfiaaGreat
end
section
namespace Go.Proofs.YtnfbccfghgmfiaaGreat
open Go Go.Lg Go.Lg.Fml Go.Lg.Fld Go.Lg.Arith
set_option maxRecDepth 100000
def IntsI (X:Nat→Option Obj) (ad:Option Addr) (l:List Int):Prop:=Go.Lg.RowsIn X ad 1 (l.map fun n=>[.int .i64 n])
variable (X:Nat→Option Obj)
end Go.Proofs.YtnfbccfghgmfiaaGreat
end
section
namespace Go.Proofs.YtnfbccfghgmfiaaGreat
open Go Go.Lg Go.Lg.Fml Go.Lg.Fld Go.Lg.Arith
set_option maxRecDepth 100000
theorem cd_shut2 {n:Nat} {C:Ctx} {X:Nat→Option Obj} {s:List (Nat×LV)} {bx:List (Nat×Option Box)} {k:Nat} {Mid:St→Prop} {t:TypeId} {cs:List (List Ins)} {H:Nat→Option Obj} {vs sp:List Value} (hO:OwnedM C X H) (G:FormsH H vs cs)
    (h:Leads n C Mid ⟨s,(k,some ⟨0,[],.res (cdR t cs)⟩)::bx,X⟩):Leads n C Mid ⟨s,(k,some ⟨t,(vs++sp).map .val,false⟩)::bx,joinM X H⟩:=by
  refine Leads.closeRes (vals:=vs++sp) hO (fun ρ fr h1 h2 h3 => ?_) h
  refine ⟨⟨_,fr,cH _ _ _,by rw [h3];simp⟩,?_⟩
  exact forms_block (sp:=sp) (cH _ _ _) (by simp) (G.mono (cE h1))
variable (X:Nat→Option Obj)
set_option maxHeartbeats 25600000 in
theorem form13_u0 (va vb:Int) (r:Rl) (ad:Option Addr) (cap:Nat) (hin:RulesIn X ad [r]) (h12:r.ex.length≤12∧∀ c∈r.ex,c.length≤80) (h0:r.ex.length=0):
    MSpec Tryz.prog X 8 [LPg va vb ad 1 cap] [] (.sv (.agg [.val (.int .i64 va),.val (.int .i64 vb),.slc 1000001 0 1 3])) [(1000001,some ⟨38,[.val (.int .i64 r.nw),.val (.int .i64 r.old),.val (.slice none 0 0)],true⟩)]:=by
  refine cC Tryz.func8 rfl (by kernel_rfl) rfl (by exact (by repeat' (first|refine bR ?_ ?_|rfl|exact bT|exact bS|exact bU rfl))) (by exact (by repeat' (first|refine bR ?_ ?_|rfl|exact bT|exact bS|exact bU rfl))) rfl rfl ?_
  intro C
  refine LWP.ends ?_
  obtain ⟨blk,off,arr,el,fr,ead,ecap,rfl,hX,hsiz,hcs,g1,g2,g3,hE⟩:=hin.get (i:=0) (r:=r) rfl
  have hio:off+Int.toNat 0*3=off+0*3:=by simp
  (refine aA<|rgN<|aL O O O dM<|aP O dM ?_;refine aB<|aA<|rgN<|kfa O O ?_;refine kl1 O O O<|kfa O O ?_;refine kl1 O O O<|aT O O (by exact O) (by exact nl3 O O O O) dM ?_;refine aP O dM ?_;refine aM O O O O O O dM ?_;refine aB<|aA<|aA<|rgN<|kas O<|aB<|aG ?_)
  refine cG (fun m σ=>(m=1∧σ=⟨[(1,Lp 1),(2,Lp 2),(3,Lp 3),(4,Ln .i64 (0:Nat))],[v3B 41 3 va vb none 0 0,v3B 41 2 0 0 none 0 0,v3B 35 1 va vb (some ⟨blk,off,none⟩) 1 cap],X⟩)∨(m=0∧∃ (vs:List Value) (H:Nat→Option Obj),OwnedM C X H∧FormsH H vs r.ex∧((r.ex.length=0∧H=(fun _=>none)∧σ=⟨[(1,Lp 1),(2,Lp 2),(3,Lp 3),(4,Ln .i64 (1:Nat))],[(600,some ⟨38,[.val (.int .i64 r.nw),.val (.int .i64 r.old),.val (.slice none 0 0)],true⟩),(3,some ⟨41,[.val (.int .i64 va),.val (.int .i64 vb),.slc 600 0 (1) 3],false⟩),v3B 41 2 0 0 none 0 0,v3B 35 1 va vb (some ⟨blk,off,none⟩) 1 cap],joinM X H⟩)∨(0<r.ex.length∧σ=⟨[(1,Lp 1),(2,Lp 2),(3,Lp 3),(4,Ln .i64 (1:Nat))],[(600,some ⟨38,[.val (.int .i64 r.nw),.val (.int .i64 r.old),.slc 601 0 r.ex.length 1],true⟩),(601,some ⟨52,vs.map .val,true⟩),(3,some ⟨41,[.val (.int .i64 va),.val (.int .i64 vb),.slc 600 0 (1) 3],false⟩),v3B 41 2 0 0 none 0 0,v3B 35 1 va vb (some ⟨blk,off,none⟩) 1 cap],joinM X H⟩)))) 1
    (cA (σ':=⟨[(1,Lp 1),(2,Lp 2),(3,Lp 3),(4,Ln .i64 (0:Nat))],[v3B 41 3 va vb none 0 0,v3B 41 2 0 0 none 0 0,v3B 35 1 va vb (some ⟨blk,off,none⟩) 1 cap],X⟩) (Le.of (by exact ⟨rfl,rfl,rfl,rfl,trivial⟩) (by exact ⟨rfl,rfl,rfl,trivial⟩) (by exact rfl) (by exact rfl) (by repeat' (first|refine bR ?_ ?_|rfl|exact bT|exact bS|exact bU rfl))) (bZ (.inl ⟨rfl,rfl⟩))) ?_
  rintro m σ (⟨rfl,rfl⟩|⟨rfl,vs,H,hO,GF,hst⟩)
  case inr =>
    rcases hst with ⟨_,hH,rfl⟩|⟨hbad,_⟩
    case inr=>exact absurd h0 (by omega)
    (refine aA<|aA<|rgN<|kmv O<|kfa O O ?_;refine kl1 O O O<|aQ O bY O dM ?_;refine klt O O (r:=false) O<|aB<|aF O ?_;refine aJ<|aA<|rgN<|aK O O O dM ?_;refine aM O O O O O O dM ?_;refine aB<|aI ?_)
    subst hH
    rw [joinM_nil]
    refine cA (σ':=⟨[(2,Lp 2)],[(600,some ⟨38,[.val (.int .i64 r.nw),.val (.int .i64 r.old),.val (.slice none 0 0)],true⟩),(2,some ⟨41,[.val (.int .i64 va),.val (.int .i64 vb),.slc 600 0 1 3],false⟩)],X⟩) (Le.of (by exact ⟨O,trivial⟩) (by exact ⟨O,O,trivial⟩) (by exact O) (by exact O) (by repeat' (first|refine bR ?_ ?_|rfl|exact bT|exact bS|exact bU O))) (bZ ?_)
    exact ⟨[(1000001,600)],⟨[_],⟨⟨_,_,rfl,rfl,rfl,.inl ⟨AggT.h,rfl⟩⟩,trivial⟩,rfl⟩,(by repeat' (first|exact trivial|refine cL ⟨_,rfl,?_⟩ ?_|refine cL ⟨_,rfl⟩ ?_|rfl|exact bV _ _ _ _|exact bW _ _ _ _|exact bX rfl)),rfl,rfl⟩
  (refine aA<|aA<|rgN<|kmv O<|kfa O O ?_;refine kl1 O O O<|aQ O bY O dM ?_;refine klt O O (r:=true) O<|aB<|aE O ?_;refine aH ?_;refine aA<|aG<|aA<|rgD mixed<|kfa O O ?_;refine kl1 O O O<|kmv O<|aR O O bY (by omega) hio dM<|bH O O dM ?_;refine aW O hX O g1 dM<|kfa O O ?_;refine kl1 O O O<|kmv O<|aR O O bY (by omega) hio dM<|bH O O dM ?_;refine aW O hX O g2 dM<|aT O O (by exact O) (by exact nl3 O O O O) dM ?_;refine aP O dM ?_;refine aM O O O O O O dM ?_;refine aB<|rgA ?_;refine aA<|aA<|rgN<|kas O<|aB<|aG ?_)
  refine cG (fun m σ=>∃ (k:Nat) (vs:List Value) (H:Nat→Option Obj),k≤r.ex.length∧m=r.ex.length-k∧OwnedM C X H∧FormsH H vs (r.ex.take k)∧((k=0∧H=(fun _=>none)∧σ=⟨[(1,Lp 1),(2,Lp 2),(3,Lp 3),(4,Ln .i64 (0:Nat)),(5,Lp 5),(6,Ln .i64 (k:Nat))],[v3B 38 5 r.nw r.old none 0 0,v3B 41 3 va vb none 0 0,v3B 41 2 0 0 none 0 0,v3B 35 1 va vb (some ⟨blk,off,none⟩) 1 cap],joinM X H⟩)∨(0<k∧σ=⟨[(1,Lp 1),(2,Lp 2),(3,Lp 3),(4,Ln .i64 (0:Nat)),(5,Lp 5),(6,Ln .i64 (k:Nat))],[(601,some ⟨52,(vs).map .val,true⟩),(5,some ⟨38,[.val (.int .i64 r.nw),.val (.int .i64 r.old),.slc 601 0 (k) 1],false⟩),v3B 41 3 va vb none 0 0,v3B 41 2 0 0 none 0 0,v3B 35 1 va vb (some ⟨blk,off,none⟩) 1 cap],joinM X H⟩))) r.ex.length
    (cA (σ':=⟨[(1,Lp 1),(2,Lp 2),(3,Lp 3),(4,Ln .i64 (0:Nat)),(5,Lp 5),(6,Ln .i64 (0:Nat))],[v3B 38 5 r.nw r.old none 0 0,v3B 41 3 va vb none 0 0,v3B 41 2 0 0 none 0 0,v3B 35 1 va vb (some ⟨blk,off,none⟩) 1 cap],X⟩) (Le.of (by exact ⟨rfl,rfl,rfl,rfl,rfl,rfl,trivial⟩) (by exact ⟨rfl,rfl,rfl,rfl,trivial⟩) (by exact rfl) (by exact rfl) (by repeat' (first|refine bR ?_ ?_|rfl|exact bT|exact bS|exact bU rfl))) (bZ ⟨0,[],fun _=>none,by omega,by omega,OwnedM.nil C X,FormsH.nil,.inl ⟨rfl,rfl,by rw [joinM_nil]⟩⟩)) ?_
  rintro m σ ⟨k,vs,H,hk,rfl,hO,GF,hst⟩
  have hXJ:=joinM_has hO hX
  rcases hst with ⟨hk0,hH,rfl⟩|⟨hk0,rfl⟩
  · as_aux_lemma =>
      by_cases hkl:k<r.ex.length
      case neg =>
        have hke:k=r.ex.length:=by omega
        subst hke
        rw [cZ] at GF
        have hadd:IntKind.i64.wrap (((0:Nat):Int)+1)=((1:Nat):Int):=rfl
        (refine aA<|aA<|rgN<|kmv O<|kfa O O ?_;refine kl1 O O O<|kmv O<|aR O O bY (by omega) hio dM<|bH O O dM ?_;refine aW O hXJ O g3 dM<|aQ O bY O dM ?_;refine klt O O (cJ (by omega))<|aB<|aF O ?_;refine aJ<|rgN<|kfa O O ?_;refine kl1 O O O<|aK O O O dM ?_;refine aZ (zs:=[.int .i64 0,.int .i64 0,.slice none 0 0]) (sz:=3) (e:=38) (cs':=[.val (.int .i64 r.nw),.val (.int .i64 r.old),.val (.slice none 0 0)]) (by kernel_rfl) O O O O O O dM<|K.appendNil (by_:=40) (e:=38) (e2:=38) (l2:=[.val (.int .i64 r.nw),.val (.int .i64 r.old),.val (.slice none 0 0)]) O O O (dI _) O O (by decide) (by kernel_rfl) (by kernel_rfl) (by omega) (by omega) O dM ?_;refine kfa O O ?_;refine bG O O O O O (nl3 O O O O) dM<|aB<|rgN<|kmv O<|kad O O hadd<|kas O<|aB ?_)
        exact cA (σ':=⟨[(1,Lp 1),(2,Lp 2),(3,Lp 3),(4,Ln .i64 (1:Nat))],[(600,some ⟨38,[.val (.int .i64 r.nw),.val (.int .i64 r.old),.val (.slice none 0 0)],true⟩),(3,some ⟨41,[.val (.int .i64 va),.val (.int .i64 vb),.slc 600 0 (1) 3],false⟩),v3B 41 2 0 0 none 0 0,v3B 35 1 va vb (some ⟨blk,off,none⟩) 1 cap],joinM X H⟩) (Le.ofR [(600,62)] (by exact ⟨rfl,rfl,rfl,rfl,trivial⟩) (by repeat' (first|exact trivial|refine cL ⟨_,rfl,?_⟩ ?_|refine cL ⟨_,rfl⟩ ?_|rfl|exact bV _ _ _ _|exact bW _ _ _ _|exact bX rfl)) (by exact rfl) (by exact rfl) (by repeat' (first|refine bR ?_ ?_|rfl|exact bT|exact bS|exact bU rfl)) (by exact rfl) (by exact rfl)) (bZ ⟨0,by omega,.inr ⟨rfl,vs,H,hO,GF,.inl ⟨by omega,hH,rfl⟩⟩⟩)
      obtain ⟨c,hc⟩:∃ c,r.ex[k]? = some c:=⟨_,cS hkl⟩
      obtain ⟨eb,eo,earr,eel,efr,vad,vcap,rfl,hEX,hec,hI⟩:=hE.get hc
      have hEJ:=joinM_has hO hEX
      have hio3:eo+Int.toNat (k:Int)*1=eo+k*1:=by simp
      have h80:=h12.2 c (cX hc)
      have hvk:=GF.len
      rw [cU] at hvk
      have hvl:(vs.map CV.val).length=k*1:=by rw [cR];omega
      subst hk0
      have hadd:IntKind.i64.wrap (((0:Nat):Int)+1)=((0+1:Nat):Int):=rfl
      have hIns:=ins13_spec (joinM X H) c vad vcap (hI.mono (fun b o h=>joinM_has hO h)) (by omega)
      (refine aA<|aA<|rgN<|kmv O<|kfa O O ?_;refine kl1 O O O<|kmv O<|aR O O bY (by omega) hio dM<|bH O O dM ?_;refine aW O hXJ O g3 dM<|aQ O bY O dM ?_;refine klt O O (cK (by omega))<|aB<|aE O ?_;refine aH ?_;refine aA<|aG<|rgD mixed<|kfa O O ?_;refine kl1 O O O<|kfa O O ?_;refine kl1 O O O<|kmv O<|aR O O bY (by omega) hio dM<|bH O O dM ?_;refine aW O hXJ O g3 dM<|kmv O<|aR O O bY (by omega) hio3 dM<|aW O hEJ O hec dM<|bE [(1000001,500)] (.sv (.one (.slc 500 0 c.length 6))) [(500,some ⟨79,(inssV c).map .val,Nat.blt 0 c.length⟩)] (hIns) O O (by exact trivial) O O O O O (by exact (.box O (bW _ _ _ _) .nil)) dM<|aZ (zs:=[.slice none 0 0]) (sz:=1) (e:=52) (cs':=[.slc 500 0 c.length 6]) (by kernel_rfl) O O O O O O dM<|K.appendNil (by_:=24) (e:=52) (e2:=52) (l2:=[.slc 500 0 c.length 6]) O O O (dI _) O O (by decide) (by kernel_rfl) (by kernel_rfl) (by omega) (by omega) O dM ?_;refine kfa O O ?_;refine bG O O O O O (nl3 O O O O) dM<|aB<|rgA ?_;refine rgN<|kmv O<|kad O O hadd<|kas O<|aB ?_)
      refine cA (σ':=⟨[(1,Lp 1),(2,Lp 2),(3,Lp 3),(4,Ln .i64 (0:Nat)),(5,Lp 5),(6,Ln .i64 (0+1:Nat))],[(601,some ⟨52,vs.map .val ++ .slc 500 0 c.length 6::([]:List Value).map .val,true⟩),(500,some ⟨79,(inssV c).map .val,Nat.blt 0 c.length⟩),(5,some ⟨38,[.val (.int .i64 r.nw),.val (.int .i64 r.old),.slc 601 0 (0+1) 1],false⟩),v3B 41 3 va vb none 0 0,v3B 41 2 0 0 none 0 0,v3B 35 1 va vb (some ⟨blk,off,none⟩) 1 cap],joinM X H⟩) ?_ ?_
      · rw [show vs=[] from List.eq_nil_of_length_eq_zero (by omega)]
        exact Le.ofR [(601,56)] (by exact ⟨rfl,rfl,rfl,rfl,rfl,rfl,trivial⟩) (by repeat' (first|exact trivial|refine cL ⟨_,rfl,?_⟩ ?_|refine cL ⟨_,rfl⟩ ?_|rfl|exact bV _ _ _ _|exact bW _ _ _ _|exact bX rfl)) (by exact rfl) (by exact rfl) (by repeat' (first|refine bR ?_ ?_|rfl|exact bT|exact bS|exact bU rfl)) (by exact rfl) (by exact rfl)
      refine Leads.closeCell hO (by have:=inssV_len c;rw [cR] at this;exact this) rfl bS rfl (by repeat' (first|refine bR ?_ ?_|rfl|exact bS)) rfl rfl fun b o v g1 _ hO3 hv=>bZ ⟨r.ex.length-(0+1),by omega,0+1,vs++[v],withBlock H b o,by omega,rfl,hO3,?_,.inr ⟨by omega,?_⟩⟩
      · rw [take_snoc hc]
        exact (GF.mono (cE g1)).push (ins_leads hv hI.small)
      · rw [dC]
        rfl
  · as_aux_lemma =>
      by_cases hkl:k<r.ex.length
      case neg =>
        have hke:k=r.ex.length:=by omega
        subst hke
        rw [cZ] at GF
        have hadd:IntKind.i64.wrap (((0:Nat):Int)+1)=((1:Nat):Int):=rfl
        (refine aA<|aA<|rgN<|kmv O<|kfa O O ?_;refine kl1 O O O<|kmv O<|aR O O bY (by omega) hio dM<|bH O O dM ?_;refine aW O hXJ O g3 dM<|aQ O bY O dM ?_;refine klt O O (cJ (by omega))<|aB<|aF O ?_;refine aJ<|rgN<|kfa O O ?_;refine kl1 O O O<|aK O O O dM ?_;refine aZ (zs:=[.int .i64 0,.int .i64 0,.slice none 0 0]) (sz:=3) (e:=38) (cs':=[.val (.int .i64 r.nw),.val (.int .i64 r.old),.slc 601 0 r.ex.length 1]) (by kernel_rfl) O O O O O O dM<|K.appendNil (by_:=40) (e:=38) (e2:=38) (l2:=[.val (.int .i64 r.nw),.val (.int .i64 r.old),.slc 601 0 r.ex.length 1]) O O O (dI _) O O (by decide) (by kernel_rfl) (by kernel_rfl) (by omega) (by omega) O dM ?_;refine kfa O O ?_;refine bG O O O O O (nl3 O O O O) dM<|aB<|rgN<|kmv O<|kad O O hadd<|kas O<|aB ?_)
        exact cA (σ':=⟨[(1,Lp 1),(2,Lp 2),(3,Lp 3),(4,Ln .i64 (1:Nat))],[(600,some ⟨38,[.val (.int .i64 r.nw),.val (.int .i64 r.old),.slc 601 0 r.ex.length 1],true⟩),(601,some ⟨52,vs.map .val,true⟩),(3,some ⟨41,[.val (.int .i64 va),.val (.int .i64 vb),.slc 600 0 (1) 3],false⟩),v3B 41 2 0 0 none 0 0,v3B 35 1 va vb (some ⟨blk,off,none⟩) 1 cap],joinM X H⟩) (Le.ofR [(600,62)] (by exact ⟨rfl,rfl,rfl,rfl,trivial⟩) (by repeat' (first|exact trivial|refine cL ⟨_,rfl,?_⟩ ?_|refine cL ⟨_,rfl⟩ ?_|rfl|exact bV _ _ _ _|exact bW _ _ _ _|exact bX rfl)) (by exact rfl) (by exact rfl) (by repeat' (first|refine bR ?_ ?_|rfl|exact bT|exact bS|exact bU rfl)) (by exact rfl) (by exact rfl)) (bZ ⟨0,by omega,.inr ⟨rfl,vs,H,hO,GF,.inr ⟨by omega,rfl⟩⟩⟩)
      obtain ⟨c,hc⟩:∃ c,r.ex[k]? = some c:=⟨_,cS hkl⟩
      obtain ⟨eb,eo,earr,eel,efr,vad,vcap,rfl,hEX,hec,hI⟩:=hE.get hc
      have hEJ:=joinM_has hO hEX
      have hio3:eo+Int.toNat (k:Int)*1=eo+k*1:=by simp
      have h80:=h12.2 c (cX hc)
      have hvk:=GF.len
      rw [cU] at hvk
      have hvl:(vs.map CV.val).length=k*1:=by rw [cR];omega
      have hadd:IntKind.i64.wrap ((k:Int)+1)=((k+1:Nat):Int):=by rw [cD (by omega)];omega
      have hIns:=ins13_spec (joinM X H) c vad vcap (hI.mono (fun b o h=>joinM_has hO h)) (by omega)
      (refine aA<|aA<|rgN<|kmv O<|kfa O O ?_;refine kl1 O O O<|kmv O<|aR O O bY (by omega) hio dM<|bH O O dM ?_;refine aW O hXJ O g3 dM<|aQ O bY O dM ?_;refine klt O O (cK (by omega))<|aB<|aE O ?_;refine aH ?_;refine aA<|aG<|rgD mixed<|kfa O O ?_;refine kl1 O O O<|kfa O O ?_;refine kl1 O O O<|kmv O<|aR O O bY (by omega) hio dM<|bH O O dM ?_;refine aW O hXJ O g3 dM<|kmv O<|aR O O bY (by omega) hio3 dM<|aW O hEJ O hec dM<|bE [(1000001,500)] (.sv (.one (.slc 500 0 c.length 6))) [(500,some ⟨79,(inssV c).map .val,Nat.blt 0 c.length⟩)] (hIns) O O (by exact trivial) O O O O O (by exact (.box O (bW _ _ _ _) .nil)) dM<|aZ (zs:=[.slice none 0 0]) (sz:=1) (e:=52) (cs':=[.slc 500 0 c.length 6]) (by kernel_rfl) O O O O O O dM<|bO (by_:=24) (e2:=52) (l2:=[.slc 500 0 c.length 6]) (nl:=k+1) (nc:=vs.map .val++[.slc 500 0 c.length 6]) O O hvl O O (dI _) O O (by kernel_rfl) (by kernel_rfl) (by omega) (by omega) O O O dM<|kfa O O ?_;refine bG O O O O O (nl3 O O O O) dM<|aB<|rgA ?_;refine rgN<|kmv O<|kad O O hadd<|kas O<|aB ?_)
      refine cA (σ':=⟨[(1,Lp 1),(2,Lp 2),(3,Lp 3),(4,Ln .i64 (0:Nat)),(5,Lp 5),(6,Ln .i64 (k+1:Nat))],[(601,some ⟨52,vs.map .val ++ .slc 500 0 c.length 6::([]:List Value).map .val,true⟩),(500,some ⟨79,(inssV c).map .val,Nat.blt 0 c.length⟩),(5,some ⟨38,[.val (.int .i64 r.nw),.val (.int .i64 r.old),.slc 601 0 (k+1) 1],false⟩),v3B 41 3 va vb none 0 0,v3B 41 2 0 0 none 0 0,v3B 35 1 va vb (some ⟨blk,off,none⟩) 1 cap],joinM X H⟩) ?_ ?_
      · exact Le.ofR [(601,56)] (by exact ⟨rfl,rfl,rfl,rfl,rfl,rfl,trivial⟩) (by repeat' (first|exact trivial|refine cL ⟨_,rfl,?_⟩ ?_|refine cL ⟨_,rfl⟩ ?_|rfl|exact bV _ _ _ _|exact bW _ _ _ _|exact bX rfl)) (by exact rfl) (by exact rfl) (by repeat' (first|refine bR ?_ ?_|rfl|exact bT|exact bS|exact bU rfl)) (by exact rfl) (by exact rfl)
      refine Leads.closeCell hO (by have:=inssV_len c;rw [cR] at this;exact this) rfl bS rfl (by repeat' (first|refine bR ?_ ?_|rfl|exact bS)) rfl rfl fun b o v g1 _ hO3 hv=>bZ ⟨r.ex.length-(k+1),by omega,k+1,vs++[v],withBlock H b o,by omega,rfl,hO3,?_,.inr ⟨by omega,?_⟩⟩
      · rw [take_snoc hc]
        exact (GF.mono (cE g1)).push (ins_leads hv hI.small)
      · rw [dC]
        rfl
set_option maxHeartbeats 25600000 in
theorem form13_u1 (va vb:Int) (r:Rl) (ad:Option Addr) (cap:Nat) (hin:RulesIn X ad [r]) (h12:r.ex.length≤12∧∀ c∈r.ex,c.length≤80) (h0:0<r.ex.length):
    MSpec Tryz.prog X 8 [LPg va vb ad 1 cap] [] (.sv (.agg [.val (.int .i64 va),.val (.int .i64 vb),.slc 1000001 0 1 3])) [(1000001,some ⟨38,[.val (.int .i64 r.nw),.val (.int .i64 r.old),.slc 1000002 0 r.ex.length 1],true⟩),(1000002,some ⟨0,[],.res (cdR 52 r.ex)⟩)]:=by
  refine cC Tryz.func8 rfl (by kernel_rfl) rfl (by exact (by repeat' (first|refine bR ?_ ?_|rfl|exact bT|exact bS|exact bU rfl))) (by exact (by repeat' (first|refine bR ?_ ?_|rfl|exact bT|exact bS|exact bU rfl))) rfl rfl ?_
  intro C
  refine LWP.ends ?_
  obtain ⟨blk,off,arr,el,fr,ead,ecap,rfl,hX,hsiz,hcs,g1,g2,g3,hE⟩:=hin.get (i:=0) (r:=r) rfl
  have hio:off+Int.toNat 0*3=off+0*3:=by simp
  (refine aA<|rgN<|aL O O O dM<|aP O dM ?_;refine aB<|aA<|rgN<|kfa O O ?_;refine kl1 O O O<|kfa O O ?_;refine kl1 O O O<|aT O O (by exact O) (by exact nl3 O O O O) dM ?_;refine aP O dM ?_;refine aM O O O O O O dM ?_;refine aB<|aA<|aA<|rgN<|kas O<|aB<|aG ?_)
  refine cG (fun m σ=>(m=1∧σ=⟨[(1,Lp 1),(2,Lp 2),(3,Lp 3),(4,Ln .i64 (0:Nat))],[v3B 41 3 va vb none 0 0,v3B 41 2 0 0 none 0 0,v3B 35 1 va vb (some ⟨blk,off,none⟩) 1 cap],X⟩)∨(m=0∧∃ (vs:List Value) (H:Nat→Option Obj),OwnedM C X H∧FormsH H vs r.ex∧((r.ex.length=0∧H=(fun _=>none)∧σ=⟨[(1,Lp 1),(2,Lp 2),(3,Lp 3),(4,Ln .i64 (1:Nat))],[(600,some ⟨38,[.val (.int .i64 r.nw),.val (.int .i64 r.old),.val (.slice none 0 0)],true⟩),(3,some ⟨41,[.val (.int .i64 va),.val (.int .i64 vb),.slc 600 0 (1) 3],false⟩),v3B 41 2 0 0 none 0 0,v3B 35 1 va vb (some ⟨blk,off,none⟩) 1 cap],joinM X H⟩)∨(0<r.ex.length∧σ=⟨[(1,Lp 1),(2,Lp 2),(3,Lp 3),(4,Ln .i64 (1:Nat))],[(600,some ⟨38,[.val (.int .i64 r.nw),.val (.int .i64 r.old),.slc 601 0 r.ex.length 1],true⟩),(601,some ⟨52,vs.map .val,true⟩),(3,some ⟨41,[.val (.int .i64 va),.val (.int .i64 vb),.slc 600 0 (1) 3],false⟩),v3B 41 2 0 0 none 0 0,v3B 35 1 va vb (some ⟨blk,off,none⟩) 1 cap],joinM X H⟩)))) 1
    (cA (σ':=⟨[(1,Lp 1),(2,Lp 2),(3,Lp 3),(4,Ln .i64 (0:Nat))],[v3B 41 3 va vb none 0 0,v3B 41 2 0 0 none 0 0,v3B 35 1 va vb (some ⟨blk,off,none⟩) 1 cap],X⟩) (Le.of (by exact ⟨rfl,rfl,rfl,rfl,trivial⟩) (by exact ⟨rfl,rfl,rfl,trivial⟩) (by exact rfl) (by exact rfl) (by repeat' (first|refine bR ?_ ?_|rfl|exact bT|exact bS|exact bU rfl))) (bZ (.inl ⟨rfl,rfl⟩))) ?_
  rintro m σ (⟨rfl,rfl⟩|⟨rfl,vs,H,hO,GF,hst⟩)
  case inr =>
    rcases hst with ⟨hbad,_⟩|⟨_,rfl⟩
    case inl=>exact absurd h0 (by omega)
    (refine aA<|aA<|rgN<|kmv O<|kfa O O ?_;refine kl1 O O O<|aQ O bY O dM ?_;refine klt O O (r:=false) O<|aB<|aF O ?_;refine aJ<|aA<|rgN<|aK O O O dM ?_;refine aM O O O O O O dM ?_;refine aB<|aI ?_)
    refine cA (σ':=⟨[(2,Lp 2)],[(601,some ⟨52,vs.map .val,true⟩),(600,some ⟨38,[.val (.int .i64 r.nw),.val (.int .i64 r.old),.slc 601 0 r.ex.length 1],true⟩),(2,some ⟨41,[.val (.int .i64 va),.val (.int .i64 vb),.slc 600 0 1 3],false⟩)],joinM X H⟩) (Le.of (by exact ⟨O,trivial⟩) (by exact ⟨O,O,O,trivial⟩) (by exact O) (by exact O) (by repeat' (first|refine bR ?_ ?_|rfl|exact bT|exact bS|exact bU O))) ?_
    refine Leads.spare fun sp=>cd_shut2 (sp:=sp) hO GF (bZ ?_)
    exact ⟨[(1000001,600),(1000002,601)],⟨[_],⟨⟨_,_,rfl,rfl,rfl,.inl ⟨AggT.h,rfl⟩⟩,trivial⟩,rfl⟩,(by repeat' (first|exact trivial|refine cL ⟨_,rfl,?_⟩ ?_|refine cL ⟨_,rfl⟩ ?_|rfl|exact bV _ _ _ _|exact bW _ _ _ _|exact bX rfl)),rfl,rfl⟩
  (refine aA<|aA<|rgN<|kmv O<|kfa O O ?_;refine kl1 O O O<|aQ O bY O dM ?_;refine klt O O (r:=true) O<|aB<|aE O ?_;refine aH ?_;refine aA<|aG<|aA<|rgD mixed<|kfa O O ?_;refine kl1 O O O<|kmv O<|aR O O bY (by omega) hio dM<|bH O O dM ?_;refine aW O hX O g1 dM<|kfa O O ?_;refine kl1 O O O<|kmv O<|aR O O bY (by omega) hio dM<|bH O O dM ?_;refine aW O hX O g2 dM<|aT O O (by exact O) (by exact nl3 O O O O) dM ?_;refine aP O dM ?_;refine aM O O O O O O dM ?_;refine aB<|rgA ?_;refine aA<|aA<|rgN<|kas O<|aB<|aG ?_)
  refine cG (fun m σ=>∃ (k:Nat) (vs:List Value) (H:Nat→Option Obj),k≤r.ex.length∧m=r.ex.length-k∧OwnedM C X H∧FormsH H vs (r.ex.take k)∧((k=0∧H=(fun _=>none)∧σ=⟨[(1,Lp 1),(2,Lp 2),(3,Lp 3),(4,Ln .i64 (0:Nat)),(5,Lp 5),(6,Ln .i64 (k:Nat))],[v3B 38 5 r.nw r.old none 0 0,v3B 41 3 va vb none 0 0,v3B 41 2 0 0 none 0 0,v3B 35 1 va vb (some ⟨blk,off,none⟩) 1 cap],joinM X H⟩)∨(0<k∧σ=⟨[(1,Lp 1),(2,Lp 2),(3,Lp 3),(4,Ln .i64 (0:Nat)),(5,Lp 5),(6,Ln .i64 (k:Nat))],[(601,some ⟨52,(vs).map .val,true⟩),(5,some ⟨38,[.val (.int .i64 r.nw),.val (.int .i64 r.old),.slc 601 0 (k) 1],false⟩),v3B 41 3 va vb none 0 0,v3B 41 2 0 0 none 0 0,v3B 35 1 va vb (some ⟨blk,off,none⟩) 1 cap],joinM X H⟩))) r.ex.length
    (cA (σ':=⟨[(1,Lp 1),(2,Lp 2),(3,Lp 3),(4,Ln .i64 (0:Nat)),(5,Lp 5),(6,Ln .i64 (0:Nat))],[v3B 38 5 r.nw r.old none 0 0,v3B 41 3 va vb none 0 0,v3B 41 2 0 0 none 0 0,v3B 35 1 va vb (some ⟨blk,off,none⟩) 1 cap],X⟩) (Le.of (by exact ⟨rfl,rfl,rfl,rfl,rfl,rfl,trivial⟩) (by exact ⟨rfl,rfl,rfl,rfl,trivial⟩) (by exact rfl) (by exact rfl) (by repeat' (first|refine bR ?_ ?_|rfl|exact bT|exact bS|exact bU rfl))) (bZ ⟨0,[],fun _=>none,by omega,by omega,OwnedM.nil C X,FormsH.nil,.inl ⟨rfl,rfl,by rw [joinM_nil]⟩⟩)) ?_
  rintro m σ ⟨k,vs,H,hk,rfl,hO,GF,hst⟩
  have hXJ:=joinM_has hO hX
  rcases hst with ⟨hk0,hH,rfl⟩|⟨hk0,rfl⟩
  · as_aux_lemma =>
      by_cases hkl:k<r.ex.length
      case neg =>
        have hke:k=r.ex.length:=by omega
        subst hke
        rw [cZ] at GF
        have hadd:IntKind.i64.wrap (((0:Nat):Int)+1)=((1:Nat):Int):=rfl
        (refine aA<|aA<|rgN<|kmv O<|kfa O O ?_;refine kl1 O O O<|kmv O<|aR O O bY (by omega) hio dM<|bH O O dM ?_;refine aW O hXJ O g3 dM<|aQ O bY O dM ?_;refine klt O O (cJ (by omega))<|aB<|aF O ?_;refine aJ<|rgN<|kfa O O ?_;refine kl1 O O O<|aK O O O dM ?_;refine aZ (zs:=[.int .i64 0,.int .i64 0,.slice none 0 0]) (sz:=3) (e:=38) (cs':=[.val (.int .i64 r.nw),.val (.int .i64 r.old),.val (.slice none 0 0)]) (by kernel_rfl) O O O O O O dM<|K.appendNil (by_:=40) (e:=38) (e2:=38) (l2:=[.val (.int .i64 r.nw),.val (.int .i64 r.old),.val (.slice none 0 0)]) O O O (dI _) O O (by decide) (by kernel_rfl) (by kernel_rfl) (by omega) (by omega) O dM ?_;refine kfa O O ?_;refine bG O O O O O (nl3 O O O O) dM<|aB<|rgN<|kmv O<|kad O O hadd<|kas O<|aB ?_)
        exact cA (σ':=⟨[(1,Lp 1),(2,Lp 2),(3,Lp 3),(4,Ln .i64 (1:Nat))],[(600,some ⟨38,[.val (.int .i64 r.nw),.val (.int .i64 r.old),.val (.slice none 0 0)],true⟩),(3,some ⟨41,[.val (.int .i64 va),.val (.int .i64 vb),.slc 600 0 (1) 3],false⟩),v3B 41 2 0 0 none 0 0,v3B 35 1 va vb (some ⟨blk,off,none⟩) 1 cap],joinM X H⟩) (Le.ofR [(600,62)] (by exact ⟨rfl,rfl,rfl,rfl,trivial⟩) (by repeat' (first|exact trivial|refine cL ⟨_,rfl,?_⟩ ?_|refine cL ⟨_,rfl⟩ ?_|rfl|exact bV _ _ _ _|exact bW _ _ _ _|exact bX rfl)) (by exact rfl) (by exact rfl) (by repeat' (first|refine bR ?_ ?_|rfl|exact bT|exact bS|exact bU rfl)) (by exact rfl) (by exact rfl)) (bZ ⟨0,by omega,.inr ⟨rfl,vs,H,hO,GF,.inl ⟨by omega,hH,rfl⟩⟩⟩)
      obtain ⟨c,hc⟩:∃ c,r.ex[k]? = some c:=⟨_,cS hkl⟩
      obtain ⟨eb,eo,earr,eel,efr,vad,vcap,rfl,hEX,hec,hI⟩:=hE.get hc
      have hEJ:=joinM_has hO hEX
      have hio3:eo+Int.toNat (k:Int)*1=eo+k*1:=by simp
      have h80:=h12.2 c (cX hc)
      have hvk:=GF.len
      rw [cU] at hvk
      have hvl:(vs.map CV.val).length=k*1:=by rw [cR];omega
      subst hk0
      have hadd:IntKind.i64.wrap (((0:Nat):Int)+1)=((0+1:Nat):Int):=rfl
      have hIns:=ins13_spec (joinM X H) c vad vcap (hI.mono (fun b o h=>joinM_has hO h)) (by omega)
      (refine aA<|aA<|rgN<|kmv O<|kfa O O ?_;refine kl1 O O O<|kmv O<|aR O O bY (by omega) hio dM<|bH O O dM ?_;refine aW O hXJ O g3 dM<|aQ O bY O dM ?_;refine klt O O (cK (by omega))<|aB<|aE O ?_;refine aH ?_;refine aA<|aG<|rgD mixed<|kfa O O ?_;refine kl1 O O O<|kfa O O ?_;refine kl1 O O O<|kmv O<|aR O O bY (by omega) hio dM<|bH O O dM ?_;refine aW O hXJ O g3 dM<|kmv O<|aR O O bY (by omega) hio3 dM<|aW O hEJ O hec dM<|bE [(1000001,500)] (.sv (.one (.slc 500 0 c.length 6))) [(500,some ⟨79,(inssV c).map .val,Nat.blt 0 c.length⟩)] (hIns) O O (by exact trivial) O O O O O (by exact (.box O (bW _ _ _ _) .nil)) dM<|aZ (zs:=[.slice none 0 0]) (sz:=1) (e:=52) (cs':=[.slc 500 0 c.length 6]) (by kernel_rfl) O O O O O O dM<|K.appendNil (by_:=24) (e:=52) (e2:=52) (l2:=[.slc 500 0 c.length 6]) O O O (dI _) O O (by decide) (by kernel_rfl) (by kernel_rfl) (by omega) (by omega) O dM ?_;refine kfa O O ?_;refine bG O O O O O (nl3 O O O O) dM<|aB<|rgA ?_;refine rgN<|kmv O<|kad O O hadd<|kas O<|aB ?_)
      refine cA (σ':=⟨[(1,Lp 1),(2,Lp 2),(3,Lp 3),(4,Ln .i64 (0:Nat)),(5,Lp 5),(6,Ln .i64 (0+1:Nat))],[(601,some ⟨52,vs.map .val ++ .slc 500 0 c.length 6::([]:List Value).map .val,true⟩),(500,some ⟨79,(inssV c).map .val,Nat.blt 0 c.length⟩),(5,some ⟨38,[.val (.int .i64 r.nw),.val (.int .i64 r.old),.slc 601 0 (0+1) 1],false⟩),v3B 41 3 va vb none 0 0,v3B 41 2 0 0 none 0 0,v3B 35 1 va vb (some ⟨blk,off,none⟩) 1 cap],joinM X H⟩) ?_ ?_
      · rw [show vs=[] from List.eq_nil_of_length_eq_zero (by omega)]
        exact Le.ofR [(601,56)] (by exact ⟨rfl,rfl,rfl,rfl,rfl,rfl,trivial⟩) (by repeat' (first|exact trivial|refine cL ⟨_,rfl,?_⟩ ?_|refine cL ⟨_,rfl⟩ ?_|rfl|exact bV _ _ _ _|exact bW _ _ _ _|exact bX rfl)) (by exact rfl) (by exact rfl) (by repeat' (first|refine bR ?_ ?_|rfl|exact bT|exact bS|exact bU rfl)) (by exact rfl) (by exact rfl)
      refine Leads.closeCell hO (by have:=inssV_len c;rw [cR] at this;exact this) rfl bS rfl (by repeat' (first|refine bR ?_ ?_|rfl|exact bS)) rfl rfl fun b o v g1 _ hO3 hv=>bZ ⟨r.ex.length-(0+1),by omega,0+1,vs++[v],withBlock H b o,by omega,rfl,hO3,?_,.inr ⟨by omega,?_⟩⟩
      · rw [take_snoc hc]
        exact (GF.mono (cE g1)).push (ins_leads hv hI.small)
      · rw [dC]
        rfl
  · as_aux_lemma =>
      by_cases hkl:k<r.ex.length
      case neg =>
        have hke:k=r.ex.length:=by omega
        subst hke
        rw [cZ] at GF
        have hadd:IntKind.i64.wrap (((0:Nat):Int)+1)=((1:Nat):Int):=rfl
        (refine aA<|aA<|rgN<|kmv O<|kfa O O ?_;refine kl1 O O O<|kmv O<|aR O O bY (by omega) hio dM<|bH O O dM ?_;refine aW O hXJ O g3 dM<|aQ O bY O dM ?_;refine klt O O (cJ (by omega))<|aB<|aF O ?_;refine aJ<|rgN<|kfa O O ?_;refine kl1 O O O<|aK O O O dM ?_;refine aZ (zs:=[.int .i64 0,.int .i64 0,.slice none 0 0]) (sz:=3) (e:=38) (cs':=[.val (.int .i64 r.nw),.val (.int .i64 r.old),.slc 601 0 r.ex.length 1]) (by kernel_rfl) O O O O O O dM<|K.appendNil (by_:=40) (e:=38) (e2:=38) (l2:=[.val (.int .i64 r.nw),.val (.int .i64 r.old),.slc 601 0 r.ex.length 1]) O O O (dI _) O O (by decide) (by kernel_rfl) (by kernel_rfl) (by omega) (by omega) O dM ?_;refine kfa O O ?_;refine bG O O O O O (nl3 O O O O) dM<|aB<|rgN<|kmv O<|kad O O hadd<|kas O<|aB ?_)
        exact cA (σ':=⟨[(1,Lp 1),(2,Lp 2),(3,Lp 3),(4,Ln .i64 (1:Nat))],[(600,some ⟨38,[.val (.int .i64 r.nw),.val (.int .i64 r.old),.slc 601 0 r.ex.length 1],true⟩),(601,some ⟨52,vs.map .val,true⟩),(3,some ⟨41,[.val (.int .i64 va),.val (.int .i64 vb),.slc 600 0 (1) 3],false⟩),v3B 41 2 0 0 none 0 0,v3B 35 1 va vb (some ⟨blk,off,none⟩) 1 cap],joinM X H⟩) (Le.ofR [(600,62)] (by exact ⟨rfl,rfl,rfl,rfl,trivial⟩) (by repeat' (first|exact trivial|refine cL ⟨_,rfl,?_⟩ ?_|refine cL ⟨_,rfl⟩ ?_|rfl|exact bV _ _ _ _|exact bW _ _ _ _|exact bX rfl)) (by exact rfl) (by exact rfl) (by repeat' (first|refine bR ?_ ?_|rfl|exact bT|exact bS|exact bU rfl)) (by exact rfl) (by exact rfl)) (bZ ⟨0,by omega,.inr ⟨rfl,vs,H,hO,GF,.inr ⟨by omega,rfl⟩⟩⟩)
      obtain ⟨c,hc⟩:∃ c,r.ex[k]? = some c:=⟨_,cS hkl⟩
      obtain ⟨eb,eo,earr,eel,efr,vad,vcap,rfl,hEX,hec,hI⟩:=hE.get hc
      have hEJ:=joinM_has hO hEX
      have hio3:eo+Int.toNat (k:Int)*1=eo+k*1:=by simp
      have h80:=h12.2 c (cX hc)
      have hvk:=GF.len
      rw [cU] at hvk
      have hvl:(vs.map CV.val).length=k*1:=by rw [cR];omega
      have hadd:IntKind.i64.wrap ((k:Int)+1)=((k+1:Nat):Int):=by rw [cD (by omega)];omega
      have hIns:=ins13_spec (joinM X H) c vad vcap (hI.mono (fun b o h=>joinM_has hO h)) (by omega)
      (refine aA<|aA<|rgN<|kmv O<|kfa O O ?_;refine kl1 O O O<|kmv O<|aR O O bY (by omega) hio dM<|bH O O dM ?_;refine aW O hXJ O g3 dM<|aQ O bY O dM ?_;refine klt O O (cK (by omega))<|aB<|aE O ?_;refine aH ?_;refine aA<|aG<|rgD mixed<|kfa O O ?_;refine kl1 O O O<|kfa O O ?_;refine kl1 O O O<|kmv O<|aR O O bY (by omega) hio dM<|bH O O dM ?_;refine aW O hXJ O g3 dM<|kmv O<|aR O O bY (by omega) hio3 dM<|aW O hEJ O hec dM<|bE [(1000001,500)] (.sv (.one (.slc 500 0 c.length 6))) [(500,some ⟨79,(inssV c).map .val,Nat.blt 0 c.length⟩)] (hIns) O O (by exact trivial) O O O O O (by exact (.box O (bW _ _ _ _) .nil)) dM<|aZ (zs:=[.slice none 0 0]) (sz:=1) (e:=52) (cs':=[.slc 500 0 c.length 6]) (by kernel_rfl) O O O O O O dM<|bO (by_:=24) (e2:=52) (l2:=[.slc 500 0 c.length 6]) (nl:=k+1) (nc:=vs.map .val++[.slc 500 0 c.length 6]) O O hvl O O (dI _) O O (by kernel_rfl) (by kernel_rfl) (by omega) (by omega) O O O dM<|kfa O O ?_;refine bG O O O O O (nl3 O O O O) dM<|aB<|rgA ?_;refine rgN<|kmv O<|kad O O hadd<|kas O<|aB ?_)
      refine cA (σ':=⟨[(1,Lp 1),(2,Lp 2),(3,Lp 3),(4,Ln .i64 (0:Nat)),(5,Lp 5),(6,Ln .i64 (k+1:Nat))],[(601,some ⟨52,vs.map .val ++ .slc 500 0 c.length 6::([]:List Value).map .val,true⟩),(500,some ⟨79,(inssV c).map .val,Nat.blt 0 c.length⟩),(5,some ⟨38,[.val (.int .i64 r.nw),.val (.int .i64 r.old),.slc 601 0 (k+1) 1],false⟩),v3B 41 3 va vb none 0 0,v3B 41 2 0 0 none 0 0,v3B 35 1 va vb (some ⟨blk,off,none⟩) 1 cap],joinM X H⟩) ?_ ?_
      · exact Le.ofR [(601,56)] (by exact ⟨rfl,rfl,rfl,rfl,rfl,rfl,trivial⟩) (by repeat' (first|exact trivial|refine cL ⟨_,rfl,?_⟩ ?_|refine cL ⟨_,rfl⟩ ?_|rfl|exact bV _ _ _ _|exact bW _ _ _ _|exact bX rfl)) (by exact rfl) (by exact rfl) (by repeat' (first|refine bR ?_ ?_|rfl|exact bT|exact bS|exact bU rfl)) (by exact rfl) (by exact rfl)
      refine Leads.closeCell hO (by have:=inssV_len c;rw [cR] at this;exact this) rfl bS rfl (by repeat' (first|refine bR ?_ ?_|rfl|exact bS)) rfl rfl fun b o v g1 _ hO3 hv=>bZ ⟨r.ex.length-(k+1),by omega,k+1,vs++[v],withBlock H b o,by omega,rfl,hO3,?_,.inr ⟨by omega,?_⟩⟩
      · rw [take_snoc hc]
        exact (GF.mono (cE g1)).push (ins_leads hv hI.small)
      · rw [dC]
        rfl
end Go.Proofs.YtnfbccfghgmfiaaGreat
end
section
namespace Go.Proofs.YtnfbccfghgmfiaaGreat
open Go Go.Lg Go.Lg.Fml Go.Lg.Fld Go.Lg.Arith
set_option maxRecDepth 100000
variable (X:Nat→Option Obj)
theorem great13_lent {S:Nat→Option (Option Box)} {a b:Cp} {r:Rl} {aad bad ead:Option Addr} {acap bcap ecap k1 k2 k3:Nat} {z row1 row2 row3:Bool} {e1 e2 e3:TypeId} (hA:FieldsIn X aad a.fs) (hB:FieldsIn X bad b.fs) (hE:CodesIn X ead r.ex) (ia : -9223372036854775808≤a.id∧a.id<9223372036854775808) (ib : -9223372036854775808≤b.id∧b.id<9223372036854775808) (hs:smallR r)
    (ha:a.fs.length<9223372036854775808) (hb:b.fs.length<9223372036854775808) (he:r.ex.length<9223372036854775808) (hc:∀ c∈r.ex,c.length<9223372036854775808) (hz:grt13 [a] [b] [r]=z)
    (hk1:S k1=some (some ⟨e1,[.val (.int .i64 a.id),.val (.string ⟨a.nm.toArray⟩),.val (.slice aad a.fs.length acap)],row1⟩)) (hk2:S k2=some (some ⟨e2,[.val (.int .i64 b.id),.val (.string ⟨b.nm.toArray⟩),.val (.slice bad b.fs.length bcap)],row2⟩)) (hk3:S k3=some (some ⟨e3,[.val (.int .i64 r.nw),.val (.int .i64 r.old),.val (.slice ead r.ex.length ecap)],row3⟩)):
    ∀ (Y:Nat→Option Obj) (us:List Value),(∀ b o,X b=some o→Y b=some o)→LentLs S Y [.sv (.agg [.val (.int .i64 0),.slc k1 0 1 3]),.sv (.agg [.val (.int .i64 0),.slc k2 0 1 3]),.sv (.agg [.val (.int .i64 0),.val (.int .i64 0),.slc k3 0 1 3])] us→PSpec Tryz.prog Y 7 (us.map toLV) (Lb z):=by
  intro Y us hY hL
  obtain ⟨u1,us1,rfl,⟨av,rfl,a1,av1,rfl,g1,a2,av2,rfl,g2,rfl⟩,u2,us2,rfl,⟨bv,rfl,b1,bv1,rfl,f1,b2,bv2,rfl,f2,rfl⟩,u3,us3,rfl,⟨cv,rfl,c1,cv1,rfl,d1,c2,cv2,rfl,d2,c3,cv3,rfl,d3,rfl⟩,rfl⟩:=hL
  have g1:a1 = .int .i64 0:=g1
  have f1:b1 = .int .i64 0:=f1
  have d1:c1 = .int .i64 0:=d1
  have d2:c2 = .int .i64 0:=d2
  subst g1 f1 d1 d2
  obtain ⟨x1,blk1,cp1,m1,hq1,rfl,_,_,hB1⟩:=g2
  obtain ⟨x2,blk2,cp2,m2,hq2,rfl,_,_,hB2⟩:=f2
  obtain ⟨x3,blk3,cp3,m3,hq3,rfl,_,_,hB3⟩:=d3
  rw [hk1] at hq1
  rw [hk2] at hq2
  rw [hk3] at hq3
  simp only [Option.some.injEq] at hq1 hq2 hq3
  subst hq1 hq2 hq3
  obtain ⟨arr1,fr1,us1',sp1,hY1,_,harr1,hv1⟩:=hB1
  obtain ⟨arr2,fr2,us2',sp2,hY2,_,harr2,hv2⟩:=hB2
  obtain ⟨arr3,fr3,us3',sp3,hY3,_,harr3,hv3⟩:=hB3
  have:=hv1 [.int .i64 a.id,.string ⟨a.nm.toArray⟩,.slice aad a.fs.length acap] rfl
  subst this
  have:=hv2 [.int .i64 b.id,.string ⟨b.nm.toArray⟩,.slice bad b.fs.length bcap] rfl
  subst this
  have:=hv3 [.int .i64 r.nw,.int .i64 r.old,.slice ead r.ex.length ecap] rfl
  subst this
  have one:∀ {α:Type} {p:α→Prop} {x:α},p x→∀ y∈[x],p y:=fun h y hy=>by rw [List.mem_singleton.1 hy];exact h
  have q1:CompsIn Y (some ⟨blk1,0,none⟩) [a]:=comps_lit (cells:=[.slice aad a.fs.length acap]) hY1 harr1 rfl (one ia) fun i c v hc hvv=>by
    match i,hc,hvv with
    | 0,hc,hvv =>
      simp only [List.getElem?_cons_zero,Option.some.injEq] at hc hvv
      subst hc hvv
      exact ⟨aad,acap,O,hA.mono hY⟩
  have q2:CompsIn Y (some ⟨blk2,0,none⟩) [b]:=comps_lit (cells:=[.slice bad b.fs.length bcap]) hY2 harr2 rfl (one ib) fun i c v hc hvv=>by
    match i,hc,hvv with
    | 0,hc,hvv =>
      simp only [List.getElem?_cons_zero,Option.some.injEq] at hc hvv
      subst hc hvv
      exact ⟨bad,bcap,O,hB.mono hY⟩
  have q3:RulesIn Y (some ⟨blk3,0,none⟩) [r]:=rules_block (rs:=[r]) (ws:=[.slice ead r.ex.length ecap]) hY3 harr3 (RulesH.nil.push ⟨ead,ecap,rfl,hE.mono hY⟩) (one hs)
  exact great13_spec Y 0 0 0 0 _ _ _ cp1 cp2 cp3 [a] [b] [r] q1 q2 q3 (one ⟨he,hc⟩) (by show 1<_;decide) (by show 1<_;decide) (by show 1<_;decide) (one ha) (one hb) z hz
abbrev q13B (k:Nat) (q:Rl) (qd:Option Addr) (qc:Nat):Nat×Option Box:=(k,some ⟨27,[.val (.int .i64 q.nw),.val (.int .i64 q.old),.val (.slice qd q.ex.length qc)],false⟩)
theorem form13_l0 (r:Rl) (ead:Option Addr) (ecap:Nat) (hE:CodesIn X ead r.ex) (hs:smallR r) (h12:r.ex.length≤12∧∀ c∈r.ex,c.length≤80) (h0:r.ex.length=0):
    MSpec Tryz.prog X 8 [.sv (.agg [.val (.int .i64 0),.val (.int .i64 0),.slc 1000000 0 1 3])] [q13B 1000000 r ead ecap] (.sv (.agg [.val (.int .i64 0),.val (.int .i64 0),.slc 1000001 0 1 3])) ([q13B 1000000 r ead ecap]++[(1000001,some ⟨38,[.val (.int .i64 r.nw),.val (.int .i64 r.old),.val (.slice none 0 0)],true⟩)]):=by
  refine MSpec.lend (by kernel_rfl) O O O O O fun Y us hY hL => ?_
  obtain ⟨u1,us1,rfl,⟨av,rfl,a1,av1,rfl,g1,a2,av2,rfl,g2,a3,av3,rfl,g3,rfl⟩,rfl⟩:=hL
  have g1:a1 = .int .i64 0:=g1
  have g2:a2 = .int .i64 0:=g2
  subst g1 g2
  obtain ⟨b,blk,cap2,m,hk',rfl,hc,hfit,hB⟩:=g3
  have hk':some (some (⟨27,[.val (.int .i64 r.nw),.val (.int .i64 r.old),.val (.slice ead r.ex.length ecap)],false⟩:Box))=some (some b):=hk'
  simp only [Option.some.injEq] at hk'
  subst hk'
  obtain ⟨arr,fr,us',sp,hYb,hsz,harr,hv⟩:=hB
  have:=hv [.int .i64 r.nw,.int .i64 r.old,.slice ead r.ex.length ecap] rfl
  subst this
  have hin:RulesIn Y (some ⟨blk,0,none⟩) [r]:=rules_block (rs:=[r]) (ws:=[.slice ead r.ex.length ecap]) hYb harr (RulesH.nil.push ⟨ead,ecap,rfl,hE.mono hY⟩) (fun q hq=>by rw [List.mem_singleton.1 hq];exact hs)
  exact form13_u0 Y 0 0 r (some ⟨blk,0,none⟩) cap2 hin h12 h0
theorem form13_l1 (r:Rl) (ead:Option Addr) (ecap:Nat) (hE:CodesIn X ead r.ex) (hs:smallR r) (h12:r.ex.length≤12∧∀ c∈r.ex,c.length≤80) (h0:0<r.ex.length):
    MSpec Tryz.prog X 8 [.sv (.agg [.val (.int .i64 0),.val (.int .i64 0),.slc 1000000 0 1 3])] [q13B 1000000 r ead ecap] (.sv (.agg [.val (.int .i64 0),.val (.int .i64 0),.slc 1000001 0 1 3])) ([q13B 1000000 r ead ecap]++[(1000001,some ⟨38,[.val (.int .i64 r.nw),.val (.int .i64 r.old),.slc 1000002 0 r.ex.length 1],true⟩),(1000002,some ⟨0,[],.res (cdR 52 r.ex)⟩)]):=by
  refine MSpec.lend (by kernel_rfl) O O O O O fun Y us hY hL => ?_
  obtain ⟨u1,us1,rfl,⟨av,rfl,a1,av1,rfl,g1,a2,av2,rfl,g2,a3,av3,rfl,g3,rfl⟩,rfl⟩:=hL
  have g1:a1 = .int .i64 0:=g1
  have g2:a2 = .int .i64 0:=g2
  subst g1 g2
  obtain ⟨b,blk,cap2,m,hk',rfl,hc,hfit,hB⟩:=g3
  have hk':some (some (⟨27,[.val (.int .i64 r.nw),.val (.int .i64 r.old),.val (.slice ead r.ex.length ecap)],false⟩:Box))=some (some b):=hk'
  simp only [Option.some.injEq] at hk'
  subst hk'
  obtain ⟨arr,fr,us',sp,hYb,hsz,harr,hv⟩:=hB
  have:=hv [.int .i64 r.nw,.int .i64 r.old,.slice ead r.ex.length ecap] rfl
  subst this
  have hin:RulesIn Y (some ⟨blk,0,none⟩) [r]:=rules_block (rs:=[r]) (ws:=[.slice ead r.ex.length ecap]) hYb harr (RulesH.nil.push ⟨ead,ecap,rfl,hE.mono hY⟩) (fun q hq=>by rw [List.mem_singleton.1 hq];exact hs)
  exact form13_u1 Y 0 0 r (some ⟨blk,0,none⟩) cap2 hin h12 h0
set_option maxHeartbeats 12800000 in
theorem checkRules_law (a b:Cp) (r:Rl) (aad bad ead:Option Addr) (acap bcap ecap:Nat) (hA:FieldsIn X aad a.fs) (hB:FieldsIn X bad b.fs) (hE:CodesIn X ead r.ex) (ia : -9223372036854775808≤a.id∧a.id<9223372036854775808) (ib : -9223372036854775808≤b.id∧b.id<9223372036854775808) (hs:smallR r)
    (ha:a.fs.length<9223372036854775808) (hb:b.fs.length<9223372036854775808) (he:r.ex.length<9223372036854775808) (hc:∀ c∈r.ex,c.length<9223372036854775808):
    PSpec Tryz.prog X 3 [Cx a aad acap,Cx b bad bcap,.sv (.agg [.val (.int .i64 r.nw),.val (.int .i64 r.old),.val (.slice ead r.ex.length ecap)])] (Lb true):=by
  have hW:=awake13_spec X
  refine cB Tryz.func3 rfl (by kernel_rfl) rfl rfl ?_
  intro C
  cases hg:grt13 [a] [b] [r] with
  | true =>
    have hG:=fun (S:Nat→Option (Option Box)) (k1:S 13=some (some ⟨24,[.val (.int .i64 a.id),.val (.string ⟨a.nm.toArray⟩),.val (.slice aad a.fs.length acap)],false⟩)) (k2:S 16=some (some ⟨24,[.val (.int .i64 b.id),.val (.string ⟨b.nm.toArray⟩),.val (.slice bad b.fs.length bcap)],false⟩)) (k3:S 19=some (some ⟨27,[.val (.int .i64 r.nw),.val (.int .i64 r.old),.val (.slice ead r.ex.length ecap)],false⟩))=>great13_lent X (S:=S) hA hB hE ia ib hs ha hb he hc hg k1 k2 k3
    (refine aA<|rgN<|aL O O O dM<|aL O O O dM<|aL O O O dM<|kas O<|aB<|aA<|aA<|rgN<|kca O O (hW)<|aV O O dM<|aB<|aF O ?_;refine aH ?_;refine aA<|aA<|rgN<|aK O O O dM ?_;refine aZ (zs:=[.int .i64 0,.string ⟨#[]⟩,.slice none 0 0]) (sz:=3) (e:=24) (cs':=[.val (.int .i64 a.id),.val (.string ⟨a.nm.toArray⟩),.val (.slice aad a.fs.length acap)]) (by kernel_rfl) O O O O O O dM<|aT O O (by exact O) (by exact nl2 O O O) dM ?_;refine aK O O O dM ?_;refine aZ (zs:=[.int .i64 0,.string ⟨#[]⟩,.slice none 0 0]) (sz:=3) (e:=24) (cs':=[.val (.int .i64 b.id),.val (.string ⟨b.nm.toArray⟩),.val (.slice bad b.fs.length bcap)]) (by kernel_rfl) O O O O O O dM<|aT O O (by exact O) (by exact nl2 O O O) dM ?_;refine aK O O O dM ?_;refine aZ (zs:=[.int .i64 0,.int .i64 0,.slice none 0 0]) (sz:=3) (e:=27) (cs':=[.val (.int .i64 r.nw),.val (.int .i64 r.old),.val (.slice ead r.ex.length ecap)]) (by kernel_rfl) O O O O O O dM<|aT O O (by exact O) (by exact nl3 O O O O) dM ?_;refine K.callL [13,16,19] O O O (hG _ O O O) dM ?_;refine aB<|aE O ?_;refine aA<|rgN<|kas O<|aB<|aI ?_)
    exact ⟨[_],⟨O,trivial⟩,O⟩
  | false =>
  have hG:=fun (S:Nat→Option (Option Box)) (k1:S 13=some (some ⟨24,[.val (.int .i64 a.id),.val (.string ⟨a.nm.toArray⟩),.val (.slice aad a.fs.length acap)],false⟩)) (k2:S 16=some (some ⟨24,[.val (.int .i64 b.id),.val (.string ⟨b.nm.toArray⟩),.val (.slice bad b.fs.length bcap)],false⟩)) (k3:S 19=some (some ⟨27,[.val (.int .i64 r.nw),.val (.int .i64 r.old),.val (.slice ead r.ex.length ecap)],false⟩))=>great13_lent X (S:=S) hA hB hE ia ib hs ha hb he hc hg k1 k2 k3
  obtain ⟨o1,o2,o3⟩:=grt13_false hg
  have la:=o1.2 a (List.mem_singleton.2 rfl)
  have lb:=o2.2 b (List.mem_singleton.2 rfl)
  have lr:=o3.2 r (List.mem_singleton.2 rfl)
  (refine aA<|rgN<|aL O O O dM<|aL O O O dM<|aL O O O dM<|kas O<|aB<|aA<|aA<|rgN<|kca O O (hW)<|aV O O dM<|aB<|aF O ?_;refine aH ?_;refine aA<|aA<|rgN<|aK O O O dM ?_;refine aZ (zs:=[.int .i64 0,.string ⟨#[]⟩,.slice none 0 0]) (sz:=3) (e:=24) (cs':=[.val (.int .i64 a.id),.val (.string ⟨a.nm.toArray⟩),.val (.slice aad a.fs.length acap)]) (by kernel_rfl) O O O O O O dM<|aT O O (by exact O) (by exact nl2 O O O) dM ?_;refine aK O O O dM ?_;refine aZ (zs:=[.int .i64 0,.string ⟨#[]⟩,.slice none 0 0]) (sz:=3) (e:=24) (cs':=[.val (.int .i64 b.id),.val (.string ⟨b.nm.toArray⟩),.val (.slice bad b.fs.length bcap)]) (by kernel_rfl) O O O O O O dM<|aT O O (by exact O) (by exact nl2 O O O) dM ?_;refine aK O O O dM ?_;refine aZ (zs:=[.int .i64 0,.int .i64 0,.slice none 0 0]) (sz:=3) (e:=27) (cs':=[.val (.int .i64 r.nw),.val (.int .i64 r.old),.val (.slice ead r.ex.length ecap)]) (by kernel_rfl) O O O O O O dM<|aT O O (by exact O) (by exact nl3 O O O O) dM ?_;refine K.callL [13,16,19] O O O (hG _ O O O) dM ?_;refine aB<|aF O ?_;refine aH ?_;refine aA ?_)
  refine LWP.le (σ':=⟨[(3,Lp 3),(4,Lp 4),(5,Lp 5)],[v3B 27 5 r.nw r.old ead r.ex.length ecap,cpB 4 b bad bcap,cpB 3 a aad acap],X⟩) (Le.of (by exact ⟨O,O,O,trivial⟩) (by exact ⟨O,O,O,trivial⟩) (by exact O) (by exact O) (by repeat' (first|refine bR ?_ ?_|rfl|exact bT|exact bS|exact bU O))) ?_
  repeat refine aA ?_
  refine LWP.meetL (fun σ=>∃ (Y:Nat→Option Obj) (ud:Option Addr) (uc:Nat),(∀ b o,X b=some o→Y b=some o)∧CodesIn Y ud r.ex∧σ=⟨[(3,Lp 3),(4,Lp 4),(5,Lp 5),(7,Lp 7)],[v3B 38 7 r.nw r.old ud r.ex.length uc,v3B 27 5 r.nw r.old ead r.ex.length ecap,cpB 4 b bad bcap,cpB 3 a aad acap],Y⟩) ?_ ?_
  · by_cases h0:r.ex.length=0
    · have hF:=form13_l0 X r ead ecap hE hs lr h0
      (refine rgN<|aK O O O dM ?_;refine aZ (zs:=[.int .i64 0,.int .i64 0,.slice none 0 0]) (sz:=3) (e:=27) (cs':=[.val (.int .i64 r.nw),.val (.int .i64 r.old),.val (.slice ead r.ex.length ecap)]) (by kernel_rfl) O O O O O O dM<|aT O O (by exact O) (by exact nl3 O O O O) dM ?_;refine bE [(1000000,23),(1000001,601)] (.sv (.agg [.val (.int .i64 0),.val (.int .i64 0),.slc 601 0 1 3])) [q13B 23 r ead ecap,(601,some ⟨38,[.val (.int .i64 r.nw),.val (.int .i64 r.old),.val (.slice none 0 0)],true⟩)] (hF) O O (by exact (cL ⟨_,O,O⟩ trivial)) (by exact (bR (bR O (bR O (bR O O))) O)) O O O O (by exact (.box O O (.box O O .nil))) dM<|K.fieldOne O Tryz.underlying41 O (by kernel_rfl) O dM<|K.indexSlc O O (by decide) O dM ?_;refine bJ O O O (by exact nl3 O O O O) dM ?_;refine aP O dM ?_;refine aM O O O O O O dM ?_;refine aB ?_)
      refine Leads.here (σ':=⟨[(3,Lp 3),(4,Lp 4),(5,Lp 5),(7,Lp 7)],[v3B 38 7 r.nw r.old none 0 0,v3B 27 5 r.nw r.old ead r.ex.length ecap,cpB 4 b bad bcap,cpB 3 a aad acap],X⟩) (Le.of (by exact ⟨rfl,rfl,rfl,rfl,trivial⟩) (by exact ⟨rfl,rfl,rfl,rfl,trivial⟩) (by exact rfl) (by exact rfl) (by repeat' (first|refine bR ?_ ?_|rfl|exact bT|exact bS|exact bU rfl))) ⟨X,none,0,fun _ _ h=>h,?_,by rw [h0]⟩
      rw [show r.ex=[] from List.eq_nil_of_length_eq_zero h0]
      exact CodesIn.nil
    · have hF:=form13_l1 X r ead ecap hE hs lr (by omega)
      (refine rgN<|aK O O O dM ?_;refine aZ (zs:=[.int .i64 0,.int .i64 0,.slice none 0 0]) (sz:=3) (e:=27) (cs':=[.val (.int .i64 r.nw),.val (.int .i64 r.old),.val (.slice ead r.ex.length ecap)]) (by kernel_rfl) O O O O O O dM<|aT O O (by exact O) (by exact nl3 O O O O) dM ?_;refine bE [(1000000,23),(1000001,601),(1000002,602)] (.sv (.agg [.val (.int .i64 0),.val (.int .i64 0),.slc 601 0 1 3])) [q13B 23 r ead ecap,(601,some ⟨38,[.val (.int .i64 r.nw),.val (.int .i64 r.old),.slc 602 0 r.ex.length 1],true⟩),(602,some ⟨0,[],.res (cdR 52 r.ex)⟩)] (hF) O O (by exact (cL ⟨_,O,O⟩ trivial)) (by exact (bR (bR O (bR O (bR O O))) O)) O O O O (by exact (.box O O (.box O O (.box O O .nil)))) dM<|K.fieldOne O Tryz.underlying41 O (by kernel_rfl) O dM<|K.indexSlc O O (by decide) O dM ?_;refine bJ O O O (by exact nl3 O O O O) dM ?_;refine aP O dM ?_;refine aM O O O O O O dM ?_;refine aB ?_)
      refine cA (σ':=⟨[(3,Lp 3),(4,Lp 4),(5,Lp 5),(7,Lp 7)],[(7,some ⟨38,[.val (.int .i64 r.nw),.val (.int .i64 r.old)] ++ .slc 602 0 r.ex.length 1::[],false⟩),(602,some ⟨0,[],.res (cdR 52 r.ex)⟩),v3B 27 5 r.nw r.old ead r.ex.length ecap,cpB 4 b bad bcap,cpB 3 a aad acap],X⟩) (Le.of (by exact ⟨O,O,O,O,trivial⟩) (by exact ⟨O,O,O,O,O,trivial⟩) (by exact O) (by exact O) (by repeat' (first|refine bR ?_ ?_|rfl|exact bT|exact bS|exact bU O))) ?_
      refine Leads.fixCell O O O O O O fun ρ H uc hR hO _ _ => ?_
      exact cA (Le.of (by exact ⟨O,O,O,O,trivial⟩) (by exact ⟨O,O,O,O,trivial⟩) (by exact O) (by exact O) (by repeat' (first|refine bR ?_ ?_|rfl|exact bT|exact bS|exact bU O))) (bZ ⟨joinM X H,some ⟨ρ.1,0,none⟩,uc,fun _ _ h=>joinM_has hO h,hR.2.mono fun b o h=>joinM_in h,O⟩)
  rintro σ ⟨Y,ud,uc,hY,hU,rfl⟩
  replace hA:=hA.mono hY
  replace hB:=hB.mono hY
  replace hE:=hE.mono hY
  have k80:∀ c∈r.ex,c.length<4611686018427387904:=fun c hc=>by have:=lr.2 c hc;omega
  have k81:∀ c∈r.ex,c.length<1152921504606846976:=fun c hc=>by have:=lr.2 c hc;omega
  have hR1:=cRule Y a b r aad bad ead acap bcap ecap hA hB hE (by omega) (by omega) k81
  have hR2:=rRule13 Y a b r aad bad ud acap bcap uc hA hB hU (by omega) (by omega) k80
  generalize ruE a.fs b.fs r=ee at *
  (refine aA<|aA<|rgD mixed<|aK O O O dM ?_;refine aK O O O dM ?_;refine aK O O O dM ?_;refine kca O O hR1<|aK O O O dM ?_;refine aK O O O dM ?_;refine aK O O O dM ?_;refine kca O O hR2<|kne O O (cN O)<|aB<|rgA ?_;refine aF O ?_;refine aH ?_;refine aA<|aA<|rgN<|kas O<|aB<|aG ?_)
  refine cF (fun m σ=>∃ i:Nat,i≤b.fs.length∧m=b.fs.length-i∧σ=⟨[(3,Lp 3),(4,Lp 4),(5,Lp 5),(7,Lp 7),(8,Ln .i64 (i:Nat))],[v3B 38 7 r.nw r.old ud r.ex.length uc,v3B 27 5 r.nw r.old ead r.ex.length ecap,cpB 4 b bad bcap,cpB 3 a aad acap],Y⟩) b.fs.length
    ⟨_,Le.of (by exact ⟨rfl,rfl,rfl,rfl,rfl,trivial⟩) (by exact ⟨rfl,rfl,rfl,rfl,trivial⟩) (by exact rfl) (by exact rfl) (by repeat' (first|refine bR ?_ ?_|rfl|exact bT|exact bS|exact bU rfl)),0,by omega,by omega,rfl⟩ ?_
  rintro m σ ⟨i,hi,rfl,rfl⟩
  by_cases hlt:i<b.fs.length
  case neg =>
    (refine aA<|aA<|rgN<|kmv O<|kfa O O ?_;refine kl1 O O O<|aQ O bY O dM ?_;refine klt O O (cJ (by omega))<|aB<|aF O ?_;refine aJ<|aA<|rgN<|kas O<|aB<|aI ?_)
    exact ⟨[_],⟨O,trivial⟩,O⟩
  obtain ⟨f,hf⟩:∃ f,b.fs[i]? = some f:=⟨_,cS hlt⟩
  obtain ⟨fb,fo,farr,fel,ffr,rfl,hFX,hFz,hFc,_⟩:=hB.cells hf
  have hio3:fo+Int.toNat (i:Int)*3=fo+i*3:=by simp
  have hadd:IntKind.i64.wrap ((i:Int)+1)=((i+1:Nat):Int):=by rw [cD (by omega)];omega
  (refine aA<|aA<|rgN<|kmv O<|kfa O O ?_;refine kl1 O O O<|aQ O bY O dM ?_;refine klt O O (cK (by omega))<|aB<|aE O ?_;refine aH ?_;refine aA<|aG<|aA<|rgN<|kas O<|aB<|aG ?_)
  refine cF (fun m σ=>∃ k:Nat,k≤r.ex.length∧m=r.ex.length-k∧σ=⟨[(3,Lp 3),(4,Lp 4),(5,Lp 5),(7,Lp 7),(8,Ln .i64 (i:Nat)),(9,Ln .i64 (k:Nat))],[v3B 38 7 r.nw r.old ud r.ex.length uc,v3B 27 5 r.nw r.old ead r.ex.length ecap,cpB 4 b (some ⟨fb,fo,none⟩) bcap,cpB 3 a aad acap],Y⟩) r.ex.length
    ⟨_,Le.of (by exact ⟨rfl,rfl,rfl,rfl,rfl,rfl,trivial⟩) (by exact ⟨rfl,rfl,rfl,rfl,trivial⟩) (by exact rfl) (by exact rfl) (by repeat' (first|refine bR ?_ ?_|rfl|exact bT|exact bS|exact bU rfl)),0,by omega,by omega,rfl⟩ ?_
  rintro m σ ⟨k,hk,rfl,rfl⟩
  by_cases hkl:k<r.ex.length
  case neg =>
    (refine aA<|aA<|rgN<|kmv O<|kfa O O ?_;refine kl1 O O O<|aQ O bY O dM ?_;refine klt O O (cJ (by omega))<|aB<|aF O ?_;refine aJ<|rgN<|kmv O<|kad O O hadd<|kas O<|aB ?_)
    exact ⟨_,_,by omega,Le.of (by exact ⟨O,O,O,O,O,trivial⟩) (by exact ⟨O,O,O,O,trivial⟩) (by exact O) (by exact O) (by repeat' (first|refine bR ?_ ?_|rfl|exact bT|exact bS|exact bU O)),i+1,by omega,O,O⟩
  obtain ⟨c,hcc⟩:∃ c,r.ex[k]? = some c:=⟨_,cS hkl⟩
  obtain ⟨eb,eo,earr,eel,efr,vad,vcap,rfl,hEX,hec,hI⟩:=hE.get hcc
  obtain ⟨ub,uo,uarr,uel,ufr,wad,wcap,rfl,hUX,huc,hJ⟩:=hU.get hcc
  have hio1:eo+Int.toNat (k:Int)*1=eo+k*1:=by simp
  have hio2:uo+Int.toNat (k:Int)*1=uo+k*1:=by simp
  have hadk:IntKind.i64.wrap ((k:Int)+1)=((k+1:Nat):Int):=by rw [cD (by omega)];omega
  have hM1:=cFormula Y a f c aad vad acap vcap hA hI (k81 c (cX hcc)) (by omega)
  have hM2:=rFormula13 Y a f c aad wad acap wcap hA hJ (k80 c (cX hcc)) (by omega)
  generalize fmE a.fs f c=e2 at *
  (refine aA<|aA<|rgN<|kmv O<|kfa O O ?_;refine kl1 O O O<|aQ O bY O dM ?_;refine klt O O (cK (by omega))<|aB<|aE O ?_;refine aH ?_;refine aA<|aG<|aA<|rgD mixed<|aK O O O dM ?_;refine kfa O O ?_;refine kl1 O O O<|kmv O<|aR O O bY (by omega) hio3 dM<|aY O hFX (by kernel_rfl) hFz hFc dM<|kfa O O ?_;refine kl1 O O O<|kmv O<|aR O O bY (by omega) hio1 dM<|aW O hEX O hec dM<|kca O O hM1<|aK O O O dM ?_;refine kfa O O ?_;refine kl1 O O O<|kmv O<|aR O O bY (by omega) hio3 dM<|aY O hFX (by kernel_rfl) hFz hFc dM<|kfa O O ?_;refine kl1 O O O<|kmv O<|aR O O bY (by omega) hio2 dM<|aW O hUX O huc dM<|kca O O hM2<|kne O O (cN O)<|aB<|rgA ?_;refine aF O ?_;refine aH ?_;refine rgN<|kmv O<|kad O O hadk<|kas O<|aB ?_)
  exact ⟨_,_,by omega,Le.of (by exact ⟨O,O,O,O,O,O,trivial⟩) (by exact ⟨O,O,O,O,trivial⟩) (by exact O) (by exact O) (by repeat' (first|refine bR ?_ ?_|rfl|exact bT|exact bS|exact bU O)),k+1,by omega,O,O⟩
end Go.Proofs.YtnfbccfghgmfiaaGreat
end
