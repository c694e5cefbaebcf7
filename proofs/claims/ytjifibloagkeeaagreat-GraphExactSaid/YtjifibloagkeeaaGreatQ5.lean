/- A piece of a proof over this program: contracts of its functions, and a logic to prove them by. -/
import Derived.Test.YtjifibloagkeeaaGreatQ2
import Derived.Test.YtjifibloagkeeaaGreatQ3
import Derived.Test.YtjifibloagkeeaaGreatQ4
import Derived.Lib.SmallJoins
import Derived.Test.YtjifibloagkeeaaGreatRows
import Derived.Lib.ItoaLen
section
namespace Go.Lg.Fld
open Go Go.Lg
instance:DecidableEq Fl:=fun a b=>decidable_of_iff (a.nm=b.nm∧a.kind=b.kind∧a.count=b.count) ⟨fun ⟨h1,h2,h3⟩=>by cases a;cases b;simp_all,fun h=>by rw [h];exact ⟨rfl,rfl,rfl⟩⟩
structure Cp where
  id:Int
  nm:List UInt8
  fs:List Fl
instance:DecidableEq Cp:=fun a b=>decidable_of_iff (a.id=b.id∧a.nm=b.nm∧a.fs=b.fs) ⟨fun ⟨h1,h2,h3⟩=>by cases a;cases b;simp_all,fun h=>by rw [h];exact ⟨rfl,rfl,rfl⟩⟩
structure Sc where
  ver:Int
  cs:List Cp
instance:DecidableEq Sc:=fun a b=>decidable_of_iff (a.ver=b.ver∧a.cs=b.cs) ⟨fun ⟨h1,h2⟩=>by cases a;cases b;simp_all,fun h=>by rw [h];exact ⟨rfl,rfl⟩⟩
def letB (c:UInt8):Bool:=decide (97≤c.toNat)&&decide (c.toNat≤122)
def digB (c:UInt8):Bool:=decide (48≤c.toNat)&&decide (c.toNat≤57)
def nmC (l:List UInt8) (i:Nat):Bool:=letB (l.getD i 0)||(digB (l.getD i 0)&&decide (i≠0))
def nmB (l:List UInt8):Bool:=decide (1≤l.length)&&decide (l.length≤12)&&(List.range l.length).all (nmC l)
def firstE (f:Nat→Int):Nat→Nat→Int
  | _,0=>0
  | i,n+1=>if f i=0 then firstE f (i+1) n else f i
theorem firstE_none {f:Nat→Int}:∀ {n i:Nat},(∀ j,i≤j→j<i+n→f j=0)→firstE f i n=0
  | 0,_,_=>rfl
  | n+1,i,h=>by
    unfold firstE
    rw [if_pos (h i (dL _) (by omega))]
    exact firstE_none fun j h1 h2=>h j (by omega) (by omega)
theorem firstE_some {f:Nat→Int} {e:Int}:∀ {n i k:Nat},(∀ j,i≤j→j<k→f j=0)→i≤k→k<i+n→f k=e→e≠0→firstE f i n=e
  | 0,_,_,_,h1,h2,_,_=>by omega
  | n+1,i,k,h,h1,h2,he,h0=>by
    unfold firstE
    by_cases e1:i=k
    · subst e1;rw [if_neg (by rw [he];exact h0),he]
    · rw [if_pos (h i (dL _) (by omega))]
      exact firstE_some (fun j h3 h4=>h j (by omega) h4) (by omega) (by omega) he h0
theorem firstE_zero {f:Nat→Int}:∀ {n i:Nat},firstE f i n=0→∀ j,i≤j→j<i+n→f j=0
  | 0,_,_,_,h1,h2=>by omega
  | n+1,i,h,j,h1,h2=>by
    unfold firstE at h
    split at h
    · rename_i h3
      by_cases e:j=i
      · rw [e];exact h3
      · exact firstE_zero h j (by omega) (by omega)
    · rename_i h3;exact absurd h h3
def fldE (fs:List Fl) (k:Nat):Int:=match fs[k]? with
  | some f=>if nmB f.nm=true then (if (fs.take k).any (fun g=>g.nm==f.nm)=true then 4 else 0) else 4
  | none=>0
def prevId (cs:List Cp) (i:Nat):Int:=(cs[i-1]?.map Cp.id).getD 0
def cmpE (cs:List Cp) (i:Nat):Int:=match cs[i]? with
  | some c =>
    if c.id<1∨24<c.id∨(0<i∧c.id≤prevId cs i) then 1
    else if nmB c.nm=true then (if (cs.take i).any (fun g=>g.nm==c.nm)=true then 4 else if firstE (fldE c.fs) 0 c.fs.length=0 then layErr c.fs else 4) else 4
  | none=>0
def chkE (s:Sc):Int:=if s.ver<1∨1073741824<s.ver then 1 else firstE (cmpE s.cs) 0 s.cs.length
structure CompsIn (X:Nat→Option Obj) (ad:Option Addr) (cs:List Cp):Prop where
  at_:∀ (i:Nat) (c:Cp),cs[i]? = some c→∃ (blk off:Nat) (arr:Array Value) (el:TypeId) (fr:Nat×Nat) (fad:Option Addr) (fcap:Nat),ad=some ⟨blk,off,none⟩∧X blk=some (.cells arr el fr)∧off+i*3+3≤arr.size ∧
    (arr.toList.drop (off+i*3)).take 3=[.int .i64 c.id,.string ⟨c.nm.toArray⟩,.slice fad c.fs.length fcap]∧FieldsIn X fad c.fs
  small:∀ c∈cs,-9223372036854775808≤c.id∧c.id<9223372036854775808
theorem FieldsIn.mono {X Y:Nat→Option Obj} (hXY:∀ b o,X b=some o→Y b=some o) {ad:Option Addr} {fs:List Fl} (h:FieldsIn X ad fs):FieldsIn Y ad fs:=⟨RowsIn.mono h.rows hXY,h.small⟩
theorem CompsIn.mono {X Y:Nat→Option Obj} (hXY:∀ b o,X b=some o→Y b=some o) {ad:Option Addr} {cs:List Cp} (h:CompsIn X ad cs):CompsIn Y ad cs:=⟨fun i c hc=>by
  obtain ⟨blk,off,arr,el,fr,fad,fcap,h1,h2,h3,h4,h5⟩:=h.at_ i c hc
  exact ⟨blk,off,arr,el,fr,fad,fcap,h1,hXY _ _ h2,h3,h4,h5.mono hXY⟩,h.small⟩
theorem three_at {arr:Array Value} {p:Nat} {a b c:Value} (h:(arr.toList.drop p).take 3=[a,b,c]):arr[p]? = some a∧arr[p+1]? = some b∧arr[p+2]? = some c:=by
  have key:∀ j,j<3→arr[p+j]? = [a,b,c][j]? := fun j hj=>by
    rw [← h,List.getElem?_take,if_pos hj,List.getElem?_drop,Array.getElem?_toList]
  exact ⟨key 0 (by omega),key 1 (by omega),key 2 (by omega)⟩
theorem CompsIn.get {X:Nat→Option Obj} {ad:Option Addr} {cs:List Cp} (h:CompsIn X ad cs) {i:Nat} {c:Cp} (hc:cs[i]? = some c):∃ (blk off:Nat) (arr:Array Value) (el:TypeId) (fr:Nat×Nat) (fad:Option Addr) (fcap:Nat),ad=some ⟨blk,off,none⟩∧X blk=some (.cells arr el fr)∧off+i*3+3≤arr.size ∧
    ((arr.toList.drop (off+i*3)).take 3).map CV.val=[.val (.int .i64 c.id),.val (.string ⟨c.nm.toArray⟩),.val (.slice fad c.fs.length fcap)]∧arr[off+i*3]? = some (.int .i64 c.id)∧arr[off+i*3+1]? = some (.string ⟨c.nm.toArray⟩)∧arr[off+i*3+2]? = some (.slice fad c.fs.length fcap)∧FieldsIn X fad c.fs:=by
  obtain ⟨blk,off,arr,el,fr,fad,fcap,h1,h2,h3,h4,h5⟩:=h.at_ i c hc
  obtain ⟨g1,g2,g3⟩:=three_at h4
  exact ⟨blk,off,arr,el,fr,fad,fcap,h1,h2,h3,by rw [h4];rfl,g1,g2,g3,h5⟩
def NamesIn (cs:List Cp):Prop := ∀ c∈cs,c.nm.length≤9223372036854775807∧∀ f∈c.fs,f.nm.length≤9223372036854775807
def SmallC (cs:List Cp):Prop:=cs.length≤30∧∀ c∈cs,c.fs.length≤12∧c.nm.length≤100∧∀ f∈c.fs,f.nm.length≤100
end Go.Lg.Fld
namespace Go.Proofs.YtjifibloagkeeaaGreat
open Go Go.Lg Go.Lg.Fld
abbrev Sx (ver:Int) (ad:Option Addr) (n cap:Nat):LV:=.sv (.agg [.val (.int .i64 ver),.val (.slice ad n cap)])
abbrev Cx (c:Cp) (fad:Option Addr) (fcap:Nat):LV:=.sv (.agg [.val (.int .i64 c.id),.val (.string ⟨c.nm.toArray⟩),.val (.slice fad c.fs.length fcap)])
end Go.Proofs.YtjifibloagkeeaaGreat
end
section
namespace Go.Proofs.YtjifibloagkeeaaGreat
open Go Go.Lg Go.Lg.Fld
set_option maxRecDepth 100000
variable (X:Nat→Option Obj)
theorem getD_of {α:Type} {l:List α} {i:Nat} {d x:α} (h:l[i]? = some x):l.getD i d=x:=by rw [List.getD_eq_getElem?_getD,h];rfl
theorem nmB_false {l:List UInt8} {i:Nat} (hi:i<l.length) (h:nmC l i=false):nmB l=false:=by
  unfold nmB
  rw [Bool.and_eq_false_iff]
  right
  exact List.all_eq_false.2 ⟨i,List.mem_range.2 hi,by rw [h];simp⟩
theorem nmB_true {l:List UInt8} (h1:1≤l.length) (h2:l.length≤12) (h:∀ j,j<l.length→nmC l j=true):nmB l=true:=by
  unfold nmB
  rw [cN h1,cN h2,Bool.true_and,Bool.true_and]
  exact List.all_eq_true.2 fun j hj=>h j (List.mem_range.1 hj)
theorem sName_spec (l:List UInt8):PSpec Tryz.prog X 31 [Ls l] (Lb (nmB l)):=by
  refine cD Tryz.func31 rfl (by kernel_rfl) rfl rfl ?_
  intro C
  have hlen:(⟨l.toArray⟩:ByteArray).size=l.length:=rfl
  by_cases h1:l.length<1
  · rw [show nmB l=false by unfold nmB;rw [cL (by omega)];rfl]
    (refine aA<|rgN<|kas O<|aB<|aA<|aA<|rgN<|kmv O<|kln O<|klt O O (cN (by rw [hlen];omega))<|kmv O<|aC O O O<|aC O O O<|aC O O O ?_;refine kpt O O<|aB<|aE O ?_;refine aA<|rgN<|kas O<|aB<|aI ?_)
    exact ⟨[_],⟨O,trivial⟩,O⟩
  · by_cases h2:12<l.length
    · rw [show nmB l=false by unfold nmB;rw [cL (show ¬l.length≤12 by omega)];simp]
      (refine aA<|rgN<|kas O<|aB<|aA<|aA<|rgN<|kmv O<|kln O<|klt O O (cL (by rw [hlen];omega))<|kmv O<|gmv O O O<|K.lenStr O (dQ O O) ?_;refine aS O O (cN (by rw [hlen];omega)) (dQ O O) ?_;refine kpf O O<|aB<|aE O ?_;refine aA<|rgN<|kas O<|aB<|aI ?_)
      exact ⟨[_],⟨O,trivial⟩,O⟩
    · (refine aA<|rgN<|kas O<|aB<|aA<|aA<|rgN<|kmv O<|kln O<|klt O O (cL (by rw [hlen];omega))<|kmv O<|gmv O O O<|K.lenStr O (dQ O O) ?_;refine aS O O (cL (by rw [hlen];omega)) (dQ O O) ?_;refine kpf O O<|aB<|aF O ?_;refine aH ?_;refine aA<|aA<|rgN<|kas O<|aB<|aG ?_)
      refine cH (fun m σ=>∃ i:Nat,i≤l.length∧m=l.length-i∧(∀ j,j<i→nmC l j=true)∧σ=⟨[(0,Ls l),(3,Ln .i64 (i:Nat))],[],X⟩) l.length
        ⟨_,Le.of (by exact ⟨rfl,rfl,trivial⟩) (by exact trivial) (by exact rfl) (by exact rfl) (by exact rfl),0,by omega,by omega,fun j hj=>absurd hj (by omega),rfl⟩ ?_
      rintro m σ ⟨i,hi,rfl,hpre,rfl⟩
      by_cases hlt:i<l.length
      · obtain ⟨c,hc⟩:∃ c,l[i]? = some c:=⟨_,cW hlt⟩
        have hD:l.getD i 0=c:=getD_of hc
        have hget:(⟨l.toArray⟩:ByteArray)[(i:Int).toNat]? = some c:=str_at (by rw [dE];exact hc)
        have hlss:decide (((i:Nat):Int)<(⟨l.toArray⟩:ByteArray).size)=true:=cN (by rw [hlen];omega)
        by_cases l1:97≤c.toNat∧c.toNat≤122
        · have hok:nmC l i=true:=by unfold nmC;rw [hD];unfold letB;simp [l1.1,l1.2]
          have key:∀ j,j<i+1→nmC l j=true:=fun j hj=>by
            by_cases e:j=i
            · rw [e];exact hok
            · exact hpre j (by omega)
          by_cases d1:48≤c.toNat
          · by_cases d2:c.toNat≤57
            · omega
            · (refine aA<|aA<|rgN<|kmv O<|kmv O<|kln O<|klt O O hlss<|aB<|aE O ?_;refine aH ?_;refine aA<|aG<|aA<|rgN<|kmv O<|kmv O<|bB O O (by omega) hget dP<|bD O O (cN (by omega)) dP<|kmv O<|gmv O O O<|gmv O O O<|bB O O (by omega) hget (dQ O O) ?_;refine K.leq O O (cN (by omega)) (dQ O O) ?_;refine kpt O O<|kas O<|aB<|aA<|rgN<|kmv O<|kmv O<|bB O O (by omega) hget dP<|bD O O (cN (by omega)) dP<|kmv O<|gmv O O O<|gmv O O O<|bB O O (by omega) hget (dQ O O) ?_;refine K.leq O O (cL (by omega)) (dQ O O) ?_;refine kpt O O<|kas O<|aB<|aA<|rgN<|kmv O<|aV O O dP<|kmv O<|aC O O O<|aC O O O<|aC O O O<|aD O O<|aD O O<|aC O O O ?_;refine kpf O O<|aB<|aF O ?_;refine aH ?_;refine rgN<|kmv O<|kad O O (cF (by omega))<|kas O<|aB ?_)
              exact ⟨_,_,by omega,Le.of (by exact ⟨O,O,trivial⟩) (by exact trivial) (by exact O) (by exact O) (by exact O),i+1,by omega,O,key,O⟩
          · omega
        · by_cases d1:48≤c.toNat∧c.toNat≤57
          · by_cases hi0:i=0
            · have hno:nmC l i=false:=by unfold nmC letB;rw [hD];simp [l1,hi0];omega
              rw [nmB_false hlt hno]
              subst hi0
              (refine aA<|aA<|rgN<|kmv O<|kmv O<|kln O<|klt O O hlss<|aB<|aE O ?_;refine aH ?_;refine aA<|aG<|aA<|rgN<|kmv O<|kmv O<|bB O O (by omega) hget dP<|bD O O (cL (by omega)) dP<|kmv O<|aC O O O<|aC O O O<|aC O O O<|aC O O O<|kpf O O ?_;refine kas O<|aB<|aA<|rgN<|kmv O<|kmv O<|bB O O (by omega) hget dP<|bD O O (cN (by omega)) dP<|kmv O<|gmv O O O<|gmv O O O<|bB O O (by omega) hget (dQ O O) ?_;refine K.leq O O (cN (by omega)) (dQ O O) ?_;refine kpt O O<|kas O<|aB<|aA<|rgN<|kmv O<|aV O O dP<|kmv O<|gmv O O O<|aV O O (dQ O O) ?_;refine gmv O O O<|gmv O O O<|bC O O (cS (by omega)) (dQ O O) ?_;refine bN O O (dQ O O) ?_;refine kpt O O<|aB<|aE O ?_;refine aA<|rgN<|kas O<|aB<|aI ?_)
              exact ⟨[_],⟨O,trivial⟩,O⟩
            · have hok:nmC l i=true:=by unfold nmC digB;rw [hD];simp [d1.1,d1.2,hi0]
              have key:∀ j,j<i+1→nmC l j=true:=fun j hj=>by
                by_cases e:j=i
                · rw [e];exact hok
                · exact hpre j (by omega)
              have heq:(((i:Nat):Int)==0)=false:=cP (by omega)
              (refine aA<|aA<|rgN<|kmv O<|kmv O<|kln O<|klt O O hlss<|aB<|aE O ?_;refine aH ?_;refine aA<|aG<|aA<|rgN<|kmv O<|kmv O<|bB O O (by omega) hget dP<|bD O O (cL (by omega)) dP<|kmv O<|aC O O O<|aC O O O<|aC O O O<|aC O O O<|kpf O O ?_;refine kas O<|aB<|aA<|rgN<|kmv O<|kmv O<|bB O O (by omega) hget dP<|bD O O (cN (by omega)) dP<|kmv O<|gmv O O O<|gmv O O O<|bB O O (by omega) hget (dQ O O) ?_;refine K.leq O O (cN (by omega)) (dQ O O) ?_;refine kpt O O<|kas O<|aB<|aA<|rgN<|kmv O<|aV O O dP<|kmv O<|gmv O O O<|aV O O (dQ O O) ?_;refine gmv O O O<|gmv O O O<|bC O O heq (dQ O O) ?_;refine bN O O (dQ O O) ?_;refine kpt O O<|aB<|aF O ?_;refine aH ?_;refine rgN<|kmv O<|kad O O (cF (by omega))<|kas O<|aB ?_)
              exact ⟨_,_,by omega,Le.of (by exact ⟨O,O,trivial⟩) (by exact trivial) (by exact O) (by exact O) (by exact O),i+1,by omega,O,key,O⟩
          · have hno:nmC l i=false:=by unfold nmC letB digB;rw [hD];simp;constructor<;>intro h<;>omega
            rw [nmB_false hlt hno]
            by_cases a1:97≤c.toNat
            · (refine aA<|aA<|rgN<|kmv O<|kmv O<|kln O<|klt O O hlss<|aB<|aE O ?_;refine aH ?_;refine aA<|aG<|aA<|rgN<|kmv O<|kmv O<|bB O O (by omega) hget dP<|bD O O (cN (by omega)) dP<|kmv O<|gmv O O O<|gmv O O O<|bB O O (by omega) hget (dQ O O) ?_;refine K.leq O O (cL (by omega)) (dQ O O) ?_;refine kpt O O<|kas O<|aB<|aA<|rgN<|kmv O<|kmv O<|bB O O (by omega) hget dP<|bD O O (cN (by omega)) dP<|kmv O<|gmv O O O<|gmv O O O<|bB O O (by omega) hget (dQ O O) ?_;refine K.leq O O (cL (by omega)) (dQ O O) ?_;refine kpt O O<|kas O<|aB<|aA<|rgN<|kmv O<|aV O O dP<|kmv O<|gmv O O O<|aV O O (dQ O O) ?_;refine gmv O O O<|aC O O O<|aC O O O<|bF O O (dQ O O) ?_;refine kpt O O<|aB<|aE O ?_;refine aA<|rgN<|kas O<|aB<|aI ?_)
              exact ⟨[_],⟨O,trivial⟩,O⟩
            · by_cases a2:48≤c.toNat
              · (refine aA<|aA<|rgN<|kmv O<|kmv O<|kln O<|klt O O hlss<|aB<|aE O ?_;refine aH ?_;refine aA<|aG<|aA<|rgN<|kmv O<|kmv O<|bB O O (by omega) hget dP<|bD O O (cL (by omega)) dP<|kmv O<|aC O O O<|aC O O O<|aC O O O<|aC O O O<|kpf O O ?_;refine kas O<|aB<|aA<|rgN<|kmv O<|kmv O<|bB O O (by omega) hget dP<|bD O O (cN (by omega)) dP<|kmv O<|gmv O O O<|gmv O O O<|bB O O (by omega) hget (dQ O O) ?_;refine K.leq O O (cL (by omega)) (dQ O O) ?_;refine kpt O O<|kas O<|aB<|aA<|rgN<|kmv O<|aV O O dP<|kmv O<|gmv O O O<|aV O O (dQ O O) ?_;refine gmv O O O<|aC O O O<|aC O O O<|bF O O (dQ O O) ?_;refine kpt O O<|aB<|aE O ?_;refine aA<|rgN<|kas O<|aB<|aI ?_)
                exact ⟨[_],⟨O,trivial⟩,O⟩
              · (refine aA<|aA<|rgN<|kmv O<|kmv O<|kln O<|klt O O hlss<|aB<|aE O ?_;refine aH ?_;refine aA<|aG<|aA<|rgN<|kmv O<|kmv O<|bB O O (by omega) hget dP<|bD O O (cL (by omega)) dP<|kmv O<|aC O O O<|aC O O O<|aC O O O<|aC O O O<|kpf O O ?_;refine kas O<|aB<|aA<|rgN<|kmv O<|kmv O<|bB O O (by omega) hget dP<|bD O O (cL (by omega)) dP<|kmv O<|aC O O O<|aC O O O<|aC O O O<|aC O O O<|kpf O O ?_;refine kas O<|aB<|aA<|rgN<|kmv O<|aV O O dP<|kmv O<|gmv O O O<|aV O O (dQ O O) ?_;refine gmv O O O<|aC O O O<|aC O O O<|bF O O (dQ O O) ?_;refine kpt O O<|aB<|aE O ?_;refine aA<|rgN<|kas O<|aB<|aI ?_)
                exact ⟨[_],⟨O,trivial⟩,O⟩
      · rw [nmB_true (by omega) (by omega) (fun j hj=>hpre j (by omega))]
        (refine aA<|aA<|rgN<|kmv O<|kmv O<|kln O<|klt O O (cL (by rw [hlen];omega))<|aB<|aF O ?_;refine aJ<|aA<|rgN<|kas O<|aB<|aI ?_)
        exact ⟨[_],⟨O,trivial⟩,O⟩
end Go.Proofs.YtjifibloagkeeaaGreat
end
section
namespace Go.Lg.Fld
open Go Go.Lg
def findI {α:Type} (p:α→Bool) (l:List α):Int:=match l.findIdx? p with|some i=>(i:Nat)|none => -1
theorem findI_some {α:Type} {p:α→Bool} {l:List α} {i:Nat} {x:α} (h:∀ (j:Nat) (y:α),j<i→l[j]? = some y→p y=false) (hx:l[i]? = some x) (hp:p x=true):findI p l=(i:Nat):=by
  unfold findI
  obtain ⟨hi,e⟩:=List.getElem?_eq_some_iff.1 hx
  rw [List.findIdx?_eq_some_iff_getElem.2 ⟨hi,by rw [e];exact hp,fun j hj=>by rw [h j _ hj (cW (by omega))];simp⟩]
theorem findI_none {α:Type} {p:α→Bool} {l:List α} (h:∀ (j:Nat) (y:α),l[j]? = some y→p y=false):findI p l = -1:=by
  unfold findI
  rw [List.findIdx?_eq_none_iff.2 fun x hx=>by
    obtain ⟨j,hj⟩:=List.mem_iff_getElem?.1 hx
    exact h j x hj]
end Go.Lg.Fld
namespace Go.Proofs.YtjifibloagkeeaaGreat
open Go Go.Lg Go.Lg.Fld
set_option maxRecDepth 100000
variable (X:Nat→Option Obj)
abbrev sxB (k:Nat) (ver:Int) (ad:Option Addr) (n cap:Nat):Nat×Option Box:=(k,some ⟨24,[.val (.int .i64 ver),.val (.slice ad n cap)],false⟩)
theorem sFind_spec (ver:Int) (ad:Option Addr) (cap:Nat) (cs:List Cp) (id:Int) (hin:CompsIn X ad cs) (hbig:cs.length<4611686018427387904):
    PSpec Tryz.prog X 43 [Sx ver ad cs.length cap,Ln .i64 id] (Ln .i64 (findI (fun c=>c.id==id) cs)):=by
  refine cD Tryz.func43 rfl (by kernel_rfl) rfl rfl ?_
  intro C
  (refine aA<|rgN<|aL O O O dP<|kas O<|aB<|aA<|aA<|rgN<|kas O<|aB<|aG ?_)
  refine cH (fun m σ=>∃ i:Nat,i≤cs.length∧m=cs.length-i∧(∀ (j:Nat) (y:Cp),j<i→cs[j]? = some y→(y.id==id)=false)∧σ=⟨[(1,Ln .i64 id),(2,Lp 2),(5,Ln .i64 (i:Nat))],[sxB 2 ver ad cs.length cap],X⟩) cs.length
    ⟨_,Le.of (by exact ⟨rfl,rfl,rfl,trivial⟩) (by exact ⟨rfl,trivial⟩) (by exact rfl) (by exact rfl) (by repeat' (first|refine bR ?_ ?_|rfl|exact bT|exact bS|exact bU rfl)),0,by omega,by omega,fun j y hj=>absurd hj (by omega),rfl⟩ ?_
  rintro m σ ⟨i,hi,rfl,hpre,rfl⟩
  by_cases hlt:i<cs.length
  · obtain ⟨c,hc⟩:∃ c,cs[i]? = some c:=⟨_,cW hlt⟩
    obtain ⟨blk,off,arr,el,fr,fad,fcap,rfl,hX,hsz,hcs,g1,g2,g3,hF⟩:=hin.get hc
    have hio:off+Int.toNat (i:Int)*3=off+i*3:=by simp
    by_cases he:c.id=id
    · rw [findI_some hpre hc (by rw [beq_iff_eq];exact he)]
      (refine aA<|aA<|rgN<|kmv O<|kfa O O ?_;refine kl1 O O O<|aQ O bY O dP ?_;refine klt O O (cN (by omega))<|aB<|aE O ?_;refine aH ?_;refine aA<|aG<|aA<|rgN<|kfa O O ?_;refine kl1 O O O<|kmv O<|aR O O bY (by omega) hio dP<|bH O O dP ?_;refine aW O hX O g1 dP<|kmv O<|keq O O (by rw [beq_iff_eq];exact he)<|aB<|aE O ?_;refine aA<|rgN<|kmv O<|kas O<|aB<|aI ?_)
      exact ⟨[_],⟨O,trivial⟩,O⟩
    · have hne:(c.id==id)=false:=cP he
      (refine aA<|aA<|rgN<|kmv O<|kfa O O ?_;refine kl1 O O O<|aQ O bY O dP ?_;refine klt O O (cN (by omega))<|aB<|aE O ?_;refine aH ?_;refine aA<|aG<|aA<|rgN<|kfa O O ?_;refine kl1 O O O<|kmv O<|aR O O bY (by omega) hio dP<|bH O O dP ?_;refine aW O hX O g1 dP<|kmv O<|keq O O hne<|aB<|aF O ?_;refine aH ?_;refine rgN<|kmv O<|kad O O (cF (by omega))<|kas O<|aB ?_)
      exact ⟨_,_,by omega,Le.of (by exact ⟨O,O,O,trivial⟩) (by exact ⟨O,trivial⟩) (by exact O) (by exact O) (by repeat' (first|refine bR ?_ ?_|rfl|exact bT|exact bS|exact bU O)),i+1,by omega,O,(fun j y hj hy=>by
        by_cases e:j=i
        · subst e;rw [hc] at hy;cases hy;exact hne
        · exact hpre j y (by omega) hy),rfl⟩
  · rw [findI_none fun j y hy=>hpre j y (by have:=(List.getElem?_eq_some_iff.1 hy).1;omega) hy]
    (refine aA<|aA<|rgN<|kmv O<|kfa O O ?_;refine kl1 O O O<|aQ O bY O dP ?_;refine klt O O (cL (by omega))<|aB<|aF O ?_;refine aJ<|aA<|rgN<|kas O<|aB<|aI ?_)
    exact ⟨[_],⟨O,trivial⟩,O⟩
theorem eqF (f f':Fl) (r:Bool) (hr:decide (f=f')=r) (w:World):
    (Op.equalIn 10000 79 (.agg f.vals.toArray) (.agg f'.vals.toArray)).run Tryz.prog w = .ok r w:=by
  subst hr
  obtain ⟨n,k,c⟩:=f
  obtain ⟨n',k',c'⟩:=f'
  show (Op.equalIn 10000 79 (.agg [Value.string ⟨n.toArray⟩,.int .i64 k,.int .i64 c].toArray) (.agg [Value.string ⟨n'.toArray⟩,.int .i64 k',.int .i64 c'].toArray)).run Tryz.prog w=_
  rw [show (10000:Nat)=9999+1 from rfl,run_equalIn_agg w 9999 79 _ _ (by kernel_rfl) (by kernel_rfl)]
  simp only [Program.fieldsOf,Tryz.underlying79]
  go_simp
  by_cases h0:n=n'<;>by_cases h1:k=k'<;>by_cases h2:c=c'<;>simp [h0,h1,h2]
theorem sFields_spec (ad ad2:Option Addr) (cap cap2:Nat) (a b:List Fl) (ha:FieldsIn X ad a) (hb:FieldsIn X ad2 b) (hbig:a.length<4611686018427387904) (r:Bool) (hr:decide (a=b)=r):
    PSpec Tryz.prog X 73 [Lx ad a.length cap,Lx ad2 b.length cap2] (Lb r):=by
  subst hr
  refine cD Tryz.func73 rfl (by kernel_rfl) rfl rfl ?_
  intro C
  by_cases hl:a.length=b.length
  · (refine aA<|rgN<|kas O<|aB<|aA<|aA<|rgN<|kmv O<|aQ O bY O dP ?_;refine kmv O<|aQ O bY O dP ?_;refine kne O O (r:=false) (by rw [hl];simp)<|aB<|aF O ?_;refine aH ?_;refine aA<|aA<|rgN<|kas O<|aB<|aG ?_)
    refine cH (fun m σ=>∃ i:Nat,i≤a.length∧m=a.length-i∧a.take i=b.take i∧σ=⟨[(0,Lx ad a.length cap),(1,Lx ad2 b.length cap2),(5,Ln .i64 (i:Nat))],[],X⟩) a.length
      ⟨_,Le.of (by exact ⟨rfl,rfl,rfl,trivial⟩) (by exact trivial) (by exact rfl) (by exact rfl) (by exact rfl),0,by omega,rfl,rfl,rfl⟩ ?_
    rintro m σ ⟨i,hi,rfl,hpre,rfl⟩
    by_cases hlt:i<a.length
    · obtain ⟨f,hf⟩:∃ v,a[i]? = some v:=⟨_,cW hlt⟩
      obtain ⟨f',hf'⟩:∃ v,b[i]? = some v:=⟨_,cW (by omega)⟩
      obtain ⟨blk,off,arr,el,fr,rfl,hX,hsz,hcells⟩:=ha.at hf
      obtain ⟨blk',off',arr',el',fr',rfl,hX',hsz',hcells'⟩:=hb.at hf'
      have hio:off+Int.toNat (i:Int)*3=off+i*3:=by simp
      have hio':off'+Int.toNat (i:Int)*3=off'+i*3:=by simp
      by_cases hq:f=f'
      · (refine aA<|aA<|rgN<|kmv O<|kmv O<|aQ O bY O dP ?_;refine klt O O (cN (by omega))<|aB<|aE O ?_;refine aH ?_;refine aA<|aG<|aA<|rgD mixed<|kmv O<|kmv O<|aR O O bY (by omega) hio dP<|aY O hX (by kernel_rfl) hsz hcells dP<|kmv O<|kmv O<|aR O O bY (by omega) hio' dP<|aY O hX' (by kernel_rfl) hsz' hcells' dP<|K.aggEq (us:=f.vals) (vs:=f'.vals) O O O O (by kernel_rfl) (eqF f f' true (cN hq)) (.inr ⟨O,O⟩) dP<|aB ?_;refine rgA ?_;refine aF O ?_;refine aH ?_;refine rgN<|kmv O<|kad O O (cF (by omega))<|kas O<|aB ?_)
        exact ⟨_,_,by omega,Le.of (by exact ⟨rfl,rfl,rfl,trivial⟩) (by exact trivial) (by exact rfl) (by exact rfl) (by exact rfl),i+1,by omega,rfl,by rw [take_snoc hf,take_snoc hf',hpre,hq],rfl⟩
      · rw [cL (show ¬a=b from fun e=>hq (by rw [e,hf'] at hf;exact (Option.some.inj hf).symm))]
        (refine aA<|aA<|rgN<|kmv O<|kmv O<|aQ O bY O dP ?_;refine klt O O (cN (by omega))<|aB<|aE O ?_;refine aH ?_;refine aA<|aG<|aA<|rgD mixed<|kmv O<|kmv O<|aR O O bY (by omega) hio dP<|aY O hX (by kernel_rfl) hsz hcells dP<|kmv O<|kmv O<|aR O O bY (by omega) hio' dP<|aY O hX' (by kernel_rfl) hsz' hcells' dP<|K.aggEq (us:=f.vals) (vs:=f'.vals) O O O O (by kernel_rfl) (eqF f f' false (cL hq)) (.inr ⟨O,O⟩) dP<|aB ?_;refine rgA ?_;refine aE O ?_;refine aA<|rgN<|kas O<|aB<|aI ?_)
        exact ⟨[_],⟨O,trivial⟩,O⟩
    · have e:i=a.length:=by omega
      subst e
      rw [dD,List.take_of_length_le (by omega)] at hpre
      rw [cN hpre]
      (refine aA<|aA<|rgN<|kmv O<|kmv O<|aQ O bY O dP ?_;refine klt O O (cL (by omega))<|aB<|aF O ?_;refine aJ<|aA<|rgN<|kas O<|aB<|aI ?_)
      exact ⟨[_],⟨O,trivial⟩,O⟩
  · rw [cL (show ¬a=b from fun e=>hl (by rw [e]))]
    (refine aA<|rgN<|kas O<|aB<|aA<|aA<|rgN<|kmv O<|aQ O bY O dP ?_;refine kmv O<|aQ O bY O dP ?_;refine kne O O (r:=true) (by rw [bne_iff_ne];omega)<|aB<|aE O ?_;refine aA<|rgN<|kas O<|aB<|aI ?_)
    exact ⟨[_],⟨O,trivial⟩,O⟩
theorem sComp_spec (a b:Cp) (ad ad2:Option Addr) (cap cap2:Nat) (ha:FieldsIn X ad a.fs) (hb:FieldsIn X ad2 b.fs) (hbig:a.fs.length<4611686018427387904) (r:Bool) (hr:decide (a=b)=r):
    PSpec Tryz.prog X 48 [Cx a ad cap,Cx b ad2 cap2] (Lb r):=by
  subst hr
  refine cD Tryz.func48 rfl (by kernel_rfl) rfl rfl ?_
  intro C
  by_cases h1:a.id=b.id
  · by_cases h2:a.nm=b.nm
    · have hF:=sFields_spec X ad ad2 cap cap2 a.fs b.fs ha hb hbig (decide (a.fs=b.fs)) rfl
      have e:decide (a=b)=decide (a.fs=b.fs):=by
        cases a;cases b;simp only at h1 h2;subst h1 h2;simp
      rw [e]
      (refine aA<|rgN<|aL O O O dP<|aL O O O dP<|kas O<|aB<|aA<|rgN<|kfa O O ?_;refine kl1 O O O<|kfa O O ?_;refine kl1 O O O<|keq O O (r:=true) (by rw [beq_iff_eq];exact h1)<|kmv O<|aN O O (dQ O O) ?_;refine aO O O O (dQ O O) ?_;refine aN O O (dQ O O) ?_;refine aO O O O (dQ O O) ?_;refine K.strEq O O (strs_eq (r:=true) (by rw [h2];simp)) (dQ O O) ?_;refine kpt O O<|kmv O<|aN O O (dQ O O) ?_;refine aO O O O (dQ O O) ?_;refine aN O O (dQ O O) ?_;refine aO O O O (dQ O O) ?_;refine gca O O (hF) O O<|kpt O O<|kas O<|aB<|aI ?_)
      exact ⟨[_],⟨O,trivial⟩,O⟩
    · rw [cL (show ¬a=b from fun e=>h2 (by rw [e]))]
      (refine aA<|rgN<|aL O O O dP<|aL O O O dP<|kas O<|aB<|aA<|rgN<|kfa O O ?_;refine kl1 O O O<|kfa O O ?_;refine kl1 O O O<|keq O O (r:=true) (by rw [beq_iff_eq];exact h1)<|kmv O<|aN O O (dQ O O) ?_;refine aO O O O (dQ O O) ?_;refine aN O O (dQ O O) ?_;refine aO O O O (dQ O O) ?_;refine K.strEq O O (strs_eq (r:=false) (by rw [beq_eq_false_iff_ne];exact h2)) (dQ O O) ?_;refine kpt O O<|kmv O<|aC O O O<|aC O O O<|aC O O O<|aC O O O<|aC O O O<|kpf O O<|kas O<|aB<|aI ?_)
      exact ⟨[_],⟨O,trivial⟩,O⟩
  · rw [cL (show ¬a=b from fun e=>h1 (by rw [e]))]
    (refine aA<|rgN<|aL O O O dP<|aL O O O dP<|kas O<|aB<|aA<|rgN<|kfa O O ?_;refine kl1 O O O<|kfa O O ?_;refine kl1 O O O<|keq O O (r:=false) (by rw [beq_eq_false_iff_ne];exact h1)<|kmv O<|aC O O O<|aC O O O<|aC O O O<|aC O O O<|aC O O O<|kpf O O<|kmv O<|aC O O O<|aC O O O<|aC O O O<|aC O O O ?_;refine aC O O O<|kpf O O<|kas O<|aB<|aI ?_)
    exact ⟨[_],⟨O,trivial⟩,O⟩
set_option maxHeartbeats 1600000 in
theorem sSame_spec (a b:Sc) (ad ad2:Option Addr) (cap cap2:Nat) (ha:CompsIn X ad a.cs) (hb:CompsIn X ad2 b.cs) (hbig:a.cs.length<4611686018427387904) (hfs:∀ c∈a.cs,c.fs.length<4611686018427387904) (r:Bool) (hr:decide (a=b)=r):
    PSpec Tryz.prog X 27 [Sx a.ver ad a.cs.length cap,Sx b.ver ad2 b.cs.length cap2] (Lb r):=by
  subst hr
  refine cD Tryz.func27 rfl (by kernel_rfl) rfl rfl ?_
  intro C
  by_cases hv:a.ver=b.ver
  · by_cases hl:a.cs.length=b.cs.length
    · (refine aA<|rgN<|aL O O O dP<|aL O O O dP<|kas O<|aB<|aA<|aA<|rgN<|kfa O O ?_;refine kl1 O O O<|kfa O O ?_;refine kl1 O O O<|kne O O (r:=false) (by rw [hv];simp)<|kmv O<|aN O O (dQ O O) ?_;refine aO O O O (dQ O O) ?_;refine aQ O bY O (dQ O O) ?_;refine aN O O (dQ O O) ?_;refine aO O O O (dQ O O) ?_;refine aQ O bY O (dQ O O) ?_;refine aX O O (r:=false) (by rw [hl];simp) (dQ O O) ?_;refine kpf O O<|aB<|aF O ?_;refine aH ?_;refine aA<|aA<|rgN<|kas O<|aB<|aG ?_)
      refine cH (fun m σ=>∃ i:Nat,i≤a.cs.length∧m=a.cs.length-i∧a.cs.take i=b.cs.take i∧σ=⟨[(2,Lp 2),(3,Lp 3),(5,Ln .i64 (i:Nat))],[sxB 2 a.ver ad a.cs.length cap,sxB 3 b.ver ad2 b.cs.length cap2],X⟩) a.cs.length
        ⟨_,Le.of (by exact ⟨rfl,rfl,rfl,trivial⟩) (by exact ⟨rfl,rfl,trivial⟩) (by exact rfl) (by exact rfl) (by repeat' (first|refine bR ?_ ?_|rfl|exact bT|exact bS|exact bU rfl)),0,by omega,rfl,rfl,rfl⟩ ?_
      rintro m σ ⟨i,hi,rfl,hpre,rfl⟩
      by_cases hlt:i<a.cs.length
      · obtain ⟨f,hf⟩:∃ v,a.cs[i]? = some v:=⟨_,cW hlt⟩
        obtain ⟨f',hf'⟩:∃ v,b.cs[i]? = some v:=⟨_,cW (by omega)⟩
        obtain ⟨blk,off,arr,el,fr,fad,fcap,rfl,hX,hsz,hcells,_,_,_,hF⟩:=ha.get hf
        obtain ⟨blk',off',arr',el',fr',fad',fcap',rfl,hX',hsz',hcells',_,_,_,hF'⟩:=hb.get hf'
        have hio:off+Int.toNat (i:Int)*3=off+i*3:=by simp
        have hio':off'+Int.toNat (i:Int)*3=off'+i*3:=by simp
        have hC:=sComp_spec X f f' fad fad' fcap fcap' hF hF' (hfs f (dB hf)) (decide (f=f')) rfl
        by_cases hq:f=f'
        · rw [cN hq] at hC
          (refine aA<|aA<|rgN<|kmv O<|kfa O O ?_;refine kl1 O O O<|aQ O bY O dP ?_;refine klt O O (cN (by omega))<|aB<|aE O ?_;refine aH ?_;refine aA<|aG<|aA<|rgD mixed<|kfa O O ?_;refine kl1 O O O<|kmv O<|aR O O bY (by omega) hio dP<|aY O hX (by kernel_rfl) hsz hcells dP<|kfa O O ?_;refine kl1 O O O<|kmv O<|aR O O bY (by omega) hio' dP<|aY O hX' (by kernel_rfl) hsz' hcells' dP<|kca O O (hC)<|aV O O dP<|aB<|rgA ?_;refine aF O ?_;refine aH ?_;refine rgN<|kmv O<|kad O O (cF (by omega))<|kas O<|aB ?_)
          exact ⟨_,_,by omega,Le.of (by exact ⟨rfl,rfl,rfl,trivial⟩) (by exact ⟨rfl,rfl,trivial⟩) (by exact rfl) (by exact rfl) (by repeat' (first|refine bR ?_ ?_|rfl|exact bT|exact bS|exact bU rfl)),i+1,by omega,rfl,by rw [take_snoc hf,take_snoc hf',hpre,hq],rfl⟩
        · rw [cL hq] at hC
          rw [cL (show ¬a=b from fun e=>hq (by rw [e,hf'] at hf;exact (Option.some.inj hf).symm))]
          (refine aA<|aA<|rgN<|kmv O<|kfa O O ?_;refine kl1 O O O<|aQ O bY O dP ?_;refine klt O O (cN (by omega))<|aB<|aE O ?_;refine aH ?_;refine aA<|aG<|aA<|rgD mixed<|kfa O O ?_;refine kl1 O O O<|kmv O<|aR O O bY (by omega) hio dP<|aY O hX (by kernel_rfl) hsz hcells dP<|kfa O O ?_;refine kl1 O O O<|kmv O<|aR O O bY (by omega) hio' dP<|aY O hX' (by kernel_rfl) hsz' hcells' dP<|kca O O (hC)<|aV O O dP<|aB<|rgA ?_;refine aE O ?_;refine aA<|rgN<|kas O<|aB<|aI ?_)
          exact ⟨[_],⟨O,trivial⟩,O⟩
      · have e:i=a.cs.length:=by omega
        subst e
        rw [dD,List.take_of_length_le (by omega)] at hpre
        rw [cN (show a=b by cases a;cases b;simp only at hv hpre;rw [hv,hpre])]
        (refine aA<|aA<|rgN<|kmv O<|kfa O O ?_;refine kl1 O O O<|aQ O bY O dP ?_;refine klt O O (cL (by omega))<|aB<|aF O ?_;refine aJ<|aA<|rgN<|kas O<|aB<|aI ?_)
        exact ⟨[_],⟨O,trivial⟩,O⟩
    · rw [cL (show ¬a=b from fun e=>hl (by rw [e]))]
      (refine aA<|rgN<|aL O O O dP<|aL O O O dP<|kas O<|aB<|aA<|aA<|rgN<|kfa O O ?_;refine kl1 O O O<|kfa O O ?_;refine kl1 O O O<|kne O O (r:=false) (by rw [hv];simp)<|kmv O<|aN O O (dQ O O) ?_;refine aO O O O (dQ O O) ?_;refine aQ O bY O (dQ O O) ?_;refine aN O O (dQ O O) ?_;refine aO O O O (dQ O O) ?_;refine aQ O bY O (dQ O O) ?_;refine aX O O (r:=true) (by rw [bne_iff_ne];omega) (dQ O O) ?_;refine kpf O O<|aB<|aE O ?_;refine aA<|rgN<|kas O<|aB<|aI ?_)
      exact ⟨[_],⟨O,trivial⟩,O⟩
  · rw [cL (show ¬a=b from fun e=>hv (by rw [e]))]
    (refine aA<|rgN<|aL O O O dP<|aL O O O dP<|kas O<|aB<|aA<|aA<|rgN<|kfa O O ?_;refine kl1 O O O<|kfa O O ?_;refine kl1 O O O<|kne O O (r:=true) (by rw [bne_iff_ne];exact hv)<|kmv O<|aC O O O<|aC O O O<|aC O O O<|aC O O O<|aC O O O<|aC O O O<|aC O O O<|kpt O O<|aB<|aE O ?_;refine aA<|rgN<|kas O<|aB<|aI ?_)
    exact ⟨[_],⟨O,trivial⟩,O⟩
end Go.Proofs.YtjifibloagkeeaaGreat
end
section
namespace Go.Lg.Fld
open Go Go.Lg
structure Pt where
  comp:Int
  val:List (Bool×Int)
theorem any_true {α:Type} {p:α→Bool} {l:List α} {k i:Nat} {y:α} (hk:k<i) (hy:l[k]? = some y) (hp:p y=true):(l.take i).any p=true:=by
  rw [List.any_eq_true]
  exact ⟨y,dB (by rw [List.getElem?_take,if_pos hk];exact hy),hp⟩
theorem any_false {α:Type} {p:α→Bool} {l:List α} {i:Nat} (h:∀ (j:Nat) (y:α),j<i→l[j]? = some y→p y=false):(l.take i).any p=false:=by
  rw [List.any_eq_false]
  intro y hy
  obtain ⟨j,hj⟩:=List.mem_iff_getElem?.1 hy
  rw [List.getElem?_take] at hj
  split at hj
  · rename_i h1;rw [h j y h1 hj];simp
  · cases hj
theorem two_at {arr:Array Value} {p:Nat} {a b:Value} (h:(arr.toList.drop p).take 2=[a,b]):arr[p]? = some a∧arr[p+1]? = some b:=by
  have key:∀ j,j<2→arr[p+j]? = [a,b][j]? := fun j hj=>by
    rw [← h,List.getElem?_take,if_pos hj,List.getElem?_drop,Array.getElem?_toList]
  exact ⟨key 0 (by omega),key 1 (by omega)⟩
end Go.Lg.Fld
namespace Go.Proofs.YtjifibloagkeeaaGreat
open Go Go.Lg Go.Lg.Fld
set_option maxRecDepth 100000
def partE (cs:List Cp) (p:Pt):Int:=match cs.find? (fun c=>c.id==p.comp) with|some c=>fitErr c.fs p.val|none=>6
def ptE (cs:List Cp) (ps:List Pt) (i:Nat):Int:=match ps[i]? with
  | some p=>if (ps.take i).any (fun g=>g.comp==p.comp)=true then 1 else partE cs p
  | none=>0
def partsE (cs:List Cp) (ps:List Pt):Int:=firstE (ptE cs ps) 0 ps.length
structure PartsIn (X:Nat→Option Obj) (ad:Option Addr) (ps:List Pt):Prop where
  at_:∀ (i:Nat) (p:Pt),ps[i]? = some p→∃ (blk off:Nat) (arr:Array Value) (el:TypeId) (fr:Nat×Nat) (vad:Option Addr) (vcap:Nat),ad=some ⟨blk,off,none⟩∧X blk=some (.cells arr el fr)∧off+i*2+2≤arr.size ∧
    (arr.toList.drop (off+i*2)).take 2=[.int .i64 p.comp,.slice vad p.val.length vcap]∧NumsIn X vad p.val
  small:∀ p∈ps,-9223372036854775808≤p.comp∧p.comp<9223372036854775808
theorem PartsIn.get {X:Nat→Option Obj} {ad:Option Addr} {ps:List Pt} (h:PartsIn X ad ps) {i:Nat} {p:Pt} (hc:ps[i]? = some p):∃ (blk off:Nat) (arr:Array Value) (el:TypeId) (fr:Nat×Nat) (vad:Option Addr) (vcap:Nat),ad=some ⟨blk,off,none⟩∧X blk=some (.cells arr el fr)∧off+i*2+2≤arr.size ∧
    ((arr.toList.drop (off+i*2)).take 2).map CV.val=[.val (.int .i64 p.comp),.val (.slice vad p.val.length vcap)]∧arr[off+i*2]? = some (.int .i64 p.comp)∧arr[off+i*2+1]? = some (.slice vad p.val.length vcap)∧NumsIn X vad p.val:=by
  obtain ⟨blk,off,arr,el,fr,vad,vcap,h1,h2,h3,h4,h5⟩:=h.at_ i p hc
  obtain ⟨g1,g2⟩:=two_at h4
  exact ⟨blk,off,arr,el,fr,vad,vcap,h1,h2,h3,by rw [h4];rfl,g1,g2,h5⟩
abbrev Px (p:Pt) (vad:Option Addr) (vcap:Nat):LV:=.sv (.agg [.val (.int .i64 p.comp),.val (.slice vad p.val.length vcap)])
theorem find_at {cs:List Cp} {i:Nat} {c:Cp} {id:Int} (hpre:∀ (j:Nat) (y:Cp),j<i→cs[j]? = some y→(y.id==id)=false) (hc:cs[i]? = some c) (he:c.id=id):cs.find? (fun c=>c.id==id)=some c:=by
  obtain ⟨hi,e⟩:=List.getElem?_eq_some_iff.1 hc
  rw [List.find?_eq_some_iff_getElem]
  refine ⟨by rw [beq_iff_eq];exact he,i,hi,e,fun j hj => ?_⟩
  rw [hpre j _ hj (cW (by omega))];rfl
theorem find_no {cs:List Cp} {id:Int} (h:∀ (j:Nat) (y:Cp),cs[j]? = some y→(y.id==id)=false):cs.find? (fun c=>c.id==id)=none:=by
  rw [List.find?_eq_none]
  intro c hc
  obtain ⟨j,hj⟩:=List.mem_iff_getElem?.1 hc
  rw [h j c hj];simp
theorem find_cases (cs:List Cp) (id:Int):(∃ (i:Nat) (c:Cp),cs[i]? = some c∧c.id=id∧∀ (j:Nat) (y:Cp),j<i→cs[j]? = some y→(y.id==id)=false)∨∀ (j:Nat) (y:Cp),cs[j]? = some y→(y.id==id)=false:=by
  cases hf:cs.findIdx? (fun c=>c.id==id) with
  | some i =>
    obtain ⟨hi,h1,h2⟩:=List.findIdx?_eq_some_iff_getElem.1 hf
    refine .inl ⟨i,cs[i],cW hi,by simpa using h1,fun j y hj hy => ?_⟩
    have:=h2 j hj
    obtain ⟨hj',e⟩:=List.getElem?_eq_some_iff.1 hy
    rw [e] at this
    cases hb:y.id==id with
    | false=>rfl
    | true=>exact absurd hb this
  | none =>
    have:=List.findIdx?_eq_none_iff.1 hf
    exact .inr fun j y hy=>this y (dB hy)
variable (X:Nat→Option Obj)
theorem ptE_at {cs:List Cp} {ps:List Pt} {i:Nat} {p:Pt} (h:ps[i]? = some p):ptE cs ps i=if (ps.take i).any (fun g=>g.comp==p.comp)=true then 1 else partE cs p:=by unfold ptE;rw [h]
end Go.Proofs.YtjifibloagkeeaaGreat
end
section
namespace Go.Proofs.YtjifibloagkeeaaGreat
open Go Go.Lg Go.Lg.Fld Go.RowKit Go.ChangeShapes Go.WideShapes Go.Joins
set_option maxRecDepth 100000
section
variable {H:Type} {enc:TypeId×Value→H} {w:World}
theorem open_fields_l {fuel:Nat} {l:List Value} {x:DataW H×List MemPlace} (h:DataW.trod enc Tryz.prog w 0 (fun _=>true) true fuel 67 l=some x):
    ∃ (ad:Option Addr) (cap:Nat) (fs:List Fl),l=[.slice ad fs.length cap]∧FieldsIn (fun b=>w.heap[b]?) ad fs∧∀ f∈fs,f.nm.length≤9223372036854775807:=by
  obtain ⟨ad,cap,rows,rfl,_,_,h3,h4⟩:=open_rows_l (e:=79) (sz:=3) (by kernel_rfl) (by kernel_rfl) (by decide) h
  obtain ⟨fs,rfl,h5⟩:=map_of (f:=Fl.vals) (q:=fun f=>((-9223372036854775808≤f.kind∧f.kind<9223372036854775808)∧(-9223372036854775808≤f.count∧f.count<9223372036854775808))∧f.nm.length≤9223372036854775807) (vs:=rows) (fun u hu=>by
    obtain ⟨hlen,n,x,hx⟩:=h4 u hu
    obtain ⟨y0,y1,y2,n',_,_,g0,g1,g2⟩:=Deep.trod_struct3 (t:=79) Tryz.underlying79 hx
    obtain ⟨e0',e1',e2',rfl⟩:∃ c0 c1 c2,u=[c0,c1,c2]:=by
      match u,hlen with
      | [c0,c1,c2],_=>exact ⟨c0,c1,c2,rfl⟩
    obtain ⟨s,e0,_,hsz⟩:=DataW.trod_string (by kernel_rfl) g0
    obtain ⟨k,e1,_,wa1⟩:=DataW.trod_int (k:=.i64) (by kernel_rfl) g1
    obtain ⟨c,e2,_,wa2⟩:=DataW.trod_int (k:=.i64) (by kernel_rfl) g2
    have q0:e0' = .string s:=by simpa using (show ([e0',e1',e2'].drop 0).take 1=[.string s] from e0)
    have q1:e1' = .int .i64 k:=by simpa using (show ([e0',e1',e2'].drop 1).take 1=[.int .i64 k] from e1)
    have q2:e2' = .int .i64 c:=by simpa using (show ([e0',e1',e2'].drop 2).take 1=[.int .i64 c] from e2)
    subst q0 q1 q2
    have b1:=bounds_i64 wa1
    have b2:=bounds_i64 wa2
    exact ⟨⟨s.data.toList,k,c⟩,rfl,(show (-9223372036854775808≤k∧k<9223372036854775808)∧(-9223372036854775808≤c∧c<9223372036854775808) by omega),(show s.data.toList.length≤_ from (by unfold maxLen at hsz;rw [Array.length_toList];exact hsz))⟩)
  exact ⟨ad,cap,fs,by rw [cV],⟨h3,fun f hf=>(h5 f hf).1⟩,fun f hf=>(h5 f hf).2⟩
theorem open_comps_l {fuel:Nat} {l:List Value} {x:DataW H×List MemPlace} (h:DataW.trod enc Tryz.prog w 0 (fun _=>true) true fuel 22 l=some x):
    ∃ (ad:Option Addr) (cap:Nat) (cs:List Cp),l=[.slice ad cs.length cap]∧cs.length≤cap∧CompsIn (fun b=>w.heap[b]?) ad cs∧NamesIn cs:=by
  obtain ⟨ad,cap,rows,rfl,h1,_,h3,h4⟩:=open_rows_l (e:=69) (sz:=3) (by kernel_rfl) (by kernel_rfl) (by decide) h
  obtain ⟨ts,rfl,h5⟩:=map_of (f:=fun t:Cp×Option Addr×Nat=>[.int .i64 t.1.id,.string ⟨t.1.nm.toArray⟩,.slice t.2.1 t.1.fs.length t.2.2]) (q:=fun t=>(FieldsIn (fun b=>w.heap[b]?) t.2.1 t.1.fs∧(-9223372036854775808≤t.1.id∧t.1.id<9223372036854775808))∧t.1.nm.length≤9223372036854775807∧∀ f∈t.1.fs,f.nm.length≤9223372036854775807) (vs:=rows) (fun u hu=>by
    obtain ⟨hlen,n,x,hx⟩:=h4 u hu
    obtain ⟨y0,y1,y2,n',_,_,g0,g1,g2⟩:=Deep.trod_struct3 (t:=69) Tryz.underlying69 hx
    obtain ⟨e0',e1',e2',rfl⟩:∃ c0 c1 c2,u=[c0,c1,c2]:=by
      match u,hlen with
      | [c0,c1,c2],_=>exact ⟨c0,c1,c2,rfl⟩
    obtain ⟨k,e0,_,wa1⟩:=DataW.trod_int (k:=.i64) (by kernel_rfl) g0
    obtain ⟨s,e1,_,hsz⟩:=DataW.trod_string (by kernel_rfl) g1
    obtain ⟨fad,fcap,fs,e2,hF,hFn⟩:=open_fields_l g2
    have q0:e0' = .int .i64 k:=by simpa using (show ([e0',e1',e2'].drop 0).take 1=[.int .i64 k] from e0)
    have q1:e1' = .string s:=by simpa using (show ([e0',e1',e2'].drop 1).take 1=[.string s] from e1)
    have q2:e2' = .slice fad fs.length fcap:=by simpa using (show ([e0',e1',e2'].drop 2).take 1=[.slice fad fs.length fcap] from e2)
    subst q0 q1 q2
    have b1:=bounds_i64 wa1
    exact ⟨(⟨k,s.data.toList,fs⟩,fad,fcap),rfl,⟨hF,(show -9223372036854775808≤k∧k<9223372036854775808 by omega)⟩,(show s.data.toList.length≤_ from (by unfold maxLen at hsz;rw [Array.length_toList];exact hsz)),hFn⟩)
  refine ⟨ad,cap,ts.map (·.1),by rw [cV,cV],by rw [cV] at h1 ⊢;exact h1,⟨fun i c hc => ?_,fun c hc => ?_⟩,fun c hc => ?_⟩
  · rw [dJ] at hc
    cases ht:ts[i]? with
    | none=>rw [ht] at hc;cases hc
    | some t =>
      rw [ht] at hc
      simp only [Option.map_some,Option.some.injEq] at hc
      subst hc
      obtain ⟨blk,off,arr,el,fr,g1,g2,g3,g4⟩:=h3 i _ (by rw [dJ,ht];rfl)
      exact ⟨blk,off,arr,el,fr,t.2.1,t.2.2,g1,g2,g3,g4,(h5 t (dB ht)).1.1⟩
  · obtain ⟨t,ht,rfl⟩:=List.mem_map.1 hc
    exact (h5 t ht).1.2
  · obtain ⟨t,ht,rfl⟩:=List.mem_map.1 hc
    exact (h5 t ht).2
theorem cellsS:Tryz.prog.cellsOf 24=2:=by kernel_rfl
theorem open_schema_n {r:Reach} {b0:Nat} {v:Value} {d:DataW H} {p:List MemPlace} (hv:Value.okWide Tryz.prog w r b0 24 v) (h:DataW.Trod enc Tryz.prog w 0 (fun _=>true) true 24 v d p):
    ∃ (ver:Int) (ad:Option Addr) (cap:Nat) (cs:List Cp),v = .agg #[.int .i64 ver,.slice ad cs.length cap]∧cs.length≤cap∧CompsIn (fun b=>w.heap[b]?) ad cs∧NamesIn cs:=by
  obtain ⟨v0,v1,y0,y1,m,rfl,rfl,rfl,hy0,hy1⟩:=open_agg2 Tryz.underlying24 (by kernel_rfl) cellsS hv h
  obtain ⟨x,e0,rfl,_⟩:=DataW.trod_int (k:=.i64) (by kernel_rfl) hy0
  obtain ⟨ad,cap,cs,e1,h1,h2,h3⟩:=open_comps_l hy1
  simp at e0 e1
  subst e0 e1
  exact ⟨x,ad,cap,cs,O,h1,h2,h3⟩
end
end Go.Proofs.YtjifibloagkeeaaGreat
end
section
namespace Go.Lg.Fld
open Go Go.Lg
section
variable {cs:List Cp} {i:Nat} {c:Cp}
theorem cmpE_at (h:cs[i]? = some c):cmpE cs i=if c.id<1∨24<c.id∨(0<i∧c.id≤prevId cs i) then 1
    else if nmB c.nm=true then (if (cs.take i).any (fun g=>g.nm==c.nm)=true then 4 else if firstE (fldE c.fs) 0 c.fs.length=0 then layErr c.fs else 4) else 4:=by unfold cmpE;rw [h]
theorem fldE_at {fs:List Fl} {k:Nat} {f:Fl} (h:fs[k]? = some f):fldE fs k=if nmB f.nm=true then (if (fs.take k).any (fun g=>g.nm==f.nm)=true then 4 else 0) else 4:=by unfold fldE;rw [h]
theorem prev_at {p:Cp} (h:cs[i-1]? = some p):prevId cs i=p.id:=by unfold prevId;rw [h];rfl
end
theorem FieldsIn.nm {X:Nat→Option Obj} {ad:Option Addr} {fs:List Fl} (h:FieldsIn X ad fs) {k:Nat} {f:Fl} (hf:fs[k]? = some f):
    ∃ (blk off:Nat) (arr:Array Value) (el:TypeId) (fr:Nat×Nat),ad=some ⟨blk,off,none⟩∧X blk=some (.cells arr el fr)∧arr[off+k*3]? = some (.string ⟨f.nm.toArray⟩):=by
  obtain ⟨blk,off,arr,el,fr,h1,h2,h3,h4⟩:=h.rows k f.vals (by rw [dJ,hf];rfl)
  exact ⟨blk,off,arr,el,fr,h1,h2,(three_at h4).1⟩
end Go.Lg.Fld
namespace Go.Proofs.YtjifibloagkeeaaGreat
open Go Go.Lg Go.Lg.Fld
set_option maxRecDepth 100000
variable (X:Nat→Option Obj)
abbrev cpB (k:Nat) (c:Cp) (fad:Option Addr) (fcap:Nat):Nat×Option Box:=(k,some ⟨69,[.val (.int .i64 c.id),.val (.string ⟨c.nm.toArray⟩),.val (.slice fad c.fs.length fcap)],false⟩)
set_option maxHeartbeats 6400000 in
theorem sCheck_spec (s:Sc) (ad:Option Addr) (cap:Nat) (hin:CompsIn X ad s.cs) (hbig:s.cs.length<4611686018427387904) (hfs:∀ c∈s.cs,c.fs.length<4611686018427387904):
    PSpec Tryz.prog X 7 [Sx s.ver ad s.cs.length cap] (Ln .i64 (chkE s)):=by
  obtain ⟨ver,cs⟩:=s
  simp only at hin hbig hfs ⊢
  refine cD Tryz.func7 rfl (by kernel_rfl) rfl rfl ?_
  intro C
  unfold chkE
  by_cases hv1:ver<1
  · rw [if_pos (.inl hv1)]
    (refine aA<|rgN<|aL O O O dP<|kas O<|aB<|aA<|aA<|rgN<|kfa O O ?_;refine kl1 O O O<|klt O O (cN hv1)<|kmv O<|aC O O O<|aC O O O<|aC O O O<|kpt O O<|aB<|aE O ?_;refine aA<|rgN<|kas O<|aB<|aI ?_)
    exact ⟨[_],⟨O,trivial⟩,O⟩
  by_cases hv2:1073741824<ver
  · rw [if_pos (.inr hv2)]
    (refine aA<|rgN<|aL O O O dP<|kas O<|aB<|aA<|aA<|rgN<|kfa O O ?_;refine kl1 O O O<|klt O O (cL hv1)<|kmv O<|aN O O (dQ O O) ?_;refine aO O O O (dQ O O) ?_;refine aS O O (cN hv2) (dQ O O) ?_;refine kpf O O<|aB<|aE O ?_;refine aA<|rgN<|kas O<|aB<|aI ?_)
    exact ⟨[_],⟨O,trivial⟩,O⟩
  rw [if_neg (show ¬(ver<1∨1073741824<ver) by omega)]
  (refine aA<|rgN<|aL O O O dP<|kas O<|aB<|aA<|aA<|rgN<|kfa O O ?_;refine kl1 O O O<|klt O O (cL hv1)<|kmv O<|aN O O (dQ O O) ?_;refine aO O O O (dQ O O) ?_;refine aS O O (cL hv2) (dQ O O) ?_;refine kpf O O<|aB<|aF O ?_;refine aH ?_;refine aA<|aA<|rgN<|kas O<|aB<|aG ?_)
  refine cH (fun m σ=>∃ i:Nat,i≤cs.length∧m=cs.length-i∧(∀ j,0≤j→j<i→cmpE cs j=0)∧σ=⟨[(1,Lp 1),(3,Ln .i64 (i:Nat))],[sxB 1 ver ad cs.length cap],X⟩) cs.length
    ⟨_,Le.of (by exact ⟨rfl,rfl,trivial⟩) (by exact ⟨rfl,trivial⟩) (by exact rfl) (by exact rfl) (by repeat' (first|refine bR ?_ ?_|rfl|exact bT|exact bS|exact bU rfl)),0,by omega,by omega,fun j _ hj=>absurd hj (by omega),rfl⟩ ?_
  rintro m σ ⟨i,hi,rfl,hpre,rfl⟩
  by_cases hlt:i<cs.length
  · obtain ⟨c,hc⟩:∃ c,cs[i]? = some c:=⟨_,cW hlt⟩
    obtain ⟨blk,off,arr,el,fr,fad,fcap,rfl,hX,hsz,hcs,g1,g2,g3,hF⟩:=hin.get hc
    have hio:off+Int.toNat (i:Int)*3=off+i*3:=by simp
    have hE:=cmpE_at hc
    have hfb:=hfs c (dB hc)
    have fin:∀ e,cmpE cs i=e→e≠0→firstE (cmpE cs) 0 cs.length=e:=fun e he h0=>firstE_some hpre (Nat.zero_le _) (by omega) he h0
    (refine aA<|aA<|rgN<|kmv O<|kfa O O ?_;refine kl1 O O O<|aQ O bY O dP ?_;refine klt O O (cN (by omega))<|aB<|aE O ?_;refine aH ?_;refine aA<|aG<|aA<|rgN<|kfa O O ?_;refine kl1 O O O<|kmv O<|aR O O bY (by omega) hio dP<|aY O hX (by kernel_rfl) hsz hcs dP<|aP O dP ?_;refine aM O O O O O O dP ?_;refine aB<|aA<|aA ?_)
    refine LWP.le (σ':=⟨[(1,Lp 1),(3,Ln .i64 (i:Nat)),(4,Lp 4)],[sxB 1 ver (some ⟨blk,off,none⟩) cs.length cap,cpB 4 c fad fcap],X⟩) (Le.of (by exact ⟨O,O,O,trivial⟩) (by exact ⟨O,O,trivial⟩) (by exact O) (by exact O) (by repeat' (first|refine bR ?_ ?_|rfl|exact bT|exact bS|exact bU O))) ?_
    by_cases h1:c.id<1
    · rw [if_pos (.inl h1)] at hE
      rw [fin 1 hE (by decide)]
      (refine rgD mixed<|kfa O O ?_;refine kl1 O O O<|klt O O (cN h1)<|kmv O<|aC O O O<|aC O O O<|aC O O O<|kpt O O<|kmv O<|aC O O O<|aC O O O<|aC O O O<|aD O O<|aD O O<|aD O O ?_;refine aD O O<|aD O O<|aD O O<|aD O O<|aD O O<|aD O O<|aD O O<|aC O O O<|kpt O O<|aB<|rgA ?_;refine aE O ?_;refine aA<|rgN<|kas O<|aB<|aI ?_)
      exact ⟨[_],⟨O,trivial⟩,O⟩
    by_cases h2:24<c.id
    · rw [if_pos (.inr (.inl h2))] at hE
      rw [fin 1 hE (by decide)]
      (refine rgD mixed<|kfa O O ?_;refine kl1 O O O<|klt O O (cL h1)<|kmv O<|aN O O (dQ O O) ?_;refine aO O O O (dQ O O) ?_;refine aS O O (cN h2) (dQ O O) ?_;refine kpf O O<|kmv O<|aC O O O<|aC O O O<|aC O O O<|aD O O<|aD O O<|aD O O<|aD O O<|aD O O<|aD O O<|aD O O<|aD O O<|aD O O ?_;refine aD O O<|aC O O O<|kpt O O<|aB<|rgA ?_;refine aE O ?_;refine aA<|rgN<|kas O<|aB<|aI ?_)
      exact ⟨[_],⟨O,trivial⟩,O⟩
    by_cases hbad:0<i∧c.id≤prevId cs i
    · obtain ⟨q,hq⟩:∃ q,cs[i-1]? = some q:=⟨_,cW (by omega)⟩
      rw [if_pos (.inr (.inr hbad))] at hE
      rw [prev_at hq] at hbad
      rw [fin 1 hE (by decide)]
      obtain ⟨blk',off',arr',el',fr',_,_,e1,hX',_,_,g1',_,_,_⟩:=hin.get hq
      simp only [Option.some.injEq,Addr.mk.injEq] at e1
      obtain ⟨rfl,rfl,_⟩:=e1
      rw [hX] at hX'
      simp only [Option.some.injEq,Obj.cells.injEq] at hX'
      obtain ⟨rfl,rfl,rfl⟩:=hX'
      have hsub:IntKind.i64.wrap (((i:Nat):Int)-1)=((i-1:Nat):Int):=by rw [cF (by omega)];omega
      have hio2:off+Int.toNat ((i-1:Nat):Int)*3=off+(i-1)*3:=by rw [dE]
      (refine rgD mixed<|kfa O O ?_;refine kl1 O O O<|klt O O (cL h1)<|kmv O<|aN O O (dQ O O) ?_;refine aO O O O (dQ O O) ?_;refine aS O O (cL h2) (dQ O O) ?_;refine kpf O O<|kmv O<|gmv O O O<|aS O O (cN (by omega)) (dQ O O) ?_;refine gmv O O O<|aN O O (dQ O O) ?_;refine aO O O O (dQ O O) ?_;refine gmv O O O<|bA O O hsub (dQ O O) ?_;refine aR O O bY (by omega) hio2 (dQ O O) ?_;refine bH O O (dQ O O) ?_;refine aW O hX O g1' (dQ O O) ?_;refine aN O O (dQ O O) ?_;refine aO O O O (dQ O O) ?_;refine bD O O (cN hbad.2) (dQ O O) ?_;refine bF O O (dQ O O) ?_;refine kpf O O<|aB<|rgA ?_;refine aE O ?_;refine aA<|rgN<|kas O<|aB<|aI ?_)
      exact ⟨[_],⟨O,trivial⟩,O⟩
    rw [if_neg (show ¬(c.id<1∨24<c.id∨(0<i∧c.id≤prevId cs i)) from fun h=>h.elim h1 fun h=>h.elim h2 hbad)] at hE
    refine LWP.meet0 (fun σ=>σ=⟨[(1,Lp 1),(3,Ln .i64 (i:Nat)),(4,Lp 4),(55,Lb false)],[sxB 1 ver (some ⟨blk,off,none⟩) cs.length cap,cpB 4 c fad fcap],X⟩) ?_ ?_
    · by_cases hi0:i=0
      · subst hi0
        (refine rgD mixed<|kfa O O ?_;refine kl1 O O O<|klt O O (cL h1)<|kmv O<|aN O O (dQ O O) ?_;refine aO O O O (dQ O O) ?_;refine aS O O (cL h2) (dQ O O) ?_;refine kpf O O<|kmv O<|gmv O O O<|aS O O (cL (by omega)) (dQ O O) ?_;refine gmv O O O<|aC O O O<|aC O O O<|aC O O O<|aC O O O<|aC O O O<|aC O O O<|aC O O O<|aC O O O<|aC O O O<|aC O O O<|bN O O (dQ O O) ?_;refine kpf O O<|aB<|rgA ?_)
        exact ⟨_,Le.of (by exact ⟨O,O,O,O,trivial⟩) (by exact ⟨O,O,trivial⟩) (by exact O) (by exact O) (by repeat' (first|refine bR ?_ ?_|rfl|exact bT|exact bS|exact bU O)),O⟩
      · obtain ⟨q,hq⟩:∃ q,cs[i-1]? = some q:=⟨_,cW (by omega)⟩
        rw [prev_at hq] at hbad
        obtain ⟨blk',off',arr',el',fr',_,_,e1,hX',_,_,g1',_,_,_⟩:=hin.get hq
        simp only [Option.some.injEq,Addr.mk.injEq] at e1
        obtain ⟨rfl,rfl,_⟩:=e1
        rw [hX] at hX'
        simp only [Option.some.injEq,Obj.cells.injEq] at hX'
        obtain ⟨rfl,rfl,rfl⟩:=hX'
        have hsub:IntKind.i64.wrap (((i:Nat):Int)-1)=((i-1:Nat):Int):=by rw [cF (by omega)];omega
        have hio2:off+Int.toNat ((i-1:Nat):Int)*3=off+(i-1)*3:=by rw [dE]
        (refine rgD mixed<|kfa O O ?_;refine kl1 O O O<|klt O O (cL h1)<|kmv O<|aN O O (dQ O O) ?_;refine aO O O O (dQ O O) ?_;refine aS O O (cL h2) (dQ O O) ?_;refine kpf O O<|kmv O<|gmv O O O<|aS O O (cN (by omega)) (dQ O O) ?_;refine gmv O O O<|aN O O (dQ O O) ?_;refine aO O O O (dQ O O) ?_;refine gmv O O O<|bA O O hsub (dQ O O) ?_;refine aR O O bY (by omega) hio2 (dQ O O) ?_;refine bH O O (dQ O O) ?_;refine aW O hX O g1' (dQ O O) ?_;refine aN O O (dQ O O) ?_;refine aO O O O (dQ O O) ?_;refine bD O O (cL (by omega)) (dQ O O) ?_;refine bF O O (dQ O O) ?_;refine kpf O O<|aB<|rgA ?_)
        exact ⟨_,Le.of (by exact ⟨O,O,O,O,trivial⟩) (by exact ⟨O,O,trivial⟩) (by exact O) (by exact O) (by repeat' (first|refine bR ?_ ?_|rfl|exact bT|exact bS|exact bU O)),O⟩
    rintro σ rfl
    have hNm:=sName_spec X c.nm
    by_cases hnm:nmB c.nm=true
    · rw [hnm] at hNm
      rw [if_pos hnm] at hE
      (refine aF O ?_;refine aH ?_;refine aA<|aA<|rgN<|kfa O O ?_;refine kl1 O O O<|kca O O (hNm)<|aV O O dP<|aB<|aF O ?_;refine aH ?_;refine aA<|aA<|rgN<|kas O<|aB<|aG ?_)
      refine cH (fun m σ=>∃ k:Nat,k≤i∧m=i-k∧(∀ (j:Nat) (y:Cp),j<k→cs[j]? = some y→(y.nm==c.nm)=false)∧σ=⟨[(1,Lp 1),(3,Ln .i64 (i:Nat)),(4,Lp 4),(5,Ln .i64 (k:Nat))],[sxB 1 ver (some ⟨blk,off,none⟩) cs.length cap,cpB 4 c fad fcap],X⟩) i
        ⟨_,Le.of (by exact ⟨rfl,rfl,rfl,rfl,trivial⟩) (by exact ⟨rfl,rfl,trivial⟩) (by exact rfl) (by exact rfl) (by repeat' (first|refine bR ?_ ?_|rfl|exact bT|exact bS|exact bU rfl)),0,by omega,by omega,fun j y hj=>absurd hj (by omega),rfl⟩ ?_
      rintro m σ ⟨k,hk,rfl,hpre2,rfl⟩
      by_cases hkl:k<i
      · obtain ⟨q,hq⟩:∃ q,cs[k]? = some q:=⟨_,cW (by omega)⟩
        obtain ⟨blk',off',arr',el',fr',_,_,e1,hX',_,_,_,g2',_,_⟩:=hin.get hq
        simp only [Option.some.injEq,Addr.mk.injEq] at e1
        obtain ⟨rfl,rfl,_⟩:=e1
        rw [hX] at hX'
        simp only [Option.some.injEq,Obj.cells.injEq] at hX'
        obtain ⟨rfl,rfl,rfl⟩:=hX'
        have hio2:off+Int.toNat (k:Int)*3=off+k*3:=by simp
        by_cases hqe:q.nm=c.nm
        · rw [any_true hkl hq (by rw [beq_iff_eq];exact hqe),if_pos rfl] at hE
          rw [fin 4 hE (by decide)]
          (refine aA<|aA<|rgN<|kmv O<|kmv O<|klt O O (cN (by omega))<|aB<|aE O ?_;refine aH ?_;refine aA<|aG<|aA<|rgD mixed<|kfa O O ?_;refine kl1 O O O<|kmv O<|aR O O bY (by omega) hio2 dP<|bH O O dP ?_;refine aW O hX O g2' dP<|kfa O O ?_;refine kl1 O O O<|kse O O (strs_eq (r:=true) (by rw [hqe];simp))<|aB<|rgA ?_;refine aE O ?_;refine aA<|rgN<|kas O<|aB<|aI ?_)
          exact ⟨[_],⟨O,trivial⟩,O⟩
        · have hne:(q.nm==c.nm)=false:=cP hqe
          (refine aA<|aA<|rgN<|kmv O<|kmv O<|klt O O (cN (by omega))<|aB<|aE O ?_;refine aH ?_;refine aA<|aG<|aA<|rgD mixed<|kfa O O ?_;refine kl1 O O O<|kmv O<|aR O O bY (by omega) hio2 dP<|bH O O dP ?_;refine aW O hX O g2' dP<|kfa O O ?_;refine kl1 O O O<|kse O O (strs_eq (r:=false) hne)<|aB<|rgA ?_;refine aF O ?_;refine aH ?_;refine rgN<|kmv O<|kad O O (cF (by omega))<|kas O<|aB ?_)
          exact ⟨_,_,by omega,Le.of (by exact ⟨O,O,O,O,trivial⟩) (by exact ⟨O,O,trivial⟩) (by exact O) (by exact O) (by repeat' (first|refine bR ?_ ?_|rfl|exact bT|exact bS|exact bU O)),k+1,by omega,O,(fun j y hj hy=>by
            by_cases e:j=k
            · subst e;rw [hq] at hy;cases hy;exact hne
            · exact hpre2 j y (by omega) hy),rfl⟩
      · rw [any_false fun j y hj hy=>hpre2 j y (by omega) hy,if_neg (by decide)] at hE
        (refine aA<|aA<|rgN<|kmv O<|kmv O<|klt O O (cL (by omega))<|aB<|aF O ?_;refine aJ<|aA<|aA<|rgN<|kas O<|aB<|aG ?_)
        refine cH (fun m σ=>∃ k:Nat,k≤c.fs.length∧m=c.fs.length-k∧(∀ j,0≤j→j<k→fldE c.fs j=0)∧σ=⟨[(1,Lp 1),(3,Ln .i64 (i:Nat)),(4,Lp 4),(6,Ln .i64 (k:Nat))],[sxB 1 ver (some ⟨blk,off,none⟩) cs.length cap,cpB 4 c fad fcap],X⟩) c.fs.length
          ⟨_,Le.of (by exact ⟨rfl,rfl,rfl,rfl,trivial⟩) (by exact ⟨rfl,rfl,trivial⟩) (by exact rfl) (by exact rfl) (by repeat' (first|refine bR ?_ ?_|rfl|exact bT|exact bS|exact bU rfl)),0,by omega,by omega,fun j _ hj=>absurd hj (by omega),rfl⟩ ?_
        rintro m σ ⟨k2,hk2,rfl,hpre3,rfl⟩
        by_cases hk2l:k2<c.fs.length
        · obtain ⟨f,hf⟩:∃ f,c.fs[k2]? = some f:=⟨_,cW hk2l⟩
          obtain ⟨fb,fo,farr,fel,ffr,rfl,hFX,hFc⟩:=hF.nm hf
          have hio3:fo+Int.toNat (k2:Int)*3=fo+k2*3:=by simp
          have hfE:=fldE_at hf
          have hNf:=sName_spec X f.nm
          have bad:fldE c.fs k2=4→cmpE cs i=4:=fun h=>by
            rw [hE,firstE_some hpre3 (Nat.zero_le _) (by omega) h (by decide)];rfl
          by_cases hfn:nmB f.nm=true
          · rw [hfn] at hNf
            rw [if_pos hfn] at hfE
            (refine aA<|aA<|rgN<|kmv O<|kfa O O ?_;refine kl1 O O O<|aQ O bY O dP ?_;refine klt O O (cN (by omega))<|aB<|aE O ?_;refine aH ?_;refine aA<|aG<|aA<|aA<|rgN<|kfa O O ?_;refine kl1 O O O<|kmv O<|aR O O bY (by omega) hio3 dP<|bH O O dP ?_;refine aW O hFX O hFc dP<|kca O O (hNf)<|aV O O dP<|aB<|aF O ?_;refine aH ?_;refine aA<|rgN<|kas O<|aB<|aG ?_)
            refine cH (fun m σ=>∃ k:Nat,k≤k2∧m=k2-k∧(∀ (j:Nat) (y:Fl),j<k→c.fs[j]? = some y→(y.nm==f.nm)=false)∧σ=⟨[(1,Lp 1),(3,Ln .i64 (i:Nat)),(4,Lp 4),(6,Ln .i64 (k2:Nat)),(7,Ln .i64 (k:Nat))],[sxB 1 ver (some ⟨blk,off,none⟩) cs.length cap,cpB 4 c (some ⟨fb,fo,none⟩) fcap],X⟩) k2
              ⟨_,Le.of (by exact ⟨rfl,rfl,rfl,rfl,rfl,trivial⟩) (by exact ⟨rfl,rfl,trivial⟩) (by exact rfl) (by exact rfl) (by repeat' (first|refine bR ?_ ?_|rfl|exact bT|exact bS|exact bU rfl)),0,by omega,by omega,fun j y hj=>absurd hj (by omega),rfl⟩ ?_
            rintro m σ ⟨k3,hk3,rfl,hpre4,rfl⟩
            by_cases hk3l:k3<k2
            · obtain ⟨g,hg⟩:∃ g,c.fs[k3]? = some g:=⟨_,cW (by omega)⟩
              obtain ⟨fb',fo',farr',fel',ffr',e1,hFX',hFc'⟩:=hF.nm hg
              simp only [Option.some.injEq,Addr.mk.injEq] at e1
              obtain ⟨rfl,rfl,_⟩:=e1
              rw [hFX] at hFX'
              simp only [Option.some.injEq,Obj.cells.injEq] at hFX'
              obtain ⟨rfl,rfl,rfl⟩:=hFX'
              have hio4:fo+Int.toNat (k3:Int)*3=fo+k3*3:=by simp
              by_cases hge:g.nm=f.nm
              · rw [any_true hk3l hg (by rw [beq_iff_eq];exact hge),if_pos rfl] at hfE
                rw [fin 4 (bad hfE) (by decide)]
                (refine aA<|aA<|rgN<|kmv O<|kmv O<|klt O O (cN (by omega))<|aB<|aE O ?_;refine aH ?_;refine aA<|aG<|aA<|rgD mixed<|kfa O O ?_;refine kl1 O O O<|kmv O<|aR O O bY (by omega) hio4 dP<|bH O O dP ?_;refine aW O hFX O hFc' dP<|kfa O O ?_;refine kl1 O O O<|kmv O<|aR O O bY (by omega) hio3 dP<|bH O O dP ?_;refine aW O hFX O hFc dP<|kse O O (strs_eq (r:=true) (by rw [hge];simp))<|aB<|rgA ?_;refine aE O ?_;refine aA<|rgN<|kas O<|aB<|aI ?_)
                exact ⟨[_],⟨O,trivial⟩,O⟩
              · have hne:(g.nm==f.nm)=false:=cP hge
                (refine aA<|aA<|rgN<|kmv O<|kmv O<|klt O O (cN (by omega))<|aB<|aE O ?_;refine aH ?_;refine aA<|aG<|aA<|rgD mixed<|kfa O O ?_;refine kl1 O O O<|kmv O<|aR O O bY (by omega) hio4 dP<|bH O O dP ?_;refine aW O hFX O hFc' dP<|kfa O O ?_;refine kl1 O O O<|kmv O<|aR O O bY (by omega) hio3 dP<|bH O O dP ?_;refine aW O hFX O hFc dP<|kse O O (strs_eq (r:=false) hne)<|aB<|rgA ?_;refine aF O ?_;refine aH ?_;refine rgN<|kmv O<|kad O O (cF (by omega))<|kas O<|aB ?_)
                exact ⟨_,_,by omega,Le.of (by exact ⟨O,O,O,O,O,trivial⟩) (by exact ⟨O,O,trivial⟩) (by exact O) (by exact O) (by repeat' (first|refine bR ?_ ?_|rfl|exact bT|exact bS|exact bU O)),k3+1,by omega,O,(fun j y hj hy=>by
                  by_cases e:j=k3
                  · subst e;rw [hg] at hy;cases hy;exact hne
                  · exact hpre4 j y (by omega) hy),rfl⟩
            · rw [any_false fun j y hj hy=>hpre4 j y (by omega) hy,if_neg (by decide)] at hfE
              (refine aA<|aA<|rgN<|kmv O<|kmv O<|klt O O (cL (by omega))<|aB<|aF O ?_;refine aJ<|rgN<|kmv O<|kad O O (cF (by omega))<|kas O<|aB ?_)
              exact ⟨_,_,by omega,Le.of (by exact ⟨O,O,O,O,trivial⟩) (by exact ⟨O,O,trivial⟩) (by exact O) (by exact O) (by repeat' (first|refine bR ?_ ?_|rfl|exact bT|exact bS|exact bU O)),k2+1,by omega,O,(fun j h0 hj=>by
                by_cases e:j=k2
                · rw [e];exact hfE
                · exact hpre3 j h0 (by omega)),rfl⟩
          · rw [if_neg hfn] at hfE
            rw [fin 4 (bad hfE) (by decide)]
            rw [show nmB f.nm=false by simpa using hfn] at hNf
            (refine aA<|aA<|rgN<|kmv O<|kfa O O ?_;refine kl1 O O O<|aQ O bY O dP ?_;refine klt O O (cN (by omega))<|aB<|aE O ?_;refine aH ?_;refine aA<|aG<|aA<|aA<|rgN<|kfa O O ?_;refine kl1 O O O<|kmv O<|aR O O bY (by omega) hio3 dP<|bH O O dP ?_;refine aW O hFX O hFc dP<|kca O O (hNf)<|aV O O dP<|aB<|aE O ?_;refine aA<|rgN<|kas O<|aB<|aI ?_)
            exact ⟨[_],⟨O,trivial⟩,O⟩
        · rw [show firstE (fldE c.fs) 0 c.fs.length=0 from firstE_none fun j h0 hj=>hpre3 j h0 (by omega),if_pos rfl] at hE
          by_cases hl:layErr c.fs=0
          · have hL:=Lay_ok X fad fcap c.fs hF hfb hl
            rw [hl] at hE
            generalize elemsAt 0 c.fs=E at *
            generalize startsAt 0 c.fs=S at *
            generalize rowSize c.fs=T at *
            (refine aA<|aA<|rgN<|kmv O<|kfa O O ?_;refine kl1 O O O<|aQ O bY O dP ?_;refine klt O O (cL (by omega))<|aB<|aF O ?_;refine aJ<|aA<|rgN<|kfa O O ?_;refine kl1 O O O<|bE [(1000001,501),(1000002,502)] (.tup [.one (.slc 501 0 E.length 2),Sn .i64 (T:Nat),.one (.slc 502 0 c.fs.length 1),Sn .i64 0]) [(501,some ⟨119,(elVs E).map .val,Nat.blt 0 E.length⟩),(502,some ⟨3,(ntV S).map .val,Nat.blt 0 c.fs.length⟩)] (hL) O O (by exact trivial) O O O O O (by exact (.box O (bW _ _ _ _) (.box O (bW _ _ _ _) .nil))) dP<|kmv O<|kex O O<|kex O O<|kex O O<|kex O O<|kas O<|kas O<|kas O<|kas O<|aB<|aA<|rgN ?_;refine kmv O<|kne O O ((cQ (by omega)))<|aB<|aF O ?_;refine aH ?_;refine rgN<|kmv O<|kad O O (cF (by omega))<|kas O<|aB ?_)
            exact ⟨_,_,by omega,Le.of (by exact ⟨O,O,trivial⟩) (by exact ⟨O,trivial⟩) (by exact O) (by exact O) (by repeat' (first|refine bR ?_ ?_|rfl|exact bT|exact bS|exact bU O)),i+1,by omega,O,(fun j h0 hj=>by
              by_cases e:j=i
              · rw [e];exact hE
              · exact hpre j h0 (by omega)),rfl⟩
          · have hL:=Lay_no X fad fcap c.fs hF hfb hl
            rw [fin _ hE hl]
            generalize layErr c.fs=e at *
            (refine aA<|aA<|rgN<|kmv O<|kfa O O ?_;refine kl1 O O O<|aQ O bY O dP ?_;refine klt O O (cL (by omega))<|aB<|aF O ?_;refine aJ<|aA<|rgN<|kfa O O ?_;refine kl1 O O O<|aU [] [] (hL) O O (by exact trivial) O O O O O (by exact .nil) dP<|kmv O<|kex O O<|kex O O<|kex O O<|kex O O<|kas O<|kas O<|kas O<|kas O<|aB<|aA<|rgN ?_;refine kmv O<|kne O O (cR (by omega))<|aB<|aE O ?_;refine aA<|rgN<|kmv O<|kas O<|aB<|aI ?_)
            exact ⟨[_],⟨O,trivial⟩,O⟩
    · rw [if_neg hnm] at hE
      rw [fin 4 hE (by decide)]
      rw [show nmB c.nm=false by simpa using hnm] at hNm
      (refine aF O ?_;refine aH ?_;refine aA<|aA<|rgN<|kfa O O ?_;refine kl1 O O O<|kca O O (hNm)<|aV O O dP<|aB<|aE O ?_;refine aA<|rgN<|kas O<|aB<|aI ?_)
      exact ⟨[_],⟨O,trivial⟩,O⟩
  · rw [show firstE (cmpE cs) 0 cs.length=0 from firstE_none fun j h0 hj=>hpre j h0 (by omega)]
    (refine aA<|aA<|rgN<|kmv O<|kfa O O ?_;refine kl1 O O O<|aQ O bY O dP ?_;refine klt O O (cL (by omega))<|aB<|aF O ?_;refine aJ<|aA<|rgN<|kas O<|aB<|aI ?_)
    exact ⟨[_],⟨O,trivial⟩,O⟩
end Go.Proofs.YtjifibloagkeeaaGreat
end
section
namespace Go.Lg.Fld
open Go Go.Lg
def rowsZ:List Cp→List Value→List Value
  | c::cs,v::vs=>.int .i64 c.id :: .string ⟨c.nm.toArray⟩::v::rowsZ cs vs
  | _,_=>[]
theorem rowsZ_len:∀ {cs:List Cp} {cells:List Value},cells.length=cs.length→(rowsZ cs cells).length=cs.length*3
  | [],[],_=>rfl
  | c::cs,v::vs,h=>by
    simp only [rowsZ,dG] at h ⊢
    rw [rowsZ_len (cs:=cs) (cells:=vs) (by omega)];omega
  | [],_::_,h=>by simp at h
  | _::_,[],h=>by simp at h
theorem rowsZ_split:∀ {cs:List Cp} {cells:List Value} {i:Nat} {c:Cp} {v:Value},cs[i]? = some c→cells[i]? = some v →
    rowsZ cs cells=rowsZ (cs.take i) (cells.take i) ++ .int .i64 c.id :: .string ⟨c.nm.toArray⟩::v::rowsZ (cs.drop (i+1)) (cells.drop (i+1))
  | [],_,i,c,v,h,_=>by simp at h
  | _::_,[],i,c,v,_,h=>by simp at h
  | a::cs,u::vs,0,c,v,h1,h2=>by
    simp only [List.getElem?_cons_zero,Option.some.injEq] at h1 h2
    subst h1 h2
    rfl
  | a::cs,u::vs,i+1,c,v,h1,h2=>by
    simp only [List.getElem?_cons_succ] at h1 h2
    simp only [rowsZ,List.take_succ_cons,List.drop_succ_cons,List.cons_append]
    rw [rowsZ_split h1 h2]
def flV (fs:List Fl):List Value:=(fs.map Fl.vals).flatten
theorem flV_len (fs:List Fl):(flV fs).length=fs.length*3:=by
  unfold flV
  induction fs with
  | nil=>rfl
  | cons f t ih=>rw [List.map_cons,List.flatten_cons,cU,ih,dG];simp [Fl.vals];omega
theorem flV_at:∀ {fs:List Fl} {k:Nat} {f:Fl},fs[k]? = some f→k*3+3≤(flV fs).length∧((flV fs).drop (k*3)).take 3=f.vals
  | [],k,f,h=>by simp at h
  | a::t,0,f,h=>by
    simp only [List.getElem?_cons_zero,Option.some.injEq] at h
    subst h
    refine ⟨by rw [flV_len,dG];omega,?_⟩
    unfold flV
    rw [Nat.zero_mul,List.drop_zero,List.map_cons,List.flatten_cons,List.take_append_of_le_length (by simp [Fl.vals])]
    rfl
  | a::t,k+1,f,h=>by
    obtain ⟨h1,h2⟩:=flV_at (fs:=t) (k:=k) (f:=f) (by simpa using h)
    refine ⟨by rw [flV_len] at h1 ⊢;simp;omega,?_⟩
    rw [← h2]
    unfold flV
    rw [List.map_cons,List.flatten_cons,show (k+1)*3=a.vals.length+k*3 by simp [Fl.vals];omega,List.drop_length_add_append]
theorem fields_block {Y:Nat→Option Obj} {blk:Nat} {arr:Array Value} {el:TypeId} {fr:Nat×Nat} {fs:List Fl} {sp:List Value} (hY:Y blk=some (.cells arr el fr)) (ha:arr.toList=flV fs++sp)
    (hs:∀ f∈fs,(-9223372036854775808≤f.kind∧f.kind<9223372036854775808)∧(-9223372036854775808≤f.count∧f.count<9223372036854775808)):FieldsIn Y (some ⟨blk,0,none⟩) fs:=by
  refine ⟨fun k r hr => ?_,hs⟩
  rw [dJ] at hr
  cases hf:fs[k]? with
  | none=>rw [hf] at hr;cases hr
  | some f =>
    rw [hf] at hr
    simp only [Option.map_some,Option.some.injEq] at hr
    subst hr
    obtain ⟨h1,h2⟩:=flV_at hf
    refine ⟨blk,0,arr,el,fr,O,hY,?_,?_⟩
    · rw [← Array.length_toList,ha,cU];omega
    · rw [ha,Nat.zero_add,List.drop_append_of_le_length (by omega),List.take_append_of_le_length (by rw [cZ];omega)];exact h2
def InB (cs:List Cp):Prop := ∀ c∈cs,(-9223372036854775808≤c.id∧c.id<9223372036854775808)∧∀ f∈c.fs,(-9223372036854775808≤f.kind∧f.kind<9223372036854775808)∧(-9223372036854775808≤f.count∧f.count<9223372036854775808)
theorem leaf_in {Y:Nat→Option Obj} {v:Value} {el:TypeId} {fs:List Fl} (h:SliceZ Y v el 3 (flV fs))
    (hs:∀ f∈fs,(-9223372036854775808≤f.kind∧f.kind<9223372036854775808)∧(-9223372036854775808≤f.count∧f.count<9223372036854775808)):∃ fad fcap,v = .slice fad fs.length fcap∧FieldsIn Y fad fs:=by
  rcases h with ⟨h0,ad,cap,rfl⟩|⟨b,⟨len,cap,arr,fr,rfl,h2,h3,h4,h5,sp,h6⟩,h0⟩
  · have hl:fs.length=0:=by have:=flV_len fs;rw [h0,dM] at this;omega
    have e:fs=[]:=List.eq_nil_of_length_eq_zero hl
    subst e
    exact ⟨ad,cap,rfl,fun k r hr=>(by simp at hr),fun f hf=>(by cases hf)⟩
  · rw [flV_len] at h2
    have e:fs.length=len:=by omega
    subst e
    exact ⟨some ⟨b,0,none⟩,cap,O,fields_block h5 h6 hs⟩
theorem comps_block {Y:Nat→Option Obj} {blk:Nat} {arr:Array Value} {el fel:TypeId} {fr:Nat×Nat} {cs:List Cp} {cells sp:List Value} (hY:Y blk=some (.cells arr el fr)) (ha:arr.toList=rowsZ cs cells++sp) (hl:cells.length=cs.length) (hb:InB cs)
    (hf:∀ (i:Nat) (c:Cp) (v:Value),cs[i]? = some c→cells[i]? = some v→SliceZ Y v fel 3 (flV c.fs)):CompsIn Y (some ⟨blk,0,none⟩) cs:=by
  refine ⟨fun i c hc => ?_,fun c hc=>(hb c hc).1⟩
  have hi:=(List.getElem?_eq_some_iff.1 hc).1
  obtain ⟨v,hv⟩:∃ v,cells[i]? = some v:=⟨_,cW (by omega)⟩
  obtain ⟨fad,fcap,rfl,hF⟩:=leaf_in (hf i c v hc hv) (hb c (dB hc)).2
  have hpre:(rowsZ (cs.take i) (cells.take i)).length=i*3:=by rw [rowsZ_len (by rw [cY,cY,hl]),cY,Nat.min_eq_left (by omega)]
  refine ⟨blk,0,arr,el,fr,fad,fcap,O,hY,?_,?_,hF⟩
  · rw [← Array.length_toList,ha,cU,rowsZ_len hl];omega
  · rw [ha,rowsZ_split hc hv,Nat.zero_add,dK,← hpre,List.drop_left];rfl
end Go.Lg.Fld
namespace Go.Proofs.YtjifibloagkeeaaGreat
open Go Go.Lg Go.Lg.Fld
set_option maxRecDepth 100000
def scR (cs:List Cp):Rsc:=⟨fun ρ H=>∃ (arr:Array Value) (fr:Nat×Nat) (cells sp:List Value),
  H ρ.1=some (.cells arr 69 fr)∧arr.size=ρ.2∧arr.toList=rowsZ cs cells++sp∧Twigs (cutM H ρ.1) 79 3 [] cells (cs.map fun c=>flV c.fs)∧InB cs⟩
abbrev scB (k:Nat) (cs:List Cp):Nat×Option Box:=(k,some ⟨0,[],.res (scR cs)⟩)
theorem scR_root (cs:List Cp):∀ ρ H,(scR cs).holds ρ H→∃ vals el fr,H ρ.1=some (.cells vals el fr)∧vals.size=ρ.2:=fun ρ H h=>by
  obtain ⟨arr,fr,cells,sp,h1,h2,_⟩:=h
  exact ⟨arr,_,fr,h1,h2⟩
theorem scR_in {cs:List Cp} {blk m:Nat} {H Y:Nat→Option Obj} (h:(scR cs).holds (blk,m) H) (hY:∀ b o,H b=some o→Y b=some o):CompsIn Y (some ⟨blk,0,none⟩) cs:=by
  obtain ⟨arr,fr,cells,sp,h1,_,h3,G,hb⟩:=h
  have hl:cells.length=cs.length:=by rw [G.len,cV]
  refine comps_block (fel:=79) (hY _ _ h1) h3 hl hb fun i c v hc hv => ?_
  refine (G.at_ i v (flV c.fs) (by simp) hv (by rw [dJ,hc];rfl)).mono fun b hb' => ?_
  have hne:=G.some_of (by simp) hv hb'
  cases hc2:cutM H blk b with
  | none=>exact absurd hc2 hne
  | some o=>exact hY b o (cutM_some hc2).2
end Go.Proofs.YtjifibloagkeeaaGreat
end
section
namespace Go.Lg.Fld
open Go Go.Lg
def nmM (ns:List (List UInt8)):List (Value×Value):=ns.map fun l=>(.string ⟨l.toArray⟩,.agg #[])
theorem nmM_at (ns:List (List UInt8)) (l:List UInt8):At (nmM ns) (.string ⟨l.toArray⟩) (.agg #[]) (.agg #[]):=by
  by_cases h:l∈ns
  · exact .inl (List.mem_map.2 ⟨l,h,rfl⟩)
  · refine .inr ⟨fun p hp e => ?_,rfl⟩
    obtain ⟨l',hl',rfl⟩:=List.mem_map.1 hp
    simp only [Value.string.injEq,ByteArray.mk.injEq] at e
    exact h (by rw [show l=l' from (List.toArray_inj e.symm)];exact hl')
theorem nmM_any (ns:List (List UInt8)) (l:List UInt8) (r:Bool) (hr:ns.any (fun m=>m==l)=r):r=true↔∃ p∈nmM ns,p.1 = .string ⟨l.toArray⟩:=by
  subst hr
  rw [List.any_eq_true]
  constructor
  · rintro ⟨m,hm,he⟩
    rw [beq_iff_eq] at he
    subst he
    exact ⟨_,List.mem_map.2 ⟨m,hm,O⟩,O⟩
  · rintro ⟨p,hp,e⟩
    obtain ⟨l',hl',rfl⟩:=List.mem_map.1 hp
    simp only [Value.string.injEq,ByteArray.mk.injEq] at e
    exact ⟨l',hl',by rw [beq_iff_eq];exact List.toArray_inj e⟩
theorem nmM_put {ns:List (List UInt8)} {l:List UInt8} (h:ns.any (fun m=>m==l)=false):Put (nmM ns) (.string ⟨l.toArray⟩) (.agg #[]) (nmM (ns++[l])):=by
  refine .inr ⟨fun p hp e => ?_,by unfold nmM;rw [dF];rfl⟩
  obtain ⟨l',hl',rfl⟩:=List.mem_map.1 hp
  simp only [Value.string.injEq,ByteArray.mk.injEq] at e
  rw [List.any_eq_false] at h
  exact h l' hl' (by rw [beq_iff_eq];exact List.toArray_inj e)
end Go.Lg.Fld
namespace Go.Proofs.YtjifibloagkeeaaGreat
open Go Go.Lg Go.Lg.Fld
set_option maxRecDepth 100000
variable (X:Nat→Option Obj)
theorem isLetter_spec (c:UInt8):PSpec Tryz.prog X 97 [Ln .u8 (c.toNat:Nat)] (Lb (letB c)):=by
  refine cD Tryz.func97 rfl (by kernel_rfl) rfl rfl ?_
  intro C
  unfold letB
  by_cases h:97≤c.toNat
  · rw [cN h,Bool.true_and]
    (refine aA<|rgN<|kas O<|aB<|aA<|rgN<|kmv O<|K.leq O O (cN (by omega)) dP<|kmv O<|gmv O O O<|K.leq O O (r:=decide (c.toNat≤122)) (by rw [decide_eq_decide];omega) (dQ O O) ?_;refine kpt O O<|kas O<|aB<|aI ?_)
    exact ⟨[_],⟨O,trivial⟩,O⟩
  · rw [cL h,Bool.false_and]
    (refine aA<|rgN<|kas O<|aB<|aA<|rgN<|kmv O<|K.leq O O (cL (by omega)) dP<|kmv O<|aC O O O<|aC O O O<|kpf O O<|kas O<|aB ?_;refine aI ?_)
    exact ⟨[_],⟨O,trivial⟩,O⟩
theorem isDigit_spec (c:UInt8):PSpec Tryz.prog X 98 [Ln .u8 (c.toNat:Nat)] (Lb (digB c)):=by
  refine cD Tryz.func98 rfl (by kernel_rfl) rfl rfl ?_
  intro C
  unfold digB
  by_cases h:48≤c.toNat
  · rw [cN h,Bool.true_and]
    (refine aA<|rgN<|kas O<|aB<|aA<|rgN<|kmv O<|K.leq O O (cN (by omega)) dP<|kmv O<|gmv O O O<|K.leq O O (r:=decide (c.toNat≤57)) (by rw [decide_eq_decide];omega) (dQ O O) ?_;refine kpt O O<|kas O<|aB<|aI ?_)
    exact ⟨[_],⟨O,trivial⟩,O⟩
  · rw [cL h,Bool.false_and]
    (refine aA<|rgN<|kas O<|aB<|aA<|rgN<|kmv O<|K.leq O O (cL (by omega)) dP<|kmv O<|aC O O O<|aC O O O<|kpf O O<|kas O<|aB ?_;refine aI ?_)
    exact ⟨[_],⟨O,trivial⟩,O⟩
theorem nmC_zero (l:List UInt8):nmC l 0=letB (l.getD 0 0):=by unfold nmC;simp
theorem nmC_more {l:List UInt8} {i:Nat} (h:nmC l 0=true):nmC l i=(letB (l.getD i 0)||digB (l.getD i 0)):=by
  unfold nmC
  by_cases e:i=0
  · subst e
    rw [nmC_zero] at h
    rw [h];simp
  · simp [e]
theorem pIsName (l:List UInt8) (r:Bool) (hr:nmB l=r):PSpec Tryz.prog X 74 [Ls l] (Lb r):=by
  subst hr
  refine cD Tryz.func74 rfl (by kernel_rfl) rfl rfl ?_
  intro C
  have hlen:(⟨l.toArray⟩:ByteArray).size=l.length:=rfl
  by_cases h1:l.length<1
  · rw [show nmB l=false by unfold nmB;rw [cL (by omega)];rfl]
    (refine aA<|rgN<|kas O<|aB<|aA<|aA<|rgN<|kmv O<|kln O<|klt O O (cN (by rw [hlen];omega))<|kmv O<|aC O O O<|aC O O O<|aC O O O ?_;refine kpt O O<|kmv O<|aC O O O<|aC O O O<|aC O O O<|aC O O O<|kpt O O<|aB<|aE O ?_;refine aA<|rgN<|kas O<|aB<|aI ?_)
    exact ⟨[_],⟨O,trivial⟩,O⟩
  by_cases h2:12<l.length
  · rw [show nmB l=false by unfold nmB;rw [cL (show ¬l.length≤12 by omega)];simp]
    (refine aA<|rgN<|kas O<|aB<|aA<|aA<|rgN<|kmv O<|kln O<|klt O O (cL (by rw [hlen];omega))<|kmv O<|gmv O O O<|K.lenStr O (dQ O O) ?_;refine aS O O (cN (by rw [hlen];omega)) (dQ O O) ?_;refine kpf O O<|kmv O<|aC O O O<|aC O O O<|aC O O O<|aC O O O<|kpt O O<|aB<|aE O ?_;refine aA<|rgN<|kas O<|aB<|aI ?_)
    exact ⟨[_],⟨O,trivial⟩,O⟩
  obtain ⟨c0,hc0⟩:∃ c,l[0]? = some c:=⟨_,cW (by omega)⟩
  have hget0:(⟨l.toArray⟩:ByteArray)[(0:Int).toNat]? = some c0:=str_at hc0
  have hz:nmC l 0=letB c0:=by rw [nmC_zero,getD_of hc0]
  have hL:=isLetter_spec X c0
  cases h0:letB c0 with
  | false =>
    rw [nmB_false (i:=0) (by omega) (hz.trans h0)]
    rw [h0] at hL
    (refine aA<|rgN<|kas O<|aB<|aA<|aA<|rgN<|kmv O<|kln O<|klt O O (cL (by rw [hlen];omega))<|kmv O<|gmv O O O<|K.lenStr O (dQ O O) ?_;refine aS O O (cL (by rw [hlen];omega)) (dQ O O) ?_;refine kpf O O<|kmv O<|gmv O O O<|bB O O (by omega) hget0 (dQ O O) ?_;refine gca O O (hL) O O<|aV O O (dQ O O) ?_;refine kpf O O<|aB<|aE O ?_;refine aA<|rgN<|kas O<|aB<|aI ?_)
    exact ⟨[_],⟨O,trivial⟩,O⟩
  | true =>
    have hz1:=hz.trans h0
    rw [h0] at hL
    (refine aA<|rgN<|kas O<|aB<|aA<|aA<|rgN<|kmv O<|kln O<|klt O O (cL (by rw [hlen];omega))<|kmv O<|gmv O O O<|K.lenStr O (dQ O O) ?_;refine aS O O (cL (by rw [hlen];omega)) (dQ O O) ?_;refine kpf O O<|kmv O<|gmv O O O<|bB O O (by omega) hget0 (dQ O O) ?_;refine gca O O (hL) O O<|aV O O (dQ O O) ?_;refine kpf O O<|aB<|aF O ?_;refine aH ?_;refine aA<|aA<|rgN<|kmv O<|kln O<|kmv O<|aB<|aG ?_)
    refine cH (fun m σ=>∃ i:Nat,i≤l.length∧m=l.length-i∧(∀ j,j<i→nmC l j=true)∧σ=⟨[(0,Ls l),(19,Ln .i64 (l.length:Nat)),(20,Ln .i64 (i:Nat))],[],X⟩) l.length
      ⟨_,Le.of (by exact ⟨rfl,rfl,rfl,trivial⟩) (by exact trivial) (by exact rfl) (by exact rfl) (by exact rfl),0,by omega,by omega,fun j hj=>absurd hj (by omega),rfl⟩ ?_
    rintro m σ ⟨i,hi,rfl,hpre,rfl⟩
    by_cases hlt:i<l.length
    · obtain ⟨c,hc⟩:∃ c,l[i]? = some c:=⟨_,cW hlt⟩
      have hN:nmC l i=(letB c||digB c):=by rw [nmC_more hz1,getD_of hc]
      have hget:(⟨l.toArray⟩:ByteArray)[(i:Int).toNat]? = some c:=str_at (by rw [dE];exact hc)
      have hA:=isLetter_spec X c
      have hB:=isDigit_spec X c
      have key:nmC l i=true→∀ j,j<i+1→nmC l j=true:=fun hok j hj=>by
        by_cases e:j=i
        · rw [e];exact hok
        · exact hpre j (by omega)
      cases ha:letB c with
      | true =>
        rw [ha] at hA
        (refine aA<|rgN<|klt O O (cN (by omega))<|aB<|aA<|aE O ?_;refine aH ?_;refine aA<|aG<|aA<|rgN<|kmv O<|kas O<|aB<|aA<|rgN<|kmv O<|kmv O<|bB O O (by omega) hget dP<|kca O O (hA)<|aV O O dP ?_;refine kmv O<|aC O O O<|aC O O O<|aC O O O<|aC O O O<|aC O O O<|kpf O O<|aB<|aF O ?_;refine aH ?_;refine rgN<|kad O O (cF (by omega))<|kmv O<|aB ?_)
        exact ⟨_,_,by omega,Le.of (by exact ⟨rfl,rfl,rfl,trivial⟩) (by exact trivial) (by exact rfl) (by exact rfl) (by exact rfl),i+1,by omega,rfl,key (by rw [hN,ha];rfl),rfl⟩
      | false =>
        rw [ha] at hA
        cases hb:digB c with
        | true =>
          rw [hb] at hB
          (refine aA<|rgN<|klt O O (cN (by omega))<|aB<|aA<|aE O ?_;refine aH ?_;refine aA<|aG<|aA<|rgN<|kmv O<|kas O<|aB<|aA<|rgN<|kmv O<|kmv O<|bB O O (by omega) hget dP<|kca O O (hA)<|aV O O dP ?_;refine kmv O<|gmv O O O<|gmv O O O<|bB O O (by omega) hget (dQ O O) ?_;refine gca O O (hB) O O<|aV O O (dQ O O) ?_;refine kpt O O<|aB<|aF O ?_;refine aH ?_;refine rgN<|kad O O (cF (by omega))<|kmv O<|aB ?_)
          exact ⟨_,_,by omega,Le.of (by exact ⟨rfl,rfl,rfl,trivial⟩) (by exact trivial) (by exact rfl) (by exact rfl) (by exact rfl),i+1,by omega,rfl,key (by rw [hN,ha,hb];rfl),rfl⟩
        | false =>
          rw [hb] at hB
          rw [nmB_false hlt (by rw [hN,ha,hb];rfl)]
          (refine aA<|rgN<|klt O O (cN (by omega))<|aB<|aA<|aE O ?_;refine aH ?_;refine aA<|aG<|aA<|rgN<|kmv O<|kas O<|aB<|aA<|rgN<|kmv O<|kmv O<|bB O O (by omega) hget dP<|kca O O (hA)<|aV O O dP ?_;refine kmv O<|gmv O O O<|gmv O O O<|bB O O (by omega) hget (dQ O O) ?_;refine gca O O (hB) O O<|aV O O (dQ O O) ?_;refine kpt O O<|aB<|aE O ?_;refine aA<|rgN<|kas O<|aB<|aI ?_)
          exact ⟨[_],⟨O,trivial⟩,O⟩
    · rw [nmB_true (by omega) (by omega) (fun j hj=>hpre j (by omega))]
      (refine aA<|rgN<|klt O O (cL (by omega))<|aB<|aA<|aF O ?_;refine aJ<|aA<|rgN<|kas O<|aB<|aI ?_)
      exact ⟨[_],⟨O,trivial⟩,O⟩
abbrev nmBx (k:Nat) (ns:List (List UInt8)):Nat×Option Box:=(k,some ⟨0,[],.res (mapR Tryz.prog 9 (nmM ns))⟩)
abbrev Lmp (k:Nat):LV:=.sv (.one (.mp k))
theorem take_ok (ns:List (List UInt8)) (l:List UInt8) (hl:l.length≤9223372036854775807) (h1:ns.any (fun m=>m==l)=false) (h2:nmB l=true):
    MSpec Tryz.prog X 49 [Lmp 1000000,Ls l] [nmBx 1000000 ns] (Lb true) [nmBx 1000000 (ns++[l])]:=by
  refine cE Tryz.func49 rfl (by kernel_rfl) rfl rfl (by exact (by repeat' (first|refine bR ?_ ?_|rfl|exact bT|exact bS|exact bU rfl))) rfl rfl ?_
  intro C
  have hN:=pIsName X l true h2
  have hkey:Go.keyOf Tryz.prog 9 (.string ⟨l.toArray⟩)=some (.string l):=by
    rw [WideMaps.keyOf_string_mk (by kernel_rfl) (by show l.length≤maxLen;unfold maxLen;omega)]
  (refine aA<|rgN<|kas O<|aB<|aA<|aA<|rgN<|kmv O<|kmv O<|K.lookupOk (et:=155) (.agg []) (v:=.agg #[]) (z:=.agg #[]) O O O (by kernel_rfl) (KL.str (by kernel_rfl)) hkey (by kernel_rfl) (nmM_at ns l) agg0_rel (nmM_any ns l false h1) dP ?_;refine kmv O<|kex O O<|kex O O<|aP O dP ?_;refine aM O O O O O O dP ?_;refine kas O<|aB<|aA<|rgN<|kmv O<|kmv O<|gmv O O O<|gca O O (hN) O O<|aV O O (dQ O O) ?_;refine kpf O O<|aB<|aF O ?_;refine aH ?_;refine aA<|rgN<|kmv O<|kmv O<|aT O O (by exact O) (by exact nl0 O) dP ?_;refine K.mapPut (et:=155) (nmM (ns++[l])) O O O O (by kernel_rfl) (KL.str (by kernel_rfl)) hkey (nmM_put h1) dP ?_;refine aB<|aA<|rgN<|kas O<|aB<|aI ?_)
  exact ⟨[],⟨[_],⟨rfl,trivial⟩,rfl⟩,(by repeat' (first|exact trivial|refine cO ⟨_,rfl,?_⟩ ?_|refine cO ⟨_,rfl⟩ ?_|rfl|exact bV _ _ _ _|exact bW _ _ _ _|exact bX rfl)),rfl,rfl⟩
theorem take_no (ns:List (List UInt8)) (l:List UInt8) (hl:l.length≤9223372036854775807) (h:ns.any (fun m=>m==l)=true∨nmB l=false):
    MSpec Tryz.prog X 49 [Lmp 1000000,Ls l] [nmBx 1000000 ns] (Lb false) [nmBx 1000000 ns]:=by
  refine cE Tryz.func49 rfl (by kernel_rfl) rfl rfl (by exact (by repeat' (first|refine bR ?_ ?_|rfl|exact bT|exact bS|exact bU rfl))) rfl rfl ?_
  intro C
  have hkey:Go.keyOf Tryz.prog 9 (.string ⟨l.toArray⟩)=some (.string l):=by
    rw [WideMaps.keyOf_string_mk (by kernel_rfl) (by show l.length≤maxLen;unfold maxLen;omega)]
  cases h1:ns.any (fun m=>m==l) with
  | true =>
    (refine aA<|rgN<|kas O<|aB<|aA<|aA<|rgN<|kmv O<|kmv O<|K.lookupOk (et:=155) (.agg []) (v:=.agg #[]) (z:=.agg #[]) O O O (by kernel_rfl) (KL.str (by kernel_rfl)) hkey (by kernel_rfl) (nmM_at ns l) agg0_rel (nmM_any ns l true h1) dP ?_;refine kmv O<|kex O O<|kex O O<|aP O dP ?_;refine aM O O O O O O dP ?_;refine kas O<|aB<|aA<|rgN<|kmv O<|kmv O<|aC O O O<|aC O O O<|aC O O O<|kpt O O<|aB<|aE O ?_;refine aA<|rgN<|kas O<|aB<|aI ?_)
    exact ⟨[],⟨[_],⟨rfl,trivial⟩,rfl⟩,(by repeat' (first|exact trivial|refine cO ⟨_,rfl,?_⟩ ?_|refine cO ⟨_,rfl⟩ ?_|rfl|exact bV _ _ _ _|exact bW _ _ _ _|exact bX rfl)),rfl,rfl⟩
  | false =>
    have hN:=pIsName X l false (h.resolve_left (by rw [h1];decide))
    (refine aA<|rgN<|kas O<|aB<|aA<|aA<|rgN<|kmv O<|kmv O<|K.lookupOk (et:=155) (.agg []) (v:=.agg #[]) (z:=.agg #[]) O O O (by kernel_rfl) (KL.str (by kernel_rfl)) hkey (by kernel_rfl) (nmM_at ns l) agg0_rel (nmM_any ns l false h1) dP ?_;refine kmv O<|kex O O<|kex O O<|aP O dP ?_;refine aM O O O O O O dP ?_;refine kas O<|aB<|aA<|rgN<|kmv O<|kmv O<|gmv O O O<|gca O O (hN) O O<|aV O O (dQ O O) ?_;refine kpf O O<|aB<|aE O ?_;refine aA<|rgN<|kas O<|aB<|aI ?_)
    exact ⟨[],⟨[_],⟨rfl,trivial⟩,rfl⟩,(by repeat' (first|exact trivial|refine cO ⟨_,rfl,?_⟩ ?_|refine cO ⟨_,rfl⟩ ?_|rfl|exact bV _ _ _ _|exact bW _ _ _ _|exact bX rfl)),rfl,rfl⟩
end Go.Proofs.YtjifibloagkeeaaGreat
end
section
namespace Go.Lg.Fld
open Go Go.Lg
def NamesC (cs:List Cp):Prop := ∀ c∈cs,c.fs.length<4611686018427387904∧c.nm.length≤9223372036854775807∧∀ f∈c.fs,f.nm.length≤9223372036854775807
theorem any_names {α:Type} (g:α→List UInt8) (l:List α) (i:Nat) (nm:List UInt8):((l.take i).map g).any (fun m=>m==nm)=(l.take i).any (fun x=>g x==nm):=by rw [List.any_map];rfl
def fldsE (fs:List Fl):Int:=if firstE (fldE fs) 0 fs.length=0 then layErr fs else 4
end Go.Lg.Fld
namespace Go.Proofs.YtjifibloagkeeaaGreat
open Go Go.Lg Go.Lg.Fld
set_option maxRecDepth 100000
variable (X:Nat→Option Obj)
theorem checkFields_spec (fad:Option Addr) (fcap:Nat) (fs:List Fl) (hF:FieldsIn X fad fs) (hbig:fs.length<4611686018427387904) (hnm:∀ f∈fs,f.nm.length≤9223372036854775807) (e:Int) (he:fldsE fs=e):
    PSpec Tryz.prog X 50 [Lx fad fs.length fcap] (Ln .i64 e):=by
  subst he
  refine cD Tryz.func50 rfl (by kernel_rfl) rfl rfl ?_
  intro C
  (refine aA<|rgN<|kas O<|aB<|aA<|rgN<|K.makeMap 9 O dP ?_;refine kas O<|aB<|aA<|aA<|rgN<|kmv O<|aQ O bY O dP ?_;refine kmv O<|aB<|aG ?_)
  refine cH (fun m σ=>∃ i:Nat,i≤fs.length∧m=fs.length-i∧(∀ j,0≤j→j<i→fldE fs j=0)∧σ=⟨[(0,Lx fad fs.length fcap),(3,Lmp 6),(7,Lx fad fs.length fcap),(8,Ln .i64 (fs.length:Nat)),(9,Ln .i64 (i:Nat))],[nmBx 6 ((fs.take i).map Fl.nm)],X⟩) fs.length
    ⟨_,Le.of (by exact ⟨rfl,rfl,rfl,rfl,rfl,trivial⟩) (by exact ⟨rfl,trivial⟩) (by exact rfl) (by exact rfl) (by repeat' (first|refine bR ?_ ?_|rfl|exact bT|exact bS|exact bU rfl)),0,by omega,by omega,fun j _ hj=>absurd hj (by omega),rfl⟩ ?_
  rintro m σ ⟨i,hi,rfl,hpre,rfl⟩
  by_cases hlt:i<fs.length
  · obtain ⟨f,hf⟩:∃ f,fs[i]? = some f:=⟨_,cW hlt⟩
    obtain ⟨blk,off,arr,el,fr,rfl,hX,hsz,hcells⟩:=hF.at hf
    have hio:off+Int.toNat (i:Int)*3=off+i*3:=by simp
    have hE:=fldE_at hf
    have hnl:=hnm f (dB hf)
    have hany:=any_names Fl.nm fs i f.nm
    have hts:(fs.take (i+1)).map Fl.nm=(fs.take i).map Fl.nm++[f.nm]:=by rw [take_snoc hf,dF];rfl
    by_cases hbad:fldE fs i=0
    · rw [hbad] at hE
      have h2:nmB f.nm=true:=by
        cases h:nmB f.nm with
        | true=>rfl
        | false=>rw [h,if_neg (by decide)] at hE;cases hE
      rw [if_pos h2] at hE
      have h1:((fs.take i).map Fl.nm).any (fun m=>m==f.nm)=false:=by
        rw [hany]
        cases h:(fs.take i).any (fun g=>g.nm==f.nm) with
        | false=>rfl
        | true=>rw [h,if_pos rfl] at hE;cases hE
      have hT:=take_ok X ((fs.take i).map Fl.nm) f.nm hnl h1 h2
      rw [← hts] at hT
      generalize (fs.take i).map Fl.nm=ns at *
      generalize hns:(fs.take (i+1)).map Fl.nm=ns' at *
      (refine aA<|rgN<|klt O O (cN (by omega))<|aB<|aA<|aE O ?_;refine aH ?_;refine aA<|aG<|aA<|rgN<|aR O O bY (by omega) hio dP<|aY O hX (by kernel_rfl) hsz hcells dP<|aP O dP ?_;refine aM O O O O O O dP ?_;refine aB<|aA<|rgN<|kmv O<|kfa O O ?_;refine kl1 O O O<|aU [(1000000,6)] [nmBx 6 ns'] (hT) O O (by exact (cO ⟨_,O,O⟩ trivial)) (by exact (bR O O)) O O O O (by exact (.box O O .nil)) dP<|aV O O dP<|aB<|aF O ?_;refine aH ?_;refine rgN<|kad O O (cF (by omega))<|kmv O<|aB ?_)
      subst hns
      exact ⟨_,_,by omega,Le.of (by exact ⟨O,O,O,O,O,trivial⟩) (by exact ⟨O,trivial⟩) (by exact O) (by exact O) (by repeat' (first|refine bR ?_ ?_|rfl|exact bT|exact bS|exact bU O)),i+1,by omega,O,(fun j h0 hj=>by
        by_cases e:j=i
        · rw [e];exact hbad
        · exact hpre j h0 (by omega)),rfl⟩
    · have h4:fldE fs i=4:=by
        rw [hE] at hbad ⊢
        cases h0:nmB f.nm with
        | false=>rfl
        | true =>
          rw [h0] at hbad
          cases h':(fs.take i).any (fun g=>g.nm==f.nm) with
          | true=>rfl
          | false=>rw [h'] at hbad;exact absurd rfl hbad
      have hno:((fs.take i).map Fl.nm).any (fun m=>m==f.nm)=true∨nmB f.nm=false:=by
        rw [hany]
        rw [hE] at hbad
        cases h:nmB f.nm with
        | false=>exact .inr rfl
        | true =>
          left
          rw [h,if_pos rfl] at hbad
          cases h':(fs.take i).any (fun g=>g.nm==f.nm) with
          | true=>rfl
          | false=>rw [h',if_neg (by decide)] at hbad;exact absurd rfl hbad
      have hfin:fldsE fs=4:=by unfold fldsE;rw [firstE_some hpre (Nat.zero_le _) (by omega) h4 (by decide),if_neg (by decide)]
      rw [hfin]
      have hT:=take_no X ((fs.take i).map Fl.nm) f.nm hnl hno
      generalize (fs.take i).map Fl.nm=ns at *
      (refine aA<|rgN<|klt O O (cN (by omega))<|aB<|aA<|aE O ?_;refine aH ?_;refine aA<|aG<|aA<|rgN<|aR O O bY (by omega) hio dP<|aY O hX (by kernel_rfl) hsz hcells dP<|aP O dP ?_;refine aM O O O O O O dP ?_;refine aB<|aA<|rgN<|kmv O<|kfa O O ?_;refine kl1 O O O<|aU [(1000000,6)] [nmBx 6 ns] (hT) O O (by exact (cO ⟨_,O,O⟩ trivial)) (by exact (bR O O)) O O O O (by exact (.box O O .nil)) dP<|aV O O dP<|aB<|aE O ?_;refine aA<|rgN<|kas O<|aB<|aI ?_)
      exact ⟨[_],⟨O,trivial⟩,O⟩
  · have hfin:fldsE fs=layErr fs:=by unfold fldsE;rw [if_pos (firstE_none fun j h0 hj=>hpre j h0 (by omega))]
    rw [hfin]
    have hL:=Check_spec X fad fcap fs hF hbig
    generalize layErr fs=e at *
    (refine aA<|rgN<|klt O O (cL (by omega))<|aB<|aA<|aF O ?_;refine aJ<|aA<|rgN<|kmv O<|kca O O (hL)<|kas O<|aB<|aI ?_)
    exact ⟨[_],⟨O,trivial⟩,O⟩
theorem cmpE_flds {cs:List Cp} {i:Nat} {c:Cp} (h:cs[i]? = some c):cmpE cs i=if c.id<1∨24<c.id∨(0<i∧c.id≤prevId cs i) then 1
    else if nmB c.nm=true then (if (cs.take i).any (fun g=>g.nm==c.nm)=true then 4 else fldsE c.fs) else 4:=cmpE_at h
set_option maxHeartbeats 3200000 in
theorem pCheckBig (s:Sc) (ad:Option Addr) (cap:Nat) (hin:CompsIn X ad s.cs) (hbig:s.cs.length<4611686018427387904) (hN:NamesC s.cs) (e:Int) (he:chkE s=e):PSpec Tryz.prog X 29 [Sx s.ver ad s.cs.length cap] (Ln .i64 e):=by
  subst he
  obtain ⟨ver,cs⟩:=s
  simp only at hin hbig hN ⊢
  refine cD Tryz.func29 rfl (by kernel_rfl) rfl rfl ?_
  intro C
  unfold chkE
  by_cases hv1:ver<1
  · rw [if_pos (.inl hv1)]
    (refine aA<|rgN<|aL O O O dP<|kas O<|aB<|aA<|aA<|rgN<|kfa O O ?_;refine kl1 O O O<|klt O O (cN hv1)<|kmv O<|aC O O O<|aC O O O<|aC O O O<|kpt O O<|aB<|aE O ?_;refine aA<|rgN<|kas O<|aB<|aI ?_)
    exact ⟨[_],⟨O,trivial⟩,O⟩
  by_cases hv2:1073741824<ver
  · rw [if_pos (.inr hv2)]
    (refine aA<|rgN<|aL O O O dP<|kas O<|aB<|aA<|aA<|rgN<|kfa O O ?_;refine kl1 O O O<|klt O O (cL hv1)<|kmv O<|aN O O (dQ O O) ?_;refine aO O O O (dQ O O) ?_;refine aS O O (cN hv2) (dQ O O) ?_;refine kpf O O<|aB<|aE O ?_;refine aA<|rgN<|kas O<|aB<|aI ?_)
    exact ⟨[_],⟨O,trivial⟩,O⟩
  rw [if_neg (show ¬(ver<1∨1073741824<ver) by omega)]
  (refine aA<|rgN<|aL O O O dP<|kas O<|aB<|aA<|aA<|rgN<|kfa O O ?_;refine kl1 O O O<|klt O O (cL hv1)<|kmv O<|aN O O (dQ O O) ?_;refine aO O O O (dQ O O) ?_;refine aS O O (cL hv2) (dQ O O) ?_;refine kpf O O<|aB<|aF O ?_;refine aH ?_;refine aA<|rgN<|K.makeMap 9 O dP ?_;refine kas O<|kas O<|aB<|aA<|aA<|rgN<|kfa O O ?_;refine kl1 O O O<|aQ O bY O dP ?_;refine kmv O<|aB<|aG ?_)
  refine cH (fun m σ=>∃ (i:Nat) (last:Int),i≤cs.length∧m=cs.length-i∧(∀ j,0≤j→j<i→cmpE cs j=0)∧(∀ x:Int,x≤last↔(x<1∨(0<i∧x≤prevId cs i)))∧σ=⟨[(3,Ln .i64 last),(4,Lmp 16),(18,Lx ad cs.length cap),(19,Ln .i64 (cs.length:Nat)),(20,Ln .i64 (i:Nat))],[nmBx 16 ((cs.take i).map Cp.nm)],X⟩) cs.length
    ⟨_,Le.of (by exact ⟨rfl,rfl,rfl,rfl,rfl,trivial⟩) (by exact ⟨rfl,trivial⟩) (by exact rfl) (by exact rfl) (by repeat' (first|refine bR ?_ ?_|rfl|exact bT|exact bS|exact bU rfl)),0,0,by omega,by omega,fun j _ hj=>absurd hj (by omega),fun x=>by omega,rfl⟩ ?_
  rintro m σ ⟨i,last,hi,rfl,hpre,hlast,rfl⟩
  by_cases hlt:i<cs.length
  · obtain ⟨c,hc⟩:∃ c,cs[i]? = some c:=⟨_,cW hlt⟩
    obtain ⟨blk,off,arr,el,fr,fad,fcap,rfl,hX,hsz,hcs,_,_,_,hF⟩:=hin.get hc
    have hio:off+Int.toNat (i:Int)*3=off+i*3:=by simp
    have hE:=cmpE_flds hc
    obtain ⟨hfb,hnl,hfn⟩:=hN c (dB hc)
    have fin:∀ e,cmpE cs i=e→e≠0→firstE (cmpE cs) 0 cs.length=e:=fun e he h0=>firstE_some hpre (Nat.zero_le _) (by omega) he h0
    have hany:=any_names Cp.nm cs i c.nm
    have hts:(cs.take (i+1)).map Cp.nm=(cs.take i).map Cp.nm++[c.nm]:=by rw [take_snoc hc,dF];rfl
    (refine aA<|rgN<|klt O O (cN (by omega))<|aB<|aA<|aE O ?_;refine aH ?_;refine aA<|aG<|aA<|rgN<|aR O O bY (by omega) hio dP<|aY O hX (by kernel_rfl) hsz hcs dP<|aP O dP ?_;refine aM O O O O O O dP ?_;refine aB<|aA<|aA ?_)
    refine LWP.le (σ':=⟨[(3,Ln .i64 last),(4,Lmp 16),(6,Lp 6),(18,Lx (some ⟨blk,off,none⟩) cs.length cap),(19,Ln .i64 (cs.length:Nat)),(20,Ln .i64 (i:Nat))],[nmBx 16 ((cs.take i).map Cp.nm),cpB 6 c fad fcap],X⟩) (Le.of (by exact ⟨O,O,O,O,O,O,trivial⟩) (by exact ⟨O,O,trivial⟩) (by exact O) (by exact O) (by repeat' (first|refine bR ?_ ?_|rfl|exact bT|exact bS|exact bU O))) ?_
    by_cases hq1:c.id≤last
    · rw [if_pos (by rcases (hlast c.id).1 hq1 with h|h;exact .inl h;exact .inr (.inr h))] at hE
      rw [fin 1 hE (by decide)]
      (refine rgN<|kfa O O ?_;refine kl1 O O O<|kmv O<|K.leq O O (cN hq1) dP<|kmv O<|aC O O O<|aC O O O<|aC O O O<|kpt O O<|aB<|aE O ?_;refine aA<|rgN<|kas O<|aB<|aI ?_)
      exact ⟨[_],⟨O,trivial⟩,O⟩
    by_cases hq2:24<c.id
    · rw [if_pos (.inr (.inl hq2))] at hE
      rw [fin 1 hE (by decide)]
      (refine rgN<|kfa O O ?_;refine kl1 O O O<|kmv O<|K.leq O O (cL hq1) dP<|kmv O<|aN O O (dQ O O) ?_;refine aO O O O (dQ O O) ?_;refine aS O O (cN hq2) (dQ O O) ?_;refine kpf O O<|aB<|aE O ?_;refine aA<|rgN<|kas O<|aB<|aI ?_)
      exact ⟨[_],⟨O,trivial⟩,O⟩
    have hq3:¬(c.id<1∨(0<i∧c.id≤prevId cs i)):=fun h=>hq1 ((hlast c.id).2 h)
    rw [if_neg (show ¬(c.id<1∨24<c.id∨(0<i∧c.id≤prevId cs i)) from fun h=>by rcases h with h|h|h;exact hq3 (.inl h);exact hq2 h;exact hq3 (.inr h))] at hE
    by_cases hno:((cs.take i).map Cp.nm).any (fun m=>m==c.nm)=true∨nmB c.nm=false
    · have h4:cmpE cs i=4:=by
        rw [hE]
        rw [hany] at hno
        rcases hno with h|h
        · rw [h];simp
        · rw [h];simp
      rw [fin 4 h4 (by decide)]
      have hT:=take_no X ((cs.take i).map Cp.nm) c.nm hnl hno
      generalize (cs.take i).map Cp.nm=ns at *
      (refine rgN<|kfa O O ?_;refine kl1 O O O<|kmv O<|K.leq O O (cL hq1) dP<|kmv O<|aN O O (dQ O O) ?_;refine aO O O O (dQ O O) ?_;refine aS O O (cL hq2) (dQ O O) ?_;refine kpf O O<|aB<|aF O ?_;refine aH ?_;refine aA<|rgN<|kfa O O ?_;refine kl1 O O O<|kas O<|aB<|aA<|aA<|rgN<|kmv O<|kfa O O ?_;refine kl1 O O O<|aU [(1000000,16)] [nmBx 16 ns] (hT) O O (by exact (cO ⟨_,O,O⟩ trivial)) (by exact (bR O O)) O O O O (by exact (.box O O .nil)) dP<|aV O O dP<|aB<|aE O ?_;refine aA<|rgN<|kas O<|aB<|aI ?_)
      exact ⟨[_],⟨O,trivial⟩,O⟩
    have h1:((cs.take i).map Cp.nm).any (fun m=>m==c.nm)=false:=by
      cases h:((cs.take i).map Cp.nm).any (fun m=>m==c.nm) with
      | false=>rfl
      | true=>exact absurd (.inl h) hno
    have h2:nmB c.nm=true:=by
      cases h:nmB c.nm with
      | true=>rfl
      | false=>exact absurd (.inr h) hno
    rw [if_pos h2,← hany,h1,if_neg (by decide)] at hE
    have hT:=take_ok X ((cs.take i).map Cp.nm) c.nm hnl h1 h2
    rw [← hts] at hT
    have hCF:=checkFields_spec X fad fcap c.fs hF hfb hfn (fldsE c.fs) rfl
    generalize (cs.take i).map Cp.nm=ns at *
    generalize hns:(cs.take (i+1)).map Cp.nm=ns' at *
    by_cases hz:fldsE c.fs=0
    · rw [hz] at hCF hE
      (refine rgN<|kfa O O ?_;refine kl1 O O O<|kmv O<|K.leq O O (cL hq1) dP<|kmv O<|aN O O (dQ O O) ?_;refine aO O O O (dQ O O) ?_;refine aS O O (cL hq2) (dQ O O) ?_;refine kpf O O<|aB<|aF O ?_;refine aH ?_;refine aA<|rgN<|kfa O O ?_;refine kl1 O O O<|kas O<|aB<|aA<|aA<|rgN<|kmv O<|kfa O O ?_;refine kl1 O O O<|aU [(1000000,16)] [nmBx 16 ns'] (hT) O O (by exact (cO ⟨_,O,O⟩ trivial)) (by exact (bR O O)) O O O O (by exact (.box O O .nil)) dP<|aV O O dP<|aB<|aF O ?_;refine aH ?_;refine aA<|rgN<|kfa O O ?_;refine kl1 O O O<|kca O O (hCF)<|kas O<|aB<|aA<|rgN<|kmv O<|kne O O ((cQ (by omega)))<|aB<|aF O ?_;refine aH ?_;refine rgN<|kad O O (cF (by omega))<|kmv O<|aB ?_)
      subst hns
      exact ⟨_,_,by omega,Le.of (by exact ⟨O,O,O,O,O,trivial⟩) (by exact ⟨O,trivial⟩) (by exact O) (by exact O) (by repeat' (first|refine bR ?_ ?_|rfl|exact bT|exact bS|exact bU O)),i+1,c.id,by omega,O,(fun j h0 hj=>by
        by_cases e:j=i
        · rw [e];exact hE
        · exact hpre j h0 (by omega)),(fun x=>by
        have hp:prevId cs (i+1)=c.id:=by unfold prevId;rw [Nat.add_sub_cancel,hc];rfl
        rw [hp];omega),rfl⟩
    · rw [fin _ hE hz]
      have hne:(fldsE c.fs != 0)=true:=by rw [bne_iff_ne];exact hz
      generalize fldsE c.fs=e at *
      (refine rgN<|kfa O O ?_;refine kl1 O O O<|kmv O<|K.leq O O (cL hq1) dP<|kmv O<|aN O O (dQ O O) ?_;refine aO O O O (dQ O O) ?_;refine aS O O (cL hq2) (dQ O O) ?_;refine kpf O O<|aB<|aF O ?_;refine aH ?_;refine aA<|rgN<|kfa O O ?_;refine kl1 O O O<|kas O<|aB<|aA<|aA<|rgN<|kmv O<|kfa O O ?_;refine kl1 O O O<|aU [(1000000,16)] [nmBx 16 ns'] (hT) O O (by exact (cO ⟨_,O,O⟩ trivial)) (by exact (bR O O)) O O O O (by exact (.box O O .nil)) dP<|aV O O dP<|aB<|aF O ?_;refine aH ?_;refine aA<|rgN<|kfa O O ?_;refine kl1 O O O<|kca O O (hCF)<|kas O<|aB<|aA<|rgN<|kmv O<|kne O O hne<|aB<|aE O ?_;refine aA<|rgN<|kmv O<|kas O<|aB<|aI ?_)
      exact ⟨[_],⟨O,trivial⟩,O⟩
  · rw [show firstE (cmpE cs) 0 cs.length=0 from firstE_none fun j h0 hj=>hpre j h0 (by omega)]
    (refine aA<|rgN<|klt O O (cL (by omega))<|aB<|aA<|aF O ?_;refine aJ<|aA<|rgN<|kas O<|aB<|aI ?_)
    exact ⟨[_],⟨O,trivial⟩,O⟩
end Go.Proofs.YtjifibloagkeeaaGreat
end
section
namespace Go.Lg.Fld
open Go Go.Lg
theorem fields_reads {X:Nat→Option Obj} {ad:Option Addr} {fs:List Fl} (h:FieldsIn X ad fs):ReadsX X ad (flV fs):=⟨fun j u hj=>by
  have hjl:=(List.getElem?_eq_some_iff.1 hj).1
  rw [flV_len] at hjl
  obtain ⟨f,hf⟩:∃ f,fs[j/3]? = some f:=⟨_,cW (by omega)⟩
  obtain ⟨blk,off,arr,el,fr,rfl,hX,hsz,hcs⟩:=h.rows (j/3) f.vals (by rw [dJ,hf];rfl)
  refine ⟨blk,off,arr,el,fr,O,hX,?_⟩
  obtain ⟨h1,h2⟩:=flV_at hf
  have h3:((flV fs).drop (j/3*3)).take 3=(arr.toList.drop (off+j/3*3)).take 3:=by rw [h2,hcs]
  have h4:(((flV fs).drop (j/3*3)).take 3)[j%3]? = ((arr.toList.drop (off+j/3*3)).take 3)[j%3]? := by rw [h3]
  rw [List.getElem?_take,List.getElem?_take,if_pos (Nat.mod_lt _ (by omega)),if_pos (Nat.mod_lt _ (by omega)),List.getElem?_drop,List.getElem?_drop,show j/3*3+j%3=j by omega,show off+j/3*3+j%3=off+j by omega,hj,Array.getElem?_toList] at h4
  exact h4.symm⟩
theorem flV_one (fs:List Fl):∀ u∈flV fs,u.oneCell'=true:=fun u hu=>by
  unfold flV at hu
  rw [List.mem_flatten] at hu
  obtain ⟨l,hl,hu⟩:=hu
  obtain ⟨f,_,rfl⟩:=List.mem_map.1 hl
  simp only [Fl.vals,List.mem_cons,List.not_mem_nil,or_false] at hu
  rcases hu with rfl|rfl|rfl<;>rfl
theorem FieldsIn.none {X:Nat→Option Obj} {fs:List Fl} (h:FieldsIn X none fs):fs=[]:=by
  cases hfs:fs with
  | nil=>rfl
  | cons f t =>
    obtain ⟨_,_,_,_,_,e,_⟩:=h.nm (k:=0) (f:=f) (by rw [hfs];rfl)
    cases e
end Go.Lg.Fld
namespace Go.Proofs.YtjifibloagkeeaaGreat
open Go Go.Lg Go.Lg.Fld
set_option maxRecDepth 100000
abbrev SCx (c:Cp) (fad:Option Addr) (fcap:Nat):SV:=.agg [.val (.int .i64 c.id),.val (.string ⟨c.nm.toArray⟩),.val (.slice fad c.fs.length fcap)]
abbrev SC0:SV:=.agg [.val (.int .i64 0),.val (.string ⟨#[]⟩),.val (.slice none 0 0)]
abbrev SCs (c:Cp) (k:Nat):SV:=.agg [.val (.int .i64 c.id),.val (.string ⟨c.nm.toArray⟩),.slc k 0 c.fs.length 3]
abbrev fdB (k:Nat) (fs:List Fl):Nat×Option Box:=(k,some ⟨79,(flV fs).map .val,true⟩)
abbrev Lf (f:FuncId) (caps:List Value):LV:=.sv (.one (.val (.func (.func f) #[] caps.toArray)))
variable (X:Nat→Option Obj)
theorem idxC_spec (ad:Option Addr) (cap:Nat) (cs:List Cp) (hin:CompsIn X ad cs) (hbig:cs.length<4611686018427387904) (f:FuncId) (caps:List Value) (p:Cp→Bool)
    (hp:∀ c∈cs,∀ fad fcap,PSpec Tryz.prog X f ([Cx c fad fcap]++caps.map fun v=>.sv (.one (.val v))) (Lb (p c))):
    PSpec Tryz.prog X 67 [Lx ad cs.length cap,Lf f caps] (Ln .i64 (findI p cs)):=by
  refine cD Tryz.func67 rfl (by kernel_rfl) rfl rfl ?_
  intro C
  (refine aA<|rgN<|kas O<|aB<|aA<|aA<|rgN<|kmv O<|aQ O bY O dP ?_;refine kmv O<|aB<|aG ?_)
  refine cH (fun m σ=>∃ i:Nat,i≤cs.length∧m=cs.length-i∧(∀ (j:Nat) (y:Cp),j<i→cs[j]? = some y→p y=false)∧σ=⟨[(0,Lx ad cs.length cap),(1,Lf f caps),(7,Ln .i64 (cs.length:Nat)),(8,Ln .i64 (i:Nat))],[],X⟩) cs.length
    ⟨_,Le.of (by exact ⟨rfl,rfl,rfl,rfl,trivial⟩) (by exact trivial) (by exact rfl) (by exact rfl) (by exact rfl),0,by omega,by omega,fun j y hj=>absurd hj (by omega),rfl⟩ ?_
  rintro m σ ⟨i,hi,rfl,hpre,rfl⟩
  by_cases hlt:i<cs.length
  · obtain ⟨c,hc⟩:∃ c,cs[i]? = some c:=⟨_,cW hlt⟩
    obtain ⟨blk,off,arr,el,fr,fad,fcap,rfl,hX,hsz,hcs,_,_,_,hF⟩:=hin.get hc
    have hio:off+Int.toNat (i:Int)*3=off+i*3:=by simp
    have hP:=hp c (dB hc) fad fcap
    cases hpc:p c with
    | true =>
      rw [hpc] at hP
      rw [findI_some hpre hc hpc]
      (refine aA<|rgN<|klt O O (cN (by omega))<|aB<|aA<|aE O ?_;refine aH ?_;refine aA<|aG<|aA<|rgN<|kmv O<|kas O<|aB<|aA<|rgN<|kmv O<|kmv O<|kmv O<|aR O O bY (by omega) hio dP<|aY O hX (by kernel_rfl) hsz hcs dP ?_;refine K.callF O O O hP dP ?_;refine aB<|aE O ?_;refine aA<|rgN<|kmv O<|kas O<|aB<|aI ?_)
      exact ⟨[_],⟨O,trivial⟩,O⟩
    | false =>
      rw [hpc] at hP
      (refine aA<|rgN<|klt O O (cN (by omega))<|aB<|aA<|aE O ?_;refine aH ?_;refine aA<|aG<|aA<|rgN<|kmv O<|kas O<|aB<|aA<|rgN<|kmv O<|kmv O<|kmv O<|aR O O bY (by omega) hio dP<|aY O hX (by kernel_rfl) hsz hcs dP ?_;refine K.callF O O O hP dP ?_;refine aB<|aF O ?_;refine aH ?_;refine rgN<|kad O O (cF (by omega))<|kmv O<|aB ?_)
      exact ⟨_,_,by omega,Le.of (by exact ⟨O,O,O,O,trivial⟩) (by exact trivial) (by exact O) (by exact O) (by exact O),i+1,by omega,O,(fun j y hj hy=>by
        by_cases e:j=i
        · subst e;rw [hc] at hy;cases hy;exact hpc
        · exact hpre j y (by omega) hy),rfl⟩
  · rw [findI_none fun j y hy=>hpre j y (by have:=(List.getElem?_eq_some_iff.1 hy).1;omega) hy]
    (refine aA<|rgN<|klt O O (cL (by omega))<|aB<|aA<|aF O ?_;refine aJ<|aA<|rgN<|kas O<|aB<|aI ?_)
    exact ⟨[_],⟨O,trivial⟩,O⟩
abbrev Vp (b:Nat):LV:=.sv (.one (.val (.pointer (some ⟨b,0,none⟩))))
theorem find1_spec (c:Cp) (fad:Option Addr) (fcap:Nat) (id:Int) {b:Nat} {arr:Array Value} {el:TypeId} {fr:Nat×Nat} (hX:X b=some (.cells arr el fr)) (h0:arr[0]? = some (.int .i64 id)):
    PSpec Tryz.prog X 87 [Cx c fad fcap,Vp b] (Lb (c.id==id)):=by
  refine cD Tryz.func87 rfl (by kernel_rfl) rfl rfl ?_
  intro C
  (refine aA<|rgN<|aL O O O dP<|kas O<|aB<|aA<|rgN<|kfa O O ?_;refine kl1 O O O<|aW O hX O h0 dP<|keq O O O<|kas O<|aB<|aI ?_)
  exact ⟨[_],⟨O,trivial⟩,O⟩
theorem fclone_nil (cap:Nat):PSpec Tryz.prog X 76 [Lx none 0 cap] (Lx none 0 0):=by
  refine cD Tryz.func76 rfl (by kernel_rfl) rfl rfl ?_
  intro C
  (refine aA<|rgN<|kas O<|aB<|aA<|aA<|rgN<|kmv O<|K.slcNil (r:=true) O bY (.inl ⟨O,O⟩) dP ?_;refine aB<|aE O ?_;refine aA<|rgN<|kas O<|aB<|aI ?_)
  exact ⟨[_],⟨O,trivial⟩,O⟩
theorem fclone_some (fa:Addr) (cap:Nat) (fs:List Fl) (hF:FieldsIn X (some fa) fs) (hb:fs.length≤4398046511104):
    MSpec Tryz.prog X 76 [Lx (some fa) fs.length cap] [] (.sv (.one (.slc 1000001 0 fs.length 3))) [fdB 1000001 fs]:=by
  refine cE Tryz.func76 rfl (by kernel_rfl) rfl rfl (by exact (by repeat' (first|refine bR ?_ ?_|rfl|exact bT|exact bS|exact bU rfl))) rfl rfl ?_
  intro C
  (refine aA<|rgN<|kas O<|aB<|aA<|aA<|rgN<|kmv O<|K.slcNil (r:=false) O bY (.inl ⟨O,O⟩) dP ?_;refine aB<|aF O ?_;refine aH ?_;refine aA<|rgN<|aZ (zs:=[]) (sz:=3) (e:=79) (by kernel_rfl) O O O O O O dP<|kmv O<|K.appendX (by_:=32) (e2:=79) (news:=flV fs) (nl:=fs.length) (nc:=(flV fs).map .val) O O O O (fields_reads hF) (flV_len fs) (flV_one fs) (by kernel_rfl) (by kernel_rfl) (by omega) (by omega) O (by omega) O dP ?_;refine kas O<|aB<|aI ?_)
  exact ⟨[(1000001,7)],⟨[_],⟨rfl,trivial⟩,rfl⟩,(by repeat' (first|exact trivial|refine cO ⟨_,rfl,?_⟩ ?_|refine cO ⟨_,rfl⟩ ?_|rfl|exact bV _ _ _ _|exact bW _ _ _ _|exact bX rfl)),rfl,rfl⟩
theorem cclone_nil (c:Cp) (cap:Nat) (h:c.fs=[]):PSpec Tryz.prog X 51 [Cx c none cap] (.sv (SCx c none 0)):=by
  refine cD Tryz.func51 rfl (by kernel_rfl) rfl rfl ?_
  intro C
  have hq:=fclone_nil X cap
  obtain ⟨id,nm,fs⟩:=c
  simp only at h
  subst h
  (refine aA<|rgN<|aL O O O dP<|aP O dP ?_;refine aB<|aA<|rgN<|kfa O O ?_;refine kl1 O O O<|kca O O hq<|kfa O O ?_;refine bG O O O O O (nl3 O O O O) dP<|aB<|aA<|rgN<|aK O O O dP ?_;refine aM O O O O O O dP ?_;refine aB<|aI ?_)
  exact ⟨[_],⟨⟨_,_,O,O,O,.inl ⟨AggT.h,O⟩⟩,trivial⟩,O⟩
theorem cclone_some (c:Cp) (fa:Addr) (cap:Nat) (hF:FieldsIn X (some fa) c.fs) (hb:c.fs.length≤4398046511104):
    MSpec Tryz.prog X 51 [Cx c (some fa) cap] [] (.sv (SCs c 1000001)) [fdB 1000001 c.fs]:=by
  refine cE Tryz.func51 rfl (by kernel_rfl) rfl rfl (by exact (by repeat' (first|refine bR ?_ ?_|rfl|exact bT|exact bS|exact bU rfl))) rfl rfl ?_
  intro C
  have hq:=fclone_some X fa cap c.fs hF hb
  (refine aA<|rgN<|aL O O O dP<|aP O dP ?_;refine aB<|aA<|rgN<|kfa O O ?_;refine kl1 O O O<|bE [(1000001,20)] (.sv (.one (.slc 20 0 c.fs.length 3))) [fdB 20 c.fs] (hq) O O (by exact trivial) O O O O O (by exact (.box O (bW _ _ _ _) .nil)) dP<|kfa O O ?_;refine bG O O O O O (nl3 O O O O) dP<|aB<|aA<|rgN<|aK O O O dP ?_;refine aM O O O O O O dP ?_;refine aB<|aI ?_)
  exact ⟨[(1000001,20)],⟨[_],⟨⟨_,_,rfl,rfl,rfl,.inl ⟨AggT.h,rfl⟩⟩,trivial⟩,rfl⟩,(by repeat' (first|exact trivial|refine cO ⟨_,rfl,?_⟩ ?_|refine cO ⟨_,rfl⟩ ?_|rfl|exact bV _ _ _ _|exact bW _ _ _ _|exact bX rfl)),rfl,rfl⟩
section
variable (ver:Int) (ad:Option Addr) (cap:Nat) (cs:List Cp) (f:FuncId) (caps:List Value) (p:Cp→Bool)
theorem first_no (hin:CompsIn X ad cs) (hbig:cs.length<4611686018427387904) (hp:∀ c∈cs,∀ fad fcap,PSpec Tryz.prog X f ([Cx c fad fcap]++caps.map fun v=>.sv (.one (.val v))) (Lb (p c))) (hno:findI p cs = -1):
    PSpec Tryz.prog X 86 [Sx ver ad cs.length cap,Lf f caps] (.tup [SC0,Sb false]):=by
  refine cD Tryz.func86 rfl (by kernel_rfl) rfl rfl ?_
  intro C
  have hI:=idxC_spec X ad cap cs hin hbig f caps p hp
  rw [hno] at hI
  (refine aA<|rgN<|aL O O O dP<|aP O dP ?_;refine kas O<|aB<|aA<|rgN<|kfa O O ?_;refine kl1 O O O<|kmv O<|kca O O hI<|kas O<|aB<|aA<|aA<|rgN<|kmv O<|klt O O O<|aB<|aE O ?_;refine aA<|rgN<|aT O O (by exact O) (by exact nl3 O O O O) dP ?_;refine aM O O O O O O dP ?_;refine kas O<|aB<|aI ?_)
  exact ⟨[_,_],⟨⟨_,_,O,O,O,.inl ⟨AggT.h,O⟩⟩,O,trivial⟩,O⟩
theorem first_nil (hin:CompsIn X ad cs) (hbig:cs.length<4611686018427387904) (hp:∀ c∈cs,∀ fad fcap,PSpec Tryz.prog X f ([Cx c fad fcap]++caps.map fun v=>.sv (.one (.val v))) (Lb (p c)))
    {i:Nat} {c:Cp} (hpre:∀ (j:Nat) (y:Cp),j<i→cs[j]? = some y→p y=false) (hc:cs[i]? = some c) (he:p c=true)
    {blk off:Nat} {arr:Array Value} {el:TypeId} {fr:Nat×Nat} {fcap:Nat} (had:ad=some ⟨blk,off,none⟩) (hX:X blk=some (.cells arr el fr)) (hsz:off+i*3+3≤arr.size) (hcs:((arr.toList.drop (off+i*3)).take 3).map CV.val=[.val (.int .i64 c.id),.val (.string ⟨c.nm.toArray⟩),.val (.slice none c.fs.length fcap)]) (h0:c.fs=[]):
    PSpec Tryz.prog X 86 [Sx ver ad cs.length cap,Lf f caps] (.tup [SCx c none 0,Sb true]):=by
  subst had
  have hI:=idxC_spec X _ cap cs hin hbig f caps p hp
  rw [findI_some hpre hc he] at hI
  have hi:=(List.getElem?_eq_some_iff.1 hc).1
  have hio:off+Int.toNat (i:Int)*3=off+i*3:=by simp
  refine cD Tryz.func86 rfl (by kernel_rfl) rfl rfl ?_
  intro C
  have hq:=cclone_nil X c fcap h0
  (refine aA<|rgN<|aL O O O dP<|aP O dP ?_;refine kas O<|aB<|aA<|rgN<|kfa O O ?_;refine kl1 O O O<|kmv O<|kca O O hI<|kas O<|aB<|aA<|aA<|rgN<|kmv O<|klt O O (cL (by omega))<|aB<|aF O ?_;refine aH ?_;refine aA<|rgN<|kfa O O ?_;refine kl1 O O O<|kmv O<|aR O O bY (by omega) hio dP<|aY O hX (by kernel_rfl) hsz hcs dP<|kca O O hq<|aM O O O O O O dP ?_;refine kas O<|aB<|aI ?_)
  exact ⟨[_,_],⟨⟨_,_,O,O,O,.inl ⟨AggT.h,O⟩⟩,O,trivial⟩,O⟩
theorem first_box (hin:CompsIn X ad cs) (hbig:cs.length<4611686018427387904) (hp:∀ c∈cs,∀ fad fcap,PSpec Tryz.prog X f ([Cx c fad fcap]++caps.map fun v=>.sv (.one (.val v))) (Lb (p c)))
    {i:Nat} {c:Cp} (hpre:∀ (j:Nat) (y:Cp),j<i→cs[j]? = some y→p y=false) (hc:cs[i]? = some c) (he:p c=true)
    {blk off:Nat} {arr:Array Value} {el:TypeId} {fr:Nat×Nat} {fcap:Nat} {fa:Addr} (had:ad=some ⟨blk,off,none⟩) (hX:X blk=some (.cells arr el fr)) (hsz:off+i*3+3≤arr.size) (hcs:((arr.toList.drop (off+i*3)).take 3).map CV.val=[.val (.int .i64 c.id),.val (.string ⟨c.nm.toArray⟩),.val (.slice (some fa) c.fs.length fcap)]) (hF:FieldsIn X (some fa) c.fs) (hfb:c.fs.length≤4398046511104):
    MSpec Tryz.prog X 86 [Sx ver ad cs.length cap,Lf f caps] [] (.tup [SCs c 1000001,Sb true]) [fdB 1000001 c.fs]:=by
  subst had
  have hI:=idxC_spec X _ cap cs hin hbig f caps p hp
  rw [findI_some hpre hc he] at hI
  have hi:=(List.getElem?_eq_some_iff.1 hc).1
  have hio:off+Int.toNat (i:Int)*3=off+i*3:=by simp
  refine cE Tryz.func86 rfl (by kernel_rfl) rfl rfl (by exact (by repeat' (first|refine bR ?_ ?_|rfl|exact bT|exact bS|exact bU rfl))) rfl rfl ?_
  intro C
  have hq:=cclone_some X c fa fcap hF hfb
  (refine aA<|rgN<|aL O O O dP<|aP O dP ?_;refine kas O<|aB<|aA<|rgN<|kfa O O ?_;refine kl1 O O O<|kmv O<|kca O O hI<|kas O<|aB<|aA<|aA<|rgN<|kmv O<|klt O O (cL (by omega))<|aB<|aF O ?_;refine aH ?_;refine aA<|rgN<|kfa O O ?_;refine kl1 O O O<|kmv O<|aR O O bY (by omega) hio dP<|aY O hX (by kernel_rfl) hsz hcs dP<|bE [(1000001,20)] (.sv (SCs c 20)) [fdB 20 c.fs] (hq) O O (by exact trivial) O O O O O (by exact (.box O (bW _ _ _ _) .nil)) dP<|aM O O O O O O dP ?_;refine kas O<|aB<|aI ?_)
  exact ⟨[(1000001,20)],⟨[_,_],⟨⟨_,_,rfl,rfl,rfl,.inl ⟨AggT.h,rfl⟩⟩,rfl,trivial⟩,rfl⟩,(by repeat' (first|exact trivial|refine cO ⟨_,rfl,?_⟩ ?_|refine cO ⟨_,rfl⟩ ?_|rfl|exact bV _ _ _ _|exact bW _ _ _ _|exact bX rfl)),rfl,rfl⟩
end
theorem at_zero {arr:Array Value} {v:Value} (h:∃ sp,arr.toList=[v]++sp):arr[0]? = some v:=by
  obtain ⟨sp,h⟩:=h
  rw [← Array.getElem?_toList,h];rfl
theorem pFind_no (ver:Int) (ad:Option Addr) (cap:Nat) (cs:List Cp) (id:Int) (hin:CompsIn X ad cs) (hbig:cs.length<4611686018427387904) (hno:∀ (j:Nat) (y:Cp),cs[j]? = some y→(y.id==id)=false):
    PSpec Tryz.prog X 57 [Sx ver ad cs.length cap,Ln .i64 id] (.tup [SC0,Sb false]):=by
  refine cD Tryz.func57 rfl (by kernel_rfl) rfl rfl ?_
  intro C
  (refine aA<|rgN<|aL O O O dP<|K.box1 O O O dP<|aP O dP ?_;refine kas O<|aB<|aA ?_)
  refine LWP.le (σ':=⟨[(3,Lp 3),(2,Lp 2),(4,Lp 4)],[(3,some ⟨3,[Value.int .i64 id].map .val,false⟩),sxB 2 ver ad cs.length cap,(4,some ⟨69,[.val (.int .i64 0),.val (.string ⟨#[]⟩),.val (.slice none 0 0)],false⟩)],X⟩) (Le.of (by exact ⟨O,O,O,trivial⟩) (by exact ⟨O,O,O,trivial⟩) (by exact O) (by exact O) (by repeat' (first|refine bR ?_ ?_|rfl|exact bT|exact bS|exact bU O))) ?_
  refine LWP.freezePtr (by rfl) (by rfl) (by rfl) fun b arr0 fr0 hn _ h0 => ?_
  have hin':=hin.mono (cG (o:=.cells arr0 3 fr0) hn)
  have hp:=fun (c:Cp) (_:c∈cs) (fad:Option Addr) (fcap:Nat)=>find1_spec _ c fad fcap id (cK X b (.cells arr0 3 fr0)) (at_zero h0)
  have hq:=first_no _ ver ad cap cs 87 [.pointer (some ⟨b,0,none⟩)] (fun c=>c.id==id) hin' hbig hp (findI_none hno)
  (refine rgN<|aK O O O dP ?_;refine K.makeFunc O O dP ?_;refine kca O O hq<|kex O O<|kex O O<|aM O O O O O O dP ?_;refine kas O<|aB<|aI ?_)
  exact ⟨[_,_],⟨⟨_,_,O,O,O,.inl ⟨AggT.h,O⟩⟩,O,trivial⟩,O⟩
theorem pFind (ver:Int) (ad:Option Addr) (cap:Nat) (cs:List Cp) (id:Int) (hin:CompsIn X ad cs) (hbig:cs.length<4611686018427387904) (hfs:∀ c∈cs,c.fs.length≤4398046511104) {i:Nat} {c:Cp} (hpre:∀ (j:Nat) (y:Cp),j<i→cs[j]? = some y→(y.id==id)=false) (hc:cs[i]? = some c) (he:c.id=id):
    (c.fs=[]∧PSpec Tryz.prog X 57 [Sx ver ad cs.length cap,Ln .i64 id] (.tup [SCx c none 0,Sb true])) ∨
      MSpec Tryz.prog X 57 [Sx ver ad cs.length cap,Ln .i64 id] [] (.tup [SCs c 1000001,Sb true]) [fdB 1000001 c.fs]:=by
  have he':(c.id==id)=true:=by rw [beq_iff_eq];exact he
  obtain ⟨blk,off,arr,el,fr,fad,fcap,rfl,hX,hsz,hcs,_,_,_,hF⟩:=hin.get hc
  cases fad with
  | none =>
    have hnil:=hF.none
    refine .inl ⟨hnil,?_⟩
    refine cD Tryz.func57 rfl (by kernel_rfl) rfl rfl ?_
    intro C
    (refine aA<|rgN<|aL O O O dP<|K.box1 O O O dP<|aP O dP ?_;refine kas O<|aB<|aA ?_)
    refine LWP.le (σ':=⟨[(3,Lp 3),(2,Lp 2),(4,Lp 4)],[(3,some ⟨3,[Value.int .i64 id].map .val,false⟩),sxB 2 ver (some ⟨blk,off,none⟩) cs.length cap,(4,some ⟨69,[.val (.int .i64 0),.val (.string ⟨#[]⟩),.val (.slice none 0 0)],false⟩)],X⟩) (Le.of (by exact ⟨O,O,O,trivial⟩) (by exact ⟨O,O,O,trivial⟩) (by exact O) (by exact O) (by repeat' (first|refine bR ?_ ?_|rfl|exact bT|exact bS|exact bU O))) ?_
    refine LWP.freezePtr (by rfl) (by rfl) (by rfl) fun b arr0 fr0 hn _ h0 => ?_
    have hin':=hin.mono (cG (o:=.cells arr0 3 fr0) hn)
    have hp:=fun (c:Cp) (_:c∈cs) (fad:Option Addr) (fcap:Nat)=>find1_spec _ c fad fcap id (cK X b (.cells arr0 3 fr0)) (at_zero h0)
    have hq:=first_nil _ ver _ cap cs 87 [.pointer (some ⟨b,0,none⟩)] (fun c=>c.id==id) hin' hbig hp hpre hc he' rfl (cG hn _ _ hX) hsz hcs hnil
    (refine rgN<|aK O O O dP ?_;refine K.makeFunc O O dP ?_;refine kca O O hq<|kex O O<|kex O O<|aM O O O O O O dP ?_;refine kas O<|aB<|aI ?_)
    exact ⟨[_,_],⟨⟨_,_,O,O,O,.inl ⟨AggT.h,O⟩⟩,O,trivial⟩,O⟩
  | some fa =>
    refine .inr ?_
    refine cE Tryz.func57 rfl (by kernel_rfl) rfl rfl (by exact (by repeat' (first|refine bR ?_ ?_|rfl|exact bT|exact bS|exact bU rfl))) rfl rfl ?_
    intro C
    (refine aA<|rgN<|aL O O O dP<|K.box1 O O O dP<|aP O dP ?_;refine kas O<|aB<|aA ?_)
    refine LWP.le (σ':=⟨[(3,Lp 3),(2,Lp 2),(4,Lp 4)],[(3,some ⟨3,[Value.int .i64 id].map .val,false⟩),sxB 2 ver (some ⟨blk,off,none⟩) cs.length cap,(4,some ⟨69,[.val (.int .i64 0),.val (.string ⟨#[]⟩),.val (.slice none 0 0)],false⟩)],X⟩) (Le.of (by exact ⟨O,O,O,trivial⟩) (by exact ⟨O,O,O,trivial⟩) (by exact O) (by exact O) (by repeat' (first|refine bR ?_ ?_|rfl|exact bT|exact bS|exact bU O))) ?_
    refine LWP.freezePtr (by rfl) (by rfl) (by rfl) fun b arr0 fr0 hn _ h0 => ?_
    have hin':=hin.mono (cG (o:=.cells arr0 3 fr0) hn)
    have hp:=fun (c:Cp) (_:c∈cs) (fad:Option Addr) (fcap:Nat)=>find1_spec _ c fad fcap id (cK X b (.cells arr0 3 fr0)) (at_zero h0)
    have hq:=first_box _ ver _ cap cs 87 [.pointer (some ⟨b,0,none⟩)] (fun c=>c.id==id) hin' hbig hp hpre hc he' rfl (cG hn _ _ hX) hsz hcs (hF.mono (cG hn)) (hfs c (dB hc))
    (refine rgN<|aK O O O dP ?_;refine K.makeFunc O O dP ?_;refine bE [(1000001,20)] (.tup [SCs c 20,Sb true]) [fdB 20 c.fs] (hq) O O (by exact trivial) O O O O O (by exact (.box O (bW _ _ _ _) .nil)) dP<|kex O O<|kex O O<|aM O O O O O O dP ?_;refine kas O<|aB<|aI ?_)
    exact ⟨[(1000001,20)],⟨[_,_],⟨⟨_,_,rfl,rfl,rfl,.inl ⟨AggT.h,rfl⟩⟩,rfl,trivial⟩,rfl⟩,(by repeat' (first|exact trivial|refine cO ⟨_,rfl,?_⟩ ?_|refine cO ⟨_,rfl⟩ ?_|rfl|exact bV _ _ _ _|exact bW _ _ _ _|exact bX rfl)),rfl,rfl⟩
end Go.Proofs.YtjifibloagkeeaaGreat
end
section
namespace Go.Lg.Fld
open Go Go.Lg
def idsV (cs:List Cp):List Value:=cs.map fun c=>.int .i64 c.id
end Go.Lg.Fld
namespace Go.Proofs.YtjifibloagkeeaaGreat
open Go Go.Lg Go.Lg.Fld
set_option maxRecDepth 100000
variable (X:Nat→Option Obj)
theorem pIds (ver:Int) (ad:Option Addr) (cap:Nat) (cs:List Cp) (hin:CompsIn X ad cs) (hS:cs.length≤65536):MSpec Tryz.prog X 78 [Sx ver ad cs.length cap] [] (.sv (.one (.slc 1000001 0 cs.length))) [(1000001,some ⟨3,(idsV cs).map .val,false⟩)]:=by
  refine cE Tryz.func78 rfl (by kernel_rfl) rfl rfl (by exact (by repeat' (first|refine bR ?_ ?_|rfl|exact bT|exact bS|exact bU rfl))) rfl rfl ?_
  intro C
  have hmk:slcBuild Tryz.prog 81 cs.length=some (List.replicate cs.length (.int .i64 0),1,3):=slcBuild_one (by kernel_rfl) (by kernel_rfl) (by omega)
  (refine aA<|rgN<|aL O O O dP<|kas O<|aB<|aA<|rgN<|kfa O O ?_;refine kl1 O O O<|aQ O bY O dP ?_;refine K.makeSlc (m:=cs.length) (bytes:=8) O O hmk (by kernel_rfl) (by omega) O O dP<|kas O<|aB<|aA<|aA<|rgN<|kfa O O ?_;refine kl1 O O O<|aQ O bY O dP ?_;refine kmv O<|aB<|aG ?_)
  refine cH (fun m σ=>∃ i:Nat,i≤cs.length∧m=cs.length-i∧σ=⟨[(3,.sv (.one (.slc 9 0 cs.length))),(11,Lx ad cs.length cap),(12,Ln .i64 (cs.length:Nat)),(13,Ln .i64 (i:Nat))],[(9,some ⟨3,(idsV (cs.take i)++List.replicate (cs.length-i) (Value.int .i64 0)).map .val,false⟩)],X⟩) cs.length
    ⟨_,Le.of (by exact ⟨rfl,rfl,rfl,rfl,trivial⟩) (by exact ⟨rfl,trivial⟩) (by exact rfl) (by exact rfl) (by repeat' (first|refine bR ?_ ?_|rfl|exact bT|exact bS|exact bU rfl)),0,by omega,by omega,rfl⟩ ?_
  rintro m σ ⟨i,hi,rfl,rfl⟩
  by_cases hlt:i<cs.length
  · obtain ⟨c,hc⟩:∃ c,cs[i]? = some c:=⟨_,cW hlt⟩
    obtain ⟨blk,off,arr,el,fr,fad,fcap,rfl,hX,hsz,hcs,_,_,_,hF⟩:=hin.get hc
    have hio:off+Int.toNat (i:Int)*3=off+i*3:=by simp
    have hix:0+Int.toNat (i:Int)*1=i:=by rw [dE];omega
    have hil:(idsV (cs.take i)).length=i:=by unfold idsV;rw [cV,cY];omega
    have hroom:i+1≤((idsV (cs.take i)++List.replicate (cs.length-i) (Value.int .i64 0)).map CV.val).length:=by rw [cV,cU,hil,dC];omega
    have hspl:splice ((idsV (cs.take i)++List.replicate (cs.length-i) (Value.int .i64 0)).map CV.val) i [.val (.int .i64 c.id)]=(idsV (cs.take (i+1))++List.replicate (cs.length-(i+1)) (Value.int .i64 0)).map CV.val:=by
      unfold splice
      rw [show cs.length-i=(cs.length-(i+1))+1 by omega,List.replicate_succ,take_snoc hc]
      have e:idsV (cs.take i++[c])=idsV (cs.take i)++[.int .i64 c.id]:=by unfold idsV;rw [dF];rfl
      rw [e]
      simp only [dF,dK]
      have hml:((idsV (cs.take i)).map CV.val).length=i:=by rw [cV,hil]
      generalize (idsV (cs.take i)).map CV.val=R at *
      rw [← hml,List.take_left,List.drop_length_add_append]
      simp
    (refine aA<|rgN<|klt O O (cN (by omega))<|aB<|aA<|aE O ?_;refine aH ?_;refine aA<|aG<|aA<|rgN<|kmv O<|aR O O bY (by omega) hio dP<|aY O hX (by kernel_rfl) hsz hcs dP<|aP O dP ?_;refine kas O<|aM O O O O O O dP ?_;refine aB<|rgN<|kmv O<|kmv O<|kfa O O ?_;refine kl1 O O O<|K.indexSlc O O (by omega) hix dP ?_;refine K.store O O O O (by kernel_rfl) hroom hspl dP<|aB<|rgN<|kad O O (cF (by omega))<|kmv O<|aB ?_)
    exact ⟨_,_,by omega,Le.of (by exact ⟨O,O,O,O,trivial⟩) (by exact ⟨O,trivial⟩) (by exact O) (by exact O) (by repeat' (first|refine bR ?_ ?_|rfl|exact bT|exact bS|exact bU O)),i+1,by omega,O,O⟩
  · have e:i=cs.length:=by omega
    subst e
    rw [dD,Nat.sub_self,List.replicate_zero,dH]
    (refine aA<|rgN<|klt O O (cL (by omega))<|aB<|aA<|aF O ?_;refine aJ<|aA<|rgN<|kmv O<|kas O<|aB<|aI ?_)
    exact ⟨[(1000001,9)],⟨[_],⟨rfl,trivial⟩,rfl⟩,(by repeat' (first|exact trivial|refine cO ⟨_,rfl,?_⟩ ?_|refine cO ⟨_,rfl⟩ ?_|rfl|exact bV _ _ _ _|exact bW _ _ _ _|exact bX rfl)),rfl,rfl⟩
end Go.Proofs.YtjifibloagkeeaaGreat
end
section
namespace Go.Lg.Fld
open Go Go.Lg
theorem rowsZ_app:∀ {a b:List Cp} {u v:List Value},u.length=a.length→rowsZ (a++b) (u++v)=rowsZ a u++rowsZ b v
  | [],_,[],_,_=>rfl
  | _::a,b,_::u,v,h=>by
    simp only [dG] at h
    simp only [List.cons_append,rowsZ]
    rw [rowsZ_app (a:=a) (b:=b) (u:=u) (v:=v) (by omega)]
  | [],_,_::_,_,h=>by simp at h
  | _::_,_,[],_,h=>by simp at h
theorem joinM_has {C:Ctx} {Y H:Nat→Option Obj} (hO:OwnedM C Y H) {b:Nat} {o:Obj} (h:Y b=some o):joinM Y H b=some o:=by
  cases hb:H b with
  | none=>rw [joinM_out hb];exact h
  | some o'=>have:=(hO.own b o' hb).2.2;rw [this] at h;cases h
def zer (k:Nat):List Value:=(List.replicate k [Value.int .i64 0,Value.string ⟨#[]⟩,Value.slice none 0 0]).flatten
theorem zer_succ (k:Nat):zer (k+1)=[Value.int .i64 0,Value.string ⟨#[]⟩,Value.slice none 0 0]++zer k:=by unfold zer;rw [List.replicate_succ,List.flatten_cons]
theorem zer_len (k:Nat):(zer k).length=k*3:=by
  induction k with
  | zero=>rfl
  | succ k ih=>rw [zer_succ,cU,ih];simp;omega
theorem rowsZ_snoc {cs:List Cp} {cells:List Value} {i:Nat} {c:Cp} {v:Value} (hl:cells.length=i) (hc:cs[i]? = some c):rowsZ (cs.take (i+1)) (cells++[v])=rowsZ (cs.take i) cells++[.int .i64 c.id,.string ⟨c.nm.toArray⟩,v]:=by
  rw [take_snoc hc,rowsZ_app (by rw [cY];have:=(List.getElem?_eq_some_iff.1 hc).1;omega)];rfl
def idM (ns:List Int):List (Value×Value):=ns.map fun x=>(.int .i64 x,.agg #[])
theorem idM_at (ns:List Int) (x:Int):At (idM ns) (.int .i64 x) (.agg #[]) (.agg #[]):=by
  by_cases h:x∈ns
  · exact .inl (List.mem_map.2 ⟨x,h,rfl⟩)
  · refine .inr ⟨fun p hp e => ?_,rfl⟩
    obtain ⟨y,hy,rfl⟩:=List.mem_map.1 hp
    simp only [Value.int.injEq,true_and] at e
    exact h (e▸hy)
theorem idM_any (ns:List Int) (x:Int) (r:Bool) (hr:ns.any (fun m=>m==x)=r):r=true↔∃ p∈idM ns,p.1 = .int .i64 x:=by
  subst hr
  rw [List.any_eq_true]
  constructor
  · rintro ⟨m,hm,he⟩
    rw [beq_iff_eq] at he
    subst he
    exact ⟨_,List.mem_map.2 ⟨m,hm,O⟩,O⟩
  · rintro ⟨p,hp,e⟩
    obtain ⟨y,hy,rfl⟩:=List.mem_map.1 hp
    simp only [Value.int.injEq,true_and] at e
    exact ⟨y,hy,by rw [beq_iff_eq];exact e⟩
theorem idM_put {ns:List Int} {x:Int} (h:ns.any (fun m=>m==x)=false):Put (idM ns) (.int .i64 x) (.agg #[]) (idM (ns++[x])):=by
  refine .inr ⟨fun p hp e => ?_,by unfold idM;rw [dF];rfl⟩
  obtain ⟨y,hy,rfl⟩:=List.mem_map.1 hp
  simp only [Value.int.injEq,true_and] at e
  rw [List.any_eq_false] at h
  exact h y hy (by rw [beq_iff_eq];exact e)
theorem fields_none {X:Nat→Option Obj} {ad:Option Addr} {fs:List Fl} (h:fs=[]):FieldsIn X ad fs:=by
  subst h
  exact ⟨fun k r hr=>(by simp at hr),fun f hf=>(by cases hf)⟩
theorem lent_fields {S:Nat→Option (Option Box)} {Y:Nat→Option Obj} {k n:Nat} {el:TypeId} {row:Bool} {fs:List Fl} {u:Value} (hk:S k=some (some ⟨el,(flV fs).map .val,row⟩)) (hs:∀ f∈fs,(-9223372036854775808≤f.kind∧f.kind<9223372036854775808)∧(-9223372036854775808≤f.count∧f.count<9223372036854775808)) (h:LentC S Y (.slc k 0 n 3) u):
    ∃ (fa:Addr) (fcap:Nat),u = .slice (some fa) n fcap∧FieldsIn Y (some fa) fs:=by
  obtain ⟨b,blk,cap2,m,hk',rfl,hc,hfit,hB⟩:=h
  rw [hk] at hk'
  simp only [Option.some.injEq] at hk'
  subst hk'
  obtain ⟨arr,fr,us',sp,hYb,hsz,harr,hv⟩:=hB
  have:=hv _ rfl
  subst this
  exact ⟨⟨blk,0,none⟩,cap2,O,fields_block hYb harr hs⟩
end Go.Lg.Fld
namespace Go.Proofs.YtjifibloagkeeaaGreat
open Go Go.Lg Go.Lg.Fld
set_option maxRecDepth 100000
section
variable {n:Nat} {C:Ctx} {X:Nat→Option Obj} {s:List (Nat×LV)} {bx:List (Nat×Option Box)} {k:Nat}
theorem sc_shut {Mid:St→Prop} {cs:List Cp} {H:Nat→Option Obj} {cells sp:List Value} (hO:OwnedM C X H) (G:Twigs H 79 3 [] cells (cs.map fun c=>flV c.fs)) (hb:InB cs)
    (h:Leads n C Mid ⟨s,scB k cs::bx,X⟩):Leads n C Mid ⟨s,(k,some ⟨69,(rowsZ cs cells++sp).map .val,false⟩)::bx,joinM X H⟩:=by
  refine Leads.closeRes (vals:=rowsZ cs cells++sp) hO (fun ρ fr h1 h2 h3 => ?_) h
  refine ⟨_,fr,cells,sp,cK _ _ _,?_,?_,?_,hb⟩
  · rw [h3];simp
  · simp
  · rw [cut_with h1];exact G
end
variable (X:Nat→Option Obj)
abbrev kcSt (ver:Int) (ad:Option Addr) (n cap i:Nat) (rows:List Value) (Y:Nat→Option Obj):St:=
  ⟨[(1,Lp 1),(2,Lp 2),(3,.sv (.one (.slc 9 0 n 3))),(11,Lx ad n cap),(12,Ln .i64 (n:Nat)),(13,Ln .i64 (i:Nat))],[(9,some ⟨69,rows.map .val,false⟩),sxB 1 ver ad n cap,(2,some ⟨24,[.val (.int .i64 0),.val (.slice none 0 0)],false⟩)],Y⟩
set_option maxHeartbeats 6400000 in
theorem pCloneBig (ver:Int) (ad:Option Addr) (cap:Nat) (cs:List Cp) (hin:CompsIn X ad cs) (hn:cs.length≤65536) (hfb0:∀ c∈cs,c.fs.length≤4398046511104):MSpec Tryz.prog X 30 [Sx ver ad cs.length cap] [] (.sv (.agg [.val (.int .i64 ver),.slc 1000001 0 cs.length 3])) [scB 1000001 cs]:=by
  refine cE Tryz.func30 rfl (by kernel_rfl) rfl rfl (by exact (by repeat' (first|refine bR ?_ ?_|rfl|exact bT|exact bS|exact bU rfl))) rfl rfl ?_
  intro C
  have hInb:InB cs:=fun c hc=>by
    obtain ⟨i,hi⟩:=List.mem_iff_getElem?.1 hc
    obtain ⟨_,_,_,_,_,_,_,_,_,_,_,_,_,_,hF⟩:=hin.get hi
    exact ⟨hin.small c hc,hF.small⟩
  have hmk:slcBuild Tryz.prog 22 cs.length=some (zer cs.length,3,69):=slcBuild_many (z := #[.int .i64 0,.string ⟨#[]⟩,.slice none 0 0]) (by kernel_rfl) (by kernel_rfl) rfl (by omega)
  refine LWP.ends ?_
  (refine aA<|rgN<|aL O O O dP<|aP O dP ?_;refine aB<|aA<|rgN<|kfa O O ?_;refine kl1 O O O<|aQ O bY O dP ?_;refine K.makeSlc (m:=cs.length) (bytes:=48) O O hmk (by kernel_rfl) (by omega) O O dP<|kas O<|aB<|aA<|aA<|rgN<|kfa O O ?_;refine kl1 O O O<|aQ O bY O dP ?_;refine kmv O<|aB<|aG ?_)
  refine cJ (fun m σ=>∃ (i:Nat) (cells:List Value) (H:Nat→Option Obj),i≤cs.length∧m=cs.length-i∧OwnedM C X H∧Twigs H 79 3 [] cells ((cs.take i).map fun c=>flV c.fs)∧σ=kcSt ver ad cs.length cap i (rowsZ (cs.take i) cells++zer (cs.length-i)) (joinM X H)) cs.length
    (cA (σ':=kcSt ver ad cs.length cap 0 (rowsZ (cs.take 0) []++zer (cs.length-0)) X) ?_ (bZ ⟨0,[],fun _=>none,by omega,by omega,OwnedM.nil _ _,Twigs.nil _ _ _ _,rfl⟩)) ?_
  · exact Le.of (by exact ⟨rfl,rfl,rfl,rfl,rfl,rfl,trivial⟩) (by exact ⟨rfl,rfl,rfl,trivial⟩) (by exact rfl) (by exact rfl) (by repeat' (first|refine bR ?_ ?_|rfl|exact bT|exact bS|exact bU rfl))
  rintro m σ ⟨i,cells,H,hi,rfl,hO,G,rfl⟩
  have hcl:cells.length=i:=by rw [G.len,cV,cY];omega
  by_cases hlt:i<cs.length
  · obtain ⟨c,hc⟩:∃ c,cs[i]? = some c:=⟨_,cW hlt⟩
    obtain ⟨blk,off,arr,el,fr,fad,fcap,rfl,hX,hsz,hcs,_,_,_,hF⟩:=hin.get hc
    have hio:off+Int.toNat (i:Int)*3=off+i*3:=by simp
    have hix:0+Int.toNat (i:Int)*3=i*3:=by rw [dE];omega
    have hX1:joinM X H blk=some (.cells arr el fr):=joinM_has hO hX
    have hpl:(rowsZ (cs.take i) cells).length=i*3:=by rw [rowsZ_len (by rw [hcl,cY];omega),cY,Nat.min_eq_left (by omega)]
    have hFY:=hF.mono (Y:=joinM X H) fun b o h=>joinM_has hO h
    have hfb:=hfb0 c (dB hc)
    have hroom:i*3+3≤((rowsZ (cs.take i) cells++zer (cs.length-i)).map CV.val).length:=by rw [cV,cU,hpl,zer_len];omega
    have hspl:∀ cv:CV,splice ((rowsZ (cs.take i) cells++zer (cs.length-i)).map CV.val) (i*3) [.val (.int .i64 c.id),.val (.string ⟨c.nm.toArray⟩),cv]=(rowsZ (cs.take i) cells++[Value.int .i64 c.id,Value.string ⟨c.nm.toArray⟩]).map CV.val++cv::(zer (cs.length-(i+1))).map .val:=fun cv=>by
      unfold splice
      rw [show cs.length-i=(cs.length-(i+1))+1 by omega,zer_succ]
      simp only [dF,dK]
      have hml:((rowsZ (cs.take i) cells).map CV.val).length=i*3:=by rw [cV,hpl]
      generalize (rowsZ (cs.take i) cells).map CV.val=R at *
      rw [← hml,List.take_left,List.drop_length_add_append]
      simp
    cases fad with
    | none =>
      have hf0:=hF.none
      have hq:=cclone_nil (joinM X H) c fcap hf0
      have hl0:c.fs.length=0:=by rw [hf0];rfl
      have hm0:rowsZ (cs.take (i+1)) (cells++[.slice none 0 0])=rowsZ (cs.take i) cells++[.int .i64 c.id,.string ⟨c.nm.toArray⟩,.slice none 0 0]:=rowsZ_snoc hcl hc
      (refine aA<|rgN<|klt O O (cN (by omega))<|aB<|aA<|aE O ?_;refine aH ?_;refine aA<|aG<|aA<|rgN<|kmv O<|aR O O bY (by omega) hio dP<|aY O hX1 (by kernel_rfl) hsz hcs dP<|aP O dP ?_;refine kas O<|aM O O O O O O dP ?_;refine aB<|rgN<|kmv O<|kmv O<|aK O O O dP ?_;refine kca O O hq<|K.indexSlc O O (by omega) hix dP ?_;refine K.store O O O O (by kernel_rfl) hroom (hspl (.val (.slice none c.fs.length 0))) dP<|aB<|rgN<|kad O O (cF (by omega))<|kmv O<|aB ?_)
      refine cA (σ':=kcSt ver (some ⟨blk,off,none⟩) cs.length cap (i+1) (rowsZ (cs.take (i+1)) (cells++[.slice none 0 0])++zer (cs.length-(i+1))) (joinM X H)) ?_ (bZ ⟨cs.length-(i+1),by omega,i+1,cells++[.slice none 0 0],H,by omega,O,hO,?_,O⟩)
      · have hcell:(rowsZ (cs.take i) cells++[Value.int .i64 c.id,Value.string ⟨c.nm.toArray⟩]).map CV.val ++ .val (.slice none c.fs.length 0)::(zer (cs.length-(i+1))).map .val=(rowsZ (cs.take (i+1)) (cells++[.slice none 0 0])++zer (cs.length-(i+1))).map .val:=by rw [hm0,hl0];simp
        rw [hcell]
        exact Le.of (by exact ⟨O,O,O,O,O,O,trivial⟩) (by exact ⟨O,O,O,trivial⟩) (by exact O) (by exact O) (by repeat' (first|refine bR ?_ ?_|rfl|exact bT|exact bS|exact bU O))
      · have G2:=G.pushZ none 0
        rw [take_snoc hc,dF,List.map_cons,List.map_nil,show flV c.fs=[] by rw [hf0];rfl]
        exact G2
    | some fa =>
      have hq:=cclone_some (joinM X H) c fa fcap hFY hfb
      (refine aA<|rgN<|klt O O (cN (by omega))<|aB<|aA<|aE O ?_;refine aH ?_;refine aA<|aG<|aA<|rgN<|kmv O<|aR O O bY (by omega) hio dP<|aY O hX1 (by kernel_rfl) hsz hcs dP<|aP O dP ?_;refine kas O<|aM O O O O O O dP ?_;refine aB<|rgN<|kmv O<|kmv O<|aK O O O dP ?_;refine bE [(1000001,20)] (.sv (SCs c 20)) [fdB 20 c.fs] (hq) O O (by exact trivial) O O O O O (by exact (.box O (bW _ _ _ _) .nil)) dP<|K.indexSlc O O (by omega) hix dP ?_;refine K.store O O O O (by kernel_rfl) hroom (hspl (.slc 20 0 c.fs.length 3)) dP<|aB<|rgN<|kad O O (cF (by omega))<|kmv O<|aB ?_)
      refine cA (σ':=⟨[(1,Lp 1),(2,Lp 2),(3,.sv (.one (.slc 9 0 cs.length 3))),(11,Lx (some ⟨blk,off,none⟩) cs.length cap),(12,Ln .i64 (cs.length:Nat)),(13,Ln .i64 (i+1:Nat))],[(9,some ⟨69,(rowsZ (cs.take i) cells++[Value.int .i64 c.id,Value.string ⟨c.nm.toArray⟩]).map .val ++ .slc 20 0 c.fs.length 3::(zer (cs.length-(i+1))).map .val,false⟩),(20,some ⟨79,(flV c.fs).map .val,true⟩),sxB 1 ver (some ⟨blk,off,none⟩) cs.length cap,(2,some ⟨24,[.val (.int .i64 0),.val (.slice none 0 0)],false⟩)],joinM X H⟩) (Le.of (by exact ⟨O,O,O,O,O,O,trivial⟩) (by exact ⟨O,O,O,O,trivial⟩) (by exact O) (by exact O) (by repeat' (first|refine bR ?_ ?_|rfl|exact bT|exact bS|exact bU O))) ?_
      refine Leads.closeCell hO (flV_len _) O bS bS O O O fun b o v g1 _ hO3 hv=>bZ ⟨cs.length-(i+1),by omega,i+1,cells++[v],withBlock H b o,by omega,O,hO3,?_,?_⟩
      · rw [take_snoc hc,dF,List.map_cons,List.map_nil]
        by_cases hf0:flV c.fs=[]
        · rw [hf0] at hv ⊢
          obtain ⟨len,cap',arr,fr,rfl,h2,_⟩:=hv
          have e0:len=0:=by rw [dM] at h2;omega
          subst e0
          exact (G.more g1).pushZ _ _
        · exact G.push g1 hv hf0
      · rw [rowsZ_snoc hcl hc]
        unfold kcSt
        simp
  · have e:i=cs.length:=by omega
    subst e
    rw [dD] at *
    (refine aA<|rgN<|klt O O (cL (by omega))<|aB<|aA<|aF O ?_;refine aJ<|aA<|rgN<|kfa O O ?_;refine kl1 O O O<|kmv O<|aT O O (by exact O) (by exact nl2 O O O) dP ?_;refine aM O O O O O O dP ?_;refine aB<|aI ?_)
    refine cA (σ':=⟨[(2,Lp 2)],[(9,some ⟨69,(rowsZ cs cells++[]).map .val,false⟩),(2,some ⟨24,[.val (.int .i64 ver),.slc 9 0 cs.length 3],false⟩)],joinM X H⟩) (by rw [Nat.sub_self];exact Le.of (by exact ⟨rfl,trivial⟩) (by exact ⟨rfl,rfl,trivial⟩) (by exact rfl) (by exact rfl) (by repeat' (first|refine bR ?_ ?_|rfl|exact bT|exact bS|exact bU rfl))) ?_
    refine sc_shut hO G hInb (bZ ?_)
    exact ⟨[(1000001,9)],⟨[_],⟨⟨_,_,rfl,rfl,rfl,.inl ⟨AggT.h,rfl⟩⟩,trivial⟩,rfl⟩,(by repeat' (first|exact trivial|refine cO ⟨_,rfl,?_⟩ ?_|refine cO ⟨_,rfl⟩ ?_|rfl|exact bV _ _ _ _|exact bW _ _ _ _|exact bX rfl)),rfl,rfl⟩
theorem fit_lent {S:Nat→Option (Option Box)} {k:Nat} {fs:List Fl} {vad:Option Addr} {vcap:Nat} {ns:List (Bool×Int)} {el:TypeId} {row:Bool} {e:Int} (hs:∀ f∈fs,(-9223372036854775808≤f.kind∧f.kind<9223372036854775808)∧(-9223372036854775808≤f.count∧f.count<9223372036854775808)) (hbig:fs.length<4611686018427387904) (hns:NumsIn X vad ns)
    (hk:S k=some (some ⟨el,(flV fs).map .val,row⟩)) (he:fitErr fs ns=e):
    ∀ (Y:Nat→Option Obj) (us:List Value),(∀ b o,X b=some o→Y b=some o)→LentLs S Y [.sv (.one (.slc k 0 fs.length 3)),Lx vad ns.length vcap] us→PSpec Tryz.prog Y 69 (us.map toLV) (Ln .i64 e):=by
  intro Y us hY hL
  obtain ⟨u1,us1,rfl,h1,u2,us2,rfl,h2,rfl⟩:=hL
  have h2:u2 = .slice vad ns.length vcap:=h2
  subst h2
  obtain ⟨fa,fcap,rfl,hF⟩:=lent_fields hk hs h1
  subst he
  exact lFit_any Y (some fa) vad fcap vcap fs ns hF hbig ⟨hns.rows.mono hY,hns.in2⟩
theorem pPartBig (ver:Int) (ad vad:Option Addr) (cap vcap:Nat) (cs:List Cp) (p:Pt) (hin:CompsIn X ad cs) (hbig:cs.length<4611686018427387904) (hfs:∀ c∈cs,c.fs.length≤4398046511104) (hns:NumsIn X vad p.val) (e:Int) (he:partE cs p=e):
    PSpec Tryz.prog X 91 [Sx ver ad cs.length cap,Px p vad vcap] (Ln .i64 e):=by
  subst he
  refine cD Tryz.func91 rfl (by kernel_rfl) rfl rfl ?_
  intro C
  unfold partE
  rcases find_cases cs p.comp with ⟨i,c,hc,he,hpre⟩|hno
  · rw [find_at hpre hc he]
    have hfb:=hfs c (dB hc)
    rcases pFind X ver ad cap cs p.comp hin hbig hfs hpre hc he with ⟨h0,hF⟩|hF
    · have hR:=lFit_any X none vad 0 vcap c.fs p.val (fields_none h0) (by omega) hns
      simp only
      generalize fitErr c.fs p.val=e at *
      (refine aA<|rgN<|aL O O O dP<|aL O O O dP<|kas O<|aB<|aA<|rgN<|aK O O O dP ?_;refine kfa O O ?_;refine kl1 O O O<|kca O O hF<|kmv O<|kex O O<|kex O O<|aP O dP ?_;refine aM O O O O O O dP ?_;refine kas O<|aB<|aA<|aA<|rgN<|kmv O<|aV O O dP<|aB<|aF O ?_;refine aH ?_;refine aA<|rgN<|kfa O O ?_;refine kl1 O O O<|kfa O O ?_;refine kl1 O O O<|kca O O (hR)<|kas O<|aB<|aI ?_)
      exact ⟨[_],⟨O,trivial⟩,O⟩
    · obtain ⟨_,_,_,_,_,_,_,_,_,_,_,_,_,_,hFs⟩:=hin.get hc
      have hR:=fun (S:Nat→Option (Option Box)) (hk:S 20=some (some ⟨79,(flV c.fs).map .val,true⟩))=>fit_lent X (S:=S) (k:=20) (vcap:=vcap) hFs.small (by omega) hns hk rfl
      simp only
      generalize fitErr c.fs p.val=e at *
      (refine aA<|rgN<|aL O O O dP<|aL O O O dP<|kas O<|aB<|aA<|rgN<|aK O O O dP ?_;refine kfa O O ?_;refine kl1 O O O<|bE [(1000001,20)] (.tup [SCs c 20,Sb true]) [fdB 20 c.fs] (hF) O O (by exact trivial) O O O O O (by exact (.box O (bW _ _ _ _) .nil)) dP<|kmv O<|kex O O<|kex O O<|aP O dP ?_;refine aM O O O O O O dP ?_;refine kas O<|aB<|aA<|aA<|rgN<|kmv O<|aV O O dP<|aB<|aF O ?_;refine aH ?_;refine aA<|rgN<|kfa O O ?_;refine kl1 O O O<|kfa O O ?_;refine kl1 O O O<|K.callL [20] O O O (hR _ O) dP ?_;refine kas O<|aB<|aI ?_)
      exact ⟨[_],⟨O,trivial⟩,O⟩
  · rw [find_no hno]
    have hF:=pFind_no X ver ad cap cs p.comp hin hbig hno
    (refine aA<|rgN<|aL O O O dP<|aL O O O dP<|kas O<|aB<|aA<|rgN<|aK O O O dP ?_;refine kfa O O ?_;refine kl1 O O O<|kca O O hF<|kmv O<|kex O O<|kex O O<|aP O dP ?_;refine aM O O O O O O dP ?_;refine kas O<|aB<|aA<|aA<|rgN<|kmv O<|aV O O dP<|aB<|aE O ?_;refine aA<|rgN<|kas O<|aB<|aI ?_)
    exact ⟨[_],⟨O,trivial⟩,O⟩
abbrev idBx (k:Nat) (ns:List Int):Nat×Option Box:=(k,some ⟨0,[],.res (mapR Tryz.prog 3 (idM ns))⟩)
set_option maxHeartbeats 3200000 in
theorem pPartsBig (ver:Int) (ad pad:Option Addr) (cap pcap:Nat) (cs:List Cp) (ps:List Pt) (hin:CompsIn X ad cs) (hbig:cs.length<4611686018427387904) (hfs:∀ c∈cs,c.fs.length≤4398046511104) (hps:PartsIn X pad ps) (hpb:ps.length<4611686018427387904) (e:Int) (he:partsE cs ps=e):
    PSpec Tryz.prog X 66 [Sx ver ad cs.length cap,Lx pad ps.length pcap] (Ln .i64 e):=by
  subst he
  refine cD Tryz.func66 rfl (by kernel_rfl) rfl rfl ?_
  intro C
  (refine aA<|rgN<|aL O O O dP<|kas O<|aB<|aA<|rgN<|K.makeMap 3 O dP ?_;refine kas O<|aB<|aA<|aA<|rgN<|kmv O<|aQ O bY O dP ?_;refine kmv O<|aB<|aG ?_)
  refine cH (fun m σ=>∃ i:Nat,i≤ps.length∧m=ps.length-i∧(∀ j,0≤j→j<i→ptE cs ps j=0)∧σ=⟨[(2,Lp 2),(5,Lmp 11),(12,Lx pad ps.length pcap),(13,Ln .i64 (ps.length:Nat)),(14,Ln .i64 (i:Nat))],[sxB 2 ver ad cs.length cap,idBx 11 ((ps.take i).map Pt.comp)],X⟩) ps.length
    ⟨_,Le.of (by exact ⟨rfl,rfl,rfl,rfl,rfl,trivial⟩) (by exact ⟨rfl,rfl,trivial⟩) (by exact rfl) (by exact rfl) (by repeat' (first|refine bR ?_ ?_|rfl|exact bT|exact bS|exact bU rfl)),0,by omega,by omega,fun j _ hj=>absurd hj (by omega),rfl⟩ ?_
  rintro m σ ⟨i,hi,rfl,hpre,rfl⟩
  by_cases hlt:i<ps.length
  · obtain ⟨p,hp⟩:∃ p,ps[i]? = some p:=⟨_,cW hlt⟩
    obtain ⟨blk,off,arr,el,fr,vad,vcap,rfl,hX,hsz,hcs,_,_,hN⟩:=hps.get hp
    have hio:off+Int.toNat (i:Int)*2=off+i*2:=by simp
    have hE:=ptE_at (cs:=cs) hp
    have hsm:=hps.small p (dB hp)
    have hkey:Go.keyOf Tryz.prog 3 (.int .i64 p.comp)=some (.int .i64 p.comp):=by
      rw [keyOf_int (q:=.i64) (by kernel_rfl)]
      unfold mapKey
      rw [show Tryz.prog.underlying 3=some (.int .i64) by kernel_rfl]
      have hw:(Lit.int .i64 p.comp).wf=true:=by
        show (decide (IntKind.i64.min≤p.comp)&&decide (p.comp≤IntKind.i64.max))=true
        rw [show IntKind.i64.min = -9223372036854775808 from rfl,show IntKind.i64.max=9223372036854775807 from rfl,cN hsm.1,cN (show p.comp≤9223372036854775807 by omega)];rfl
      simp [hw]
    have hat:=idM_at ((ps.take i).map Pt.comp) p.comp
    have hP:=pPartBig X ver ad vad cap vcap cs p hin hbig hfs hN (partE cs p) rfl
    have hany:((ps.take i).map Pt.comp).any (fun m=>m==p.comp)=(ps.take i).any (fun g=>g.comp==p.comp):=by rw [List.any_map];rfl
    have hts:(ps.take (i+1)).map Pt.comp=(ps.take i).map Pt.comp++[p.comp]:=by rw [take_snoc hp,dF];rfl
    cases hin2:(ps.take i).any (fun g=>g.comp==p.comp) with
    | true =>
      rw [hin2] at hE hany
      rw [if_pos rfl] at hE
      rw [show partsE cs ps=1 from firstE_some hpre (Nat.zero_le _) (by omega) hE (by decide)]
      have hr:=idM_any _ p.comp true hany
      generalize (ps.take i).map Pt.comp=ns at *
      (refine aA<|rgN<|klt O O (cN (by omega))<|aB<|aA<|aE O ?_;refine aH ?_;refine aA<|aG<|aA<|rgN<|aR O O bY (by omega) hio dP<|aY O hX (by kernel_rfl) hsz hcs dP<|aP O dP ?_;refine aM O O O O O O dP ?_;refine aB<|aA<|aA<|rgN<|kmv O<|kfa O O ?_;refine kl1 O O O<|K.lookupOk (et:=155) (.agg []) (v:=.agg #[]) (z:=.agg #[]) O O O (by kernel_rfl) (KL.int (q:=.i64) (by kernel_rfl)) hkey (by kernel_rfl) hat agg0_rel hr dP ?_;refine kmv O<|kex O O<|kex O O<|aP O dP ?_;refine aM O O O O O O dP ?_;refine kas O<|aB<|aA<|rgN<|kmv O<|aB<|aE O ?_;refine aA<|rgN<|kas O<|aB<|aI ?_)
      exact ⟨[_],⟨O,trivial⟩,O⟩
    | false =>
      rw [hin2] at hE hany
      rw [if_neg (by decide)] at hE
      have hr:=idM_any _ p.comp false hany
      have hput:=idM_put hany
      rw [← hts] at hput
      generalize (ps.take i).map Pt.comp=ns at *
      generalize hns:(ps.take (i+1)).map Pt.comp=ns' at *
      by_cases he0:partE cs p=0
      · rw [he0] at hP hE
        (refine aA<|rgN<|klt O O (cN (by omega))<|aB<|aA<|aE O ?_;refine aH ?_;refine aA<|aG<|aA<|rgN<|aR O O bY (by omega) hio dP<|aY O hX (by kernel_rfl) hsz hcs dP<|aP O dP ?_;refine aM O O O O O O dP ?_;refine aB<|aA<|aA<|rgN<|kmv O<|kfa O O ?_;refine kl1 O O O<|K.lookupOk (et:=155) (.agg []) (v:=.agg #[]) (z:=.agg #[]) O O O (by kernel_rfl) (KL.int (q:=.i64) (by kernel_rfl)) hkey (by kernel_rfl) hat agg0_rel hr dP ?_;refine kmv O<|kex O O<|kex O O<|aP O dP ?_;refine aM O O O O O O dP ?_;refine kas O<|aB<|aA<|rgN<|kmv O<|aB<|aF O ?_;refine aH ?_;refine aA<|rgN<|kmv O<|kfa O O ?_;refine kl1 O O O<|aT O O (by exact O) (by exact nl0 O) dP ?_;refine K.mapPut (et:=155) (idM ns') O O O O (by kernel_rfl) (KL.int (q:=.i64) (by kernel_rfl)) hkey hput dP ?_;refine aB<|aA<|rgN<|aK O O O dP ?_;refine aK O O O dP ?_;refine kca O O hP<|kas O<|aB<|aA<|rgN<|kmv O<|kne O O ((cQ (by omega)))<|aB<|aF O ?_;refine aH ?_;refine rgN<|kad O O (cF (by omega))<|kmv O<|aB ?_)
        subst hns
        exact ⟨_,_,by omega,Le.of (by exact ⟨O,O,O,O,O,trivial⟩) (by exact ⟨O,O,trivial⟩) (by exact O) (by exact O) (by repeat' (first|refine bR ?_ ?_|rfl|exact bT|exact bS|exact bU O)),i+1,by omega,O,(fun j h0 hj=>by
          by_cases e:j=i
          · rw [e];exact hE
          · exact hpre j h0 (by omega)),rfl⟩
      · rw [show partsE cs ps=partE cs p from firstE_some hpre (Nat.zero_le _) (by omega) hE he0]
        have hne:(partE cs p != 0)=true:=by rw [bne_iff_ne];exact he0
        generalize partE cs p=E at *
        (refine aA<|rgN<|klt O O (cN (by omega))<|aB<|aA<|aE O ?_;refine aH ?_;refine aA<|aG<|aA<|rgN<|aR O O bY (by omega) hio dP<|aY O hX (by kernel_rfl) hsz hcs dP<|aP O dP ?_;refine aM O O O O O O dP ?_;refine aB<|aA<|aA<|rgN<|kmv O<|kfa O O ?_;refine kl1 O O O<|K.lookupOk (et:=155) (.agg []) (v:=.agg #[]) (z:=.agg #[]) O O O (by kernel_rfl) (KL.int (q:=.i64) (by kernel_rfl)) hkey (by kernel_rfl) hat agg0_rel hr dP ?_;refine kmv O<|kex O O<|kex O O<|aP O dP ?_;refine aM O O O O O O dP ?_;refine kas O<|aB<|aA<|rgN<|kmv O<|aB<|aF O ?_;refine aH ?_;refine aA<|rgN<|kmv O<|kfa O O ?_;refine kl1 O O O<|aT O O (by exact O) (by exact nl0 O) dP ?_;refine K.mapPut (et:=155) (idM ns') O O O O (by kernel_rfl) (KL.int (q:=.i64) (by kernel_rfl)) hkey hput dP ?_;refine aB<|aA<|rgN<|aK O O O dP ?_;refine aK O O O dP ?_;refine kca O O hP<|kas O<|aB<|aA<|rgN<|kmv O<|kne O O hne<|aB<|aE O ?_;refine aA<|rgN<|kmv O<|kas O<|aB<|aI ?_)
        exact ⟨[_],⟨O,trivial⟩,O⟩
  · rw [show partsE cs ps=0 from firstE_none fun j h0 hj=>hpre j h0 (by omega)]
    (refine aA<|rgN<|klt O O (cL (by omega))<|aB<|aA<|aF O ?_;refine aJ<|aA<|rgN<|kas O<|aB<|aI ?_)
    exact ⟨[_],⟨O,trivial⟩,O⟩
end Go.Proofs.YtjifibloagkeeaaGreat
end
section
namespace Go.Proofs.YtjifibloagkeeaaGreat
open Go Go.Lg Go.Lg.Fld
set_option maxRecDepth 100000
theorem rows_in {Y:Nat→Option Obj} {blk:Nat} {arr:Array Value} {el:TypeId} {fr:Nat×Nat} {sz:Nat} {rows:List (List Value)} (hY:Y blk=some (.cells arr el fr)) (hl:∀ r∈rows,r.length=sz) (hsp:∃ sp,arr.toList=rows.flatten++sp):Go.Lg.RowsIn Y (some ⟨blk,0,none⟩) sz rows:=fun i r hi=>by
  obtain ⟨sp,e⟩:=hsp
  obtain ⟨h1,h2⟩:=flat_row hl (sp:=sp) hi
  refine ⟨blk,0,arr,el,fr,O,hY,?_,?_⟩
  · rw [← Array.length_toList,e];omega
  · rw [e,Nat.zero_add];exact h2
variable (X:Nat→Option Obj)
end Go.Proofs.YtjifibloagkeeaaGreat
end
section
namespace Go.Lg.Fld
open Go Go.Lg
theorem any_at {α:Type} {p:α→Bool} {l:List α} {i:Nat} {x:α} (h:l[i]? = some x) (hp:p x=true):l.any p=true:=List.any_eq_true.2 ⟨x,dB h,hp⟩
theorem any_no {α:Type} {p:α→Bool} {l:List α} (h:∀ (j:Nat) (y:α),l[j]? = some y→p y=false):l.any p=false:=by
  rw [List.any_eq_false]
  intro y hy
  obtain ⟨j,hj⟩:=List.mem_iff_getElem?.1 hy
  rw [h j y hj];simp
end Go.Lg.Fld
namespace Go.Proofs.YtjifibloagkeeaaGreat
open Go Go.Lg Go.Lg.Fld
set_option maxRecDepth 100000
variable (X:Nat→Option Obj)
def cs0:List Cp:=[⟨1,[112,111,115],[⟨[120],3,1⟩,⟨[121],3,1⟩]⟩,⟨3,[116,97,103],[]⟩]
end Go.Proofs.YtjifibloagkeeaaGreat
end
section
namespace Go.Lg.Fld
open Go Go.Lg
def Scan {α:Type} (p:α→Bool) (l:List α) (k:Nat) (v:Int):Prop:=(v = -1∧∀ (m:Nat) (y:α),k≤m→l[m]? = some y→p y=false)∨∃ (i:Nat) (c:α),v=(i:Nat)∧l[i]? = some c∧p c=true∧∀ (m:Nat) (y:α),k≤m→m<i→l[m]? = some y→p y=false
end Go.Lg.Fld
namespace Go.Proofs.YtjifibloagkeeaaGreat
open Go Go.Lg Go.Lg.Fld
set_option maxRecDepth 100000
variable (X:Nat→Option Obj)
end Go.Proofs.YtjifibloagkeeaaGreat
end
section
namespace Go.Lg.Fld
open Go Go.Lg
structure Good (cs:List Cp):Prop where
  one:∀ (i:Nat) (c:Cp),cs[i]? = some c→1≤c.id∧c.id≤24∧nmB c.nm=true∧firstE (fldE c.fs) 0 c.fs.length=0∧layErr c.fs=0
  two:∀ (i j:Nat) (c d:Cp),i<j→cs[i]? = some c→cs[j]? = some d→c.id<d.id∧c.nm≠d.nm
theorem good_of {cs:List Cp} (h:firstE (cmpE cs) 0 cs.length=0):Good cs:=by
  have h0:∀ (i:Nat) (c:Cp),cs[i]? = some c→¬(c.id<1∨24<c.id∨(0<i∧c.id≤prevId cs i))∧nmB c.nm=true∧(cs.take i).any (fun g=>g.nm==c.nm)=false∧firstE (fldE c.fs) 0 c.fs.length=0∧layErr c.fs=0:=fun i c hc=>by
    have hi:=(List.getElem?_eq_some_iff.1 hc).1
    have h1:=firstE_zero h i (Nat.zero_le _) (by omega)
    rw [cmpE_at hc] at h1
    by_cases b1:c.id<1∨24<c.id∨(0<i∧c.id≤prevId cs i)
    · rw [if_pos b1] at h1;cases h1
    · rw [if_neg b1] at h1
      by_cases b2:nmB c.nm=true
      · rw [if_pos b2] at h1
        by_cases b3:(cs.take i).any (fun g=>g.nm==c.nm)=true
        · rw [if_pos b3] at h1;cases h1
        · rw [if_neg b3] at h1
          by_cases b4:firstE (fldE c.fs) 0 c.fs.length=0
          · rw [if_pos b4] at h1
            exact ⟨b1,b2,by simpa using b3,b4,h1⟩
          · rw [if_neg b4] at h1;cases h1
      · rw [if_neg b2] at h1;cases h1
  refine ⟨fun i c hc => ?_,fun i j c d hij hc hd=>⟨?_,fun e => ?_⟩⟩
  · obtain ⟨h1,h2,_,h4,h5⟩:=h0 i c hc
    exact ⟨by omega,by omega,h2,h4,h5⟩
  · obtain ⟨k,rfl⟩:∃ k,j=i+1+k:=⟨j-(i+1),by omega⟩
    induction k generalizing d with
    | zero =>
      obtain ⟨h1,_⟩:=h0 _ d hd
      have hp:cs[i+1+0-1]? = some c:=hc
      have:=prev_at hp
      omega
    | succ k ih =>
      obtain ⟨d',hd'⟩:∃ d',cs[i+1+k]? = some d':=⟨_,cW (by have:=(List.getElem?_eq_some_iff.1 hd).1;omega)⟩
      have h2:=ih d' (by omega) hd'
      obtain ⟨h1,_⟩:=h0 _ d hd
      have hp:cs[i+1+(k+1)-1]? = some d':=hd'
      have:=prev_at hp
      omega
  · obtain ⟨_,_,h3,_⟩:=h0 j d hd
    have:=any_true (p:=fun g:Cp=>g.nm==d.nm) hij hc (by rw [beq_iff_eq];exact e)
    rw [h3] at this;cases this
end Go.Lg.Fld
end
section
namespace Go.Lg.Fld
open Go Go.Lg
def Less (x y:List UInt8×Bool):Prop:=y.1.length≤x.1.length∧(x.2=true→y.2=true)
end Go.Lg.Fld
namespace Go.Proofs.YtjifibloagkeeaaGreat
open Go Go.Lg Go.Lg.Fld
set_option maxRecDepth 100000
variable (X:Nat→Option Obj)
end Go.Proofs.YtjifibloagkeeaaGreat
end
section
namespace Go.Lg.Fld
open Go Go.Lg
def SmallC8 (cs:List Cp):Prop:=cs.length≤30∧∀ c∈cs,c.fs.length≤12∧c.nm.length≤300∧∀ f∈c.fs,f.nm.length≤300
end Go.Lg.Fld
namespace Go.Proofs.YtjifibloagkeeaaGreat
open Go Go.Lg Go.Lg.Fld
set_option maxRecDepth 100000
variable (X:Nat→Option Obj)
end Go.Proofs.YtjifibloagkeeaaGreat
end
section
namespace Go.Proofs.YtjifibloagkeeaaGreat
open Go Go.Lg Go.Lg.Fld
set_option maxRecDepth 100000
abbrev Ext (X Y:Nat→Option Obj):Prop := ∀ b o,X b=some o→Y b=some o
theorem row_cell {arr:Array Value} {p sz:Nat} {r:List Value} (h:(arr.toList.drop p).take sz=r) {j:Nat} (hj:j<sz):arr[p+j]? = r[j]? := by
  rw [← h,List.getElem?_take,if_pos hj,List.getElem?_drop,Array.getElem?_toList]
variable (X:Nat→Option Obj)
end Go.Proofs.YtjifibloagkeeaaGreat
end
section
namespace Go.Proofs.YtjifibloagkeeaaGreat
open Go Go.Lg Go.Lg.Fld
set_option maxRecDepth 100000
theorem packB_len {fs:List Fl} (h:fs.all Fl.ok=true) (ns:List (Bool×Int)):(packB fs ns).length=rowSize fs:=packE_len (within_row h) (by rw [dC])
variable (X:Nat→Option Obj)
end Go.Proofs.YtjifibloagkeeaaGreat
end
section
namespace Go.Proofs.YtjifibloagkeeaaGreat
open Go Go.Lg Go.Lg.Fld
set_option maxRecDepth 100000
def fsAt (cs:List Cp) (id:Int):List Fl:=match cs.find? (fun c=>c.id==id) with|some c=>c.fs|none=>[]
theorem partE_find {cs:List Cp} {p:Pt} (h:partE cs p=0):∃ c,cs.find? (fun c=>c.id==p.comp)=some c∧fitErr c.fs p.val=0:=by
  unfold partE at h
  cases hf:cs.find? (fun c=>c.id==p.comp) with
  | none=>rw [hf] at h;cases h
  | some c=>rw [hf] at h;exact ⟨c,rfl,h⟩
end Go.Proofs.YtjifibloagkeeaaGreat
end
section
namespace Go.Lg.Sg
open Go Go.Lg
def nuV (l:List Int):List Value:=l.map (Value.int .i64 ·)
def NuIn (X:Nat→Option Obj) (ad:Option Addr) (l:List Int):Prop:=RowsIn X ad 1 (l.map fun n=>[.int .i64 n])
theorem NuIn.at {X:Nat→Option Obj} {ad:Option Addr} {l:List Int} (h:NuIn X ad l) {i:Nat} {x:Int} (hx:l[i]? = some x):∃ (blk off:Nat) (arr:Array Value) (el:TypeId) (fr:Nat×Nat),ad=some ⟨blk,off,none⟩∧X blk=some (.cells arr el fr)∧arr[off+i*1]? = some (.int .i64 x):=by
  obtain ⟨blk,off,arr,el,fr,h1,h2,h3,h4⟩:=h i [.int .i64 x] (by rw [List.getElem?_map,hx];rfl)
  refine ⟨blk,off,arr,el,fr,h1,h2,?_⟩
  have:=congrArg (fun l:List Value=>l[0]?) h4
  simpa [List.getElem?_take,List.getElem?_drop] using this
theorem nu_flat (l:List Int):(l.map fun n=>[Value.int .i64 n]).flatten=nuV l:=by
  unfold nuV
  induction l with
  | nil=>rfl
  | cons x t ih=>rw [List.map_cons,List.flatten_cons,ih];rfl
abbrev nuB (k:Nat) (l:List Int):Nat×Option Box:=(k,some ⟨3,(nuV l).map .val,true⟩)
abbrev nuB' (k:Nat) (l:List Int) (r:Bool):Nat×Option Box:=(k,some ⟨3,(nuV l).map .val,r⟩)
end Go.Lg.Sg
end
section
namespace Go.Lg.Fld
open Go Go.Lg
structure Ch where
  kind:Int
  comp:Int
  fld:List UInt8
instance:DecidableEq Ch:=fun a b=>decidable_of_iff (a.kind=b.kind∧a.comp=b.comp∧a.fld=b.fld) ⟨fun ⟨h1,h2,h3⟩=>by cases a;cases b;simp_all,fun h=>by rw [h];exact ⟨rfl,rfl,rfl⟩⟩
def fldAt (fs:List Fl) (nm:List UInt8):Option Fl:=fs.find? fun f=>f.nm==nm
def fldIx (fs:List Fl) (nm:List UInt8):Int:=findI (fun f=>f.nm==nm) fs
theorem fldIx_some {fs:List Fl} {nm:List UInt8} (h:0≤fldIx fs nm):∃ (k:Nat) (g:Fl),fs[k]? = some g∧g.nm=nm∧fldIx fs nm=(k:Nat)∧fldAt fs nm=some g∧∀ (j:Nat) (y:Fl),j<k→fs[j]? = some y→y.nm≠nm:=by
  unfold fldIx findI at h
  cases hf:fs.findIdx? (fun f=>f.nm==nm) with
  | none=>rw [hf] at h;simp only at h;omega
  | some k =>
    obtain ⟨hk,h1,h2⟩:=List.findIdx?_eq_some_iff_getElem.1 hf
    refine ⟨k,fs[k],cW hk,by simpa using h1,by unfold fldIx findI;rw [hf],?_,fun j y hj hy => ?_⟩
    · unfold fldAt
      rw [List.find?_eq_some_iff_getElem]
      exact ⟨h1,k,hk,O,fun j hj=>by simpa using h2 j hj⟩
    · obtain ⟨hj',e⟩:=List.getElem?_eq_some_iff.1 hy
      have:=h2 j hj
      rw [e] at this
      simpa using this
end Go.Lg.Fld
end
section
namespace Go.Lg.Fld
open Go Go.Lg
def Apart (fs:List Fl):Prop:=fs.Pairwise fun f g=>f.nm≠g.nm
theorem sorted_eq {α:Type} (key:α→Int):∀ {l1 l2:List α},l1.Pairwise (fun x y=>key x<key y)→l2.Pairwise (fun x y=>key x<key y)→(∀ x,x∈l1↔x∈l2)→l1=l2
  | [],[],_,_,_=>rfl
  | [],y::_,_,_,h=>by have:=(h y).2 List.mem_cons_self;cases this
  | x::_,[],_,_,h=>by have:=(h x).1 List.mem_cons_self;cases this
  | x::t1,y::t2,h1,h2,h=>by
    obtain ⟨a1,b1⟩:=List.pairwise_cons.1 h1
    obtain ⟨a2,b2⟩:=List.pairwise_cons.1 h2
    have e:x=y:=by
      rcases List.mem_cons.1 ((h x).1 List.mem_cons_self) with e|hx
      · exact e
      · rcases List.mem_cons.1 ((h y).2 List.mem_cons_self) with e|hy
        · exact e.symm
        · have:=a1 y hy;have:=a2 x hx;omega
    subst e
    rw [sorted_eq key b1 b2 fun z=>⟨fun hz => ?_,fun hz => ?_⟩]
    · rcases List.mem_cons.1 ((h z).1 (List.mem_cons_of_mem _ hz)) with e|h'
      · have:=a1 z hz;rw [e] at this;omega
      · exact h'
    · rcases List.mem_cons.1 ((h z).2 (List.mem_cons_of_mem _ hz)) with e|h'
      · have:=a2 z hz;rw [e] at this;omega
      · exact h'
end Go.Lg.Fld
end
section
namespace Go.Lg.Fld
open Go Go.Lg
def Ch.vals (x:Ch):List Value:=[.int .i64 x.kind,.int .i64 x.comp,.string ⟨x.fld.toArray⟩]
end Go.Lg.Fld
namespace Go.Proofs.YtjifibloagkeeaaGreat
open Go Go.Lg Go.Lg.Fld
set_option maxRecDepth 100000
variable (X:Nat→Option Obj)
end Go.Proofs.YtjifibloagkeeaaGreat
end
section
namespace Go.Lg.Sg
open Go Go.Lg
def bl (f:Nat→Bool):List CV:=(List.range 32).map fun j=>.val (.bool (f j))
theorem bl_at {f:Nat→Bool} {i:Nat} (hi:i<32):(bl f)[i]? = some (.val (.bool (f i))):=by
  simp [bl,hi]
theorem bl_congr {f g:Nat→Bool} (h:∀ j,j<32→f j=g j):bl f=bl g:=by
  unfold bl
  exact List.map_congr_left fun j hj=>by rw [h j (List.mem_range.1 hj)]
theorem bl_set {f:Nat→Bool} {i:Nat} {b:Bool} (hi:i<32):(bl f).set i (.val (.bool b))=bl (fun j=>if j=i then b else f j):=by
  apply List.ext_getElem?
  intro j
  rw [List.getElem?_set]
  by_cases h:i=j
  · subst h
    simp [bl,hi]
  · rw [if_neg h]
    by_cases hj:j<32
    · rw [bl_at hj,bl_at hj,if_neg (fun e=>h e.symm)]
    · simp [bl,hj]
theorem bl_len (f:Nat→Bool):(bl f).length=32:=by unfold bl;rw [cV,List.length_range]
theorem bl_blt {f:Nat→Bool} {i:Nat} (hi:i<32):Nat.blt i (bl f).length=true:=by rw [bl_len];unfold Nat.blt;rw [Nat.ble_eq];exact hi
def idsTo (a n:Nat):List Int:=((List.range n).filter fun i=>a.testBit (i+1)).map fun i=>((i+1:Nat):Int)
def idsL (a:Nat):List Int:=idsTo a 24
theorem idsTo_succ (a n:Nat):idsTo a (n+1)=idsTo a n++if a.testBit (n+1)=true then [((n+1:Nat):Int)] else []:=by
  unfold idsTo
  rw [List.range_succ,List.filter_append,dF]
  congr 1
  by_cases h:a.testBit (n+1)=true<;>simp [h]
theorem idsTo_len (a n:Nat):(idsTo a n).length≤n:=by
  unfold idsTo
  rw [cV]
  exact Nat.le_trans (List.length_filter_le _ _) (by rw [List.length_range];exact dL _)
def okJ (id:Int):Bool:=decide (1≤id)&&decide (id≤24)
theorem okI_iff {id:Int}:okJ id=true↔1≤id∧id≤24:=by unfold okJ;simp
def hasB (a:Nat) (id:Int):Bool:=okJ id&&a.testBit id.toNat
theorem mem_ids {a n:Nat} {id:Int}:id∈idsTo a n↔1≤id∧id≤n∧a.testBit id.toNat=true:=by
  unfold idsTo
  rw [List.mem_map]
  constructor
  · rintro ⟨i,hi,rfl⟩
    obtain ⟨h1,h2⟩:=List.mem_filter.1 hi
    have:=List.mem_range.1 h1
    exact ⟨by omega,by omega,by rw [show ((i+1:Nat):Int).toNat=i+1 from rfl];exact h2⟩
  · rintro ⟨h1,h2,h3⟩
    refine ⟨id.toNat-1,List.mem_filter.2 ⟨List.mem_range.2 (by omega),?_⟩,by omega⟩
    rw [show id.toNat-1+1=id.toNat by omega]
    exact h3
theorem any_ids {a:Nat} {id:Int}:(idsL a).any (fun x=>x==id)=hasB a id:=by
  rw [Bool.eq_iff_iff,List.any_eq_true]
  unfold hasB
  rw [Bool.and_eq_true,okI_iff]
  constructor
  · rintro ⟨x,hx,he⟩
    rw [beq_iff_eq.1 he] at hx
    obtain ⟨h1,h2,h3⟩:=mem_ids.1 hx
    exact ⟨⟨h1,h2⟩,h3⟩
  · rintro ⟨⟨h1,h2⟩,h3⟩
    exact ⟨id,mem_ids.2 ⟨h1,h2,h3⟩,cS O⟩
def badI (i:Nat):Bool:=decide (i<1)||decide (24<i)
def isB (a:Nat):Bool:=(List.range 32).all fun i => !(a.testBit i&&badI i)
theorem isB_iff {a:Nat}:isB a=true↔∀ i,i<32→a.testBit i=true→1≤i∧i≤24:=by
  unfold isB badI
  rw [List.all_eq_true]
  constructor
  · intro h i hi hb
    have:=h i (List.mem_range.2 hi)
    rw [hb] at this
    simp at this
    omega
  · intro h i hi
    have hi:=List.mem_range.1 hi
    cases hb:a.testBit i with
    | false=>rfl
    | true =>
      obtain ⟨h1,h2⟩:=h i hi hb
      rw [cL (by omega),cL (by omega)]
      rfl
theorem half_bit (a i:Nat):(a/2^i%2==1)=a.testBit i:=by
  rw [Nat.testBit_eq_decide_div_mod_eq]
  by_cases h:a/2^i%2=1
  · rw [cN h];exact cS h
  · rw [cL h];exact cP h
theorem half_next (a i:Nat):a/2^i/2=a/2^(i+1):=by rw [Nat.div_div_eq_div_mul,← Nat.pow_succ]
end Go.Lg.Sg
namespace Go.Proofs.YtjifibloagkeeaaGreat
open Go Go.Lg Go.Lg.Fld Go.Lg.Sg
set_option maxRecDepth 100000
variable (X:Nat→Option Obj)
instance:ArrB Tryz.prog 134 (List.replicate 32 (.bool false)) 1:=⟨by kernel_rfl⟩
abbrev blB (k:Nat) (f:Nat→Bool):Nat×Option Box:=(k,some ⟨134,bl f,false⟩)
theorem rBits_spec (a:Nat) (ha:a<4294967296):PSpec Tryz.prog X 64 [Ln .u32 (a:Nat)] (.sv (.agg (bl a.testBit))):=by
  refine cD Tryz.func64 rfl (by kernel_rfl) rfl rfl ?_
  intro C
  (refine aA<|rgN<|aP O dP ?_;refine aB<|aA<|rgN<|K.buildArr O O (by exact O) O dP ?_;refine aP O dP ?_;refine aM O O O O O O dP ?_;refine aB<|aA<|aA<|rgN<|kas O<|aB<|aG ?_)
  refine cH (fun m σ=>∃ i:Nat,i≤32∧m=32-i∧σ=⟨[(0,Ln .u32 (a/2^i:Nat)),(2,Lp 2),(3,Lp 3),(4,Ln .i64 (i:Nat))],[blB 2 fun _=>false,blB 3 fun j=>decide (j<i)&&a.testBit j],X⟩) 32
    ⟨⟨[(0,Ln .u32 (a/2^0:Nat)),(2,Lp 2),(3,Lp 3),(4,Ln .i64 (0:Nat))],[blB 2 fun _=>false,blB 3 fun j=>decide (j<0)&&a.testBit j],X⟩,by
      rw [show a/2^0=a from Nat.div_one a]
      exact Le.of (by exact ⟨O,O,O,O,trivial⟩) (by exact ⟨O,O,trivial⟩) (by exact O) (by exact O) (by repeat' (first|refine bR ?_ ?_|rfl|exact bT|exact bS|exact bU O)),0,by omega,O,O⟩ ?_
  rintro m σ ⟨i,hi,rfl,rfl⟩
  by_cases hlt:i<32
  · have hb:=half_bit a i
    have hmod:(((a/2^i:Nat):Int)).tmod ((2:Nat):Int)=((a/2^i%2:Nat):Int):=rfl
    have hquo:IntKind.u32.wrap ((((a/2^i:Nat):Int)).tdiv ((2:Nat):Int))=((a/2^(i+1):Nat):Int):=by
      rw [← half_next]
      refine wrap_u32 ⟨Int.natCast_nonneg _,?_⟩
      have:a/2^i/2≤a:=Nat.le_trans (Nat.div_le_self _ _) (Nat.div_le_self _ _)
      show ((a/2^i/2:Nat):Int)<_
      omega
    have heq:(((a/2^i%2:Nat):Int)==1)=a.testBit i:=by
      rw [← hb]
      by_cases h:a/2^i%2=1
      · rw [h];rfl
      · rw [cP h,cP (by omega)]
    have hi0:0+Int.toNat (i:Int)*1=i:=by simp
    have hset:=(bl_set (f:=fun j=>decide (j<i)&&a.testBit j) (b:=a.testBit i) hlt).trans (bl_congr (g:=fun j=>decide (j<i+1)&&a.testBit j) fun j _=>by
      by_cases e:j=i
      · rw [if_pos e,e,cN (by omega),Bool.true_and]
      · rw [if_neg e]
        congr 1
        by_cases h:j<i
        · rw [cN h,cN (by omega)]
        · rw [cL h,cL (by omega)])
    (refine aA<|aA<|rgN<|kmv O<|klt O O (cN (by omega))<|aB<|aE O ?_;refine aH ?_;refine aA<|aG<|aA<|rgN<|kmv O<|kmv O<|K.rem O O (by decide) hmod dP<|keq O O heq<|K.indexArr O O (by omega) hi0 dP ?_;refine bG O O O O (bl_blt hlt) hset dP<|aB<|rgN<|kmv O<|K.quo O O (by decide) hquo dP<|kas O<|aB<|rgN<|kmv O<|kad O O (cF (by omega))<|kas O<|aB ?_)
    exact ⟨_,⟨[(0,Ln .u32 (a/2^(i+1):Nat)),(2,Lp 2),(3,Lp 3),(4,Ln .i64 (i+1:Nat))],[blB 2 fun _=>false,blB 3 fun j=>decide (j<i+1)&&a.testBit j],X⟩,by omega,Le.of (by exact ⟨O,O,O,O,trivial⟩) (by exact ⟨O,O,trivial⟩) (by exact O) (by exact O) (by repeat' (first|refine bR ?_ ?_|rfl|exact bT|exact bS|exact bU O)),i+1,by omega,O,O⟩
  · have e:i=32:=by omega
    subst e
    have h32:blB 3 (fun j=>decide (j<32)&&a.testBit j)=blB 3 a.testBit:=congrArg (fun c=>((3,some ⟨134,c,false⟩):Nat×Option Box)) (bl_congr fun j hj=>by rw [cN hj,Bool.true_and])
    rw [h32]
    (refine aA<|aA<|rgN<|kmv O<|klt O O (r:=false) O<|aB<|aF O ?_;refine aJ<|aA<|rgN<|aK O O O dP ?_;refine aM O O O O O O dP ?_;refine aB<|aI ?_)
    exact ⟨[_],⟨⟨_,_,O,O,O,.inl ⟨AggT.h,O⟩⟩,trivial⟩,O⟩
end Go.Proofs.YtjifibloagkeeaaGreat
end
section
namespace Go.Lg.Sg
open Go Go.Lg
def txStep (s:List UInt8×Bool) (x:Int):List UInt8×Bool:=(s.1++(if s.2=true then [43] else [])++Lib.itoa x,true)
def txF (l:List Int):List UInt8×Bool:=l.foldl txStep ([],false)
def ofN (ids:List Int):Nat:=ids.foldl (fun n id=>n ||| 2^id.toNat) 0
theorem ofN_bit (ids:List Int) (j:Nat):(ofN ids).testBit j=ids.any fun id=>id.toNat==j:=by
  unfold ofN
  suffices H:∀ (l:List Int) (n:Nat),(l.foldl (fun n id=>n ||| 2^id.toNat) n).testBit j=(n.testBit j||l.any fun id=>id.toNat==j) by
    rw [H,Nat.zero_testBit,Bool.false_or]
  intro l
  induction l with
  | nil=>intro n;simp
  | cons x t ih =>
    intro n
    rw [List.foldl_cons,ih,Nat.testBit_or,Nat.testBit_two_pow,List.any_cons,Bool.or_assoc]
    congr 2
theorem ofN_lt {ids:List Int} (h:∀ id∈ids,okJ id=true):ofN ids<33554432:=by
  refine Nat.lt_pow_two_of_testBit (n:=25) _ fun i hi => ?_
  rw [ofN_bit,List.any_eq_false]
  intro id hid e
  have:=okI_iff.1 (h id hid)
  have:=beq_iff_eq.1 e
  omega
theorem ofN_isB {ids:List Int} (h:∀ id∈ids,okJ id=true):isB (ofN ids)=true:=by
  rw [isB_iff]
  intro i _ hb
  rw [ofN_bit,List.any_eq_true] at hb
  obtain ⟨id,hid,e⟩:=hb
  have:=okI_iff.1 (h id hid)
  have:=beq_iff_eq.1 e
  omega
def okIds (ids:List Int):Bool:=ids.all okJ
def ofA (ids:List Int):Nat:=if okIds ids=true then ofN ids else 0
end Go.Lg.Sg
namespace Go.Proofs.YtjifibloagkeeaaGreat
open Go Go.Lg Go.Lg.Fld Go.Lg.Sg
set_option maxRecDepth 100000
variable (X:Nat→Option Obj)
theorem rIs_spec (a:Nat) (ha:a<4294967296):PSpec Tryz.prog X 41 [Ln .u32 (a:Nat)] (Lb (isB a)):=by
  have hB:=rBits_spec X a ha
  refine cD Tryz.func41 rfl (by kernel_rfl) rfl rfl ?_
  intro C
  (refine aA<|rgN<|kas O<|aB<|aA<|rgN<|kmv O<|kca O O (hB)<|aP O dP ?_;refine aM O O O O O O dP ?_;refine aB<|aA<|aA<|rgN<|kas O<|aB<|aG ?_)
  refine cH (fun m σ=>∃ i:Nat,i≤32∧m=32-i∧(∀ j,j<i→(a.testBit j&&badI j)=false)∧σ=⟨[(3,Lp 3),(4,Ln .i64 (i:Nat))],[blB 3 a.testBit],X⟩) 32
    ⟨⟨[(3,Lp 3),(4,Ln .i64 (0:Nat))],[blB 3 a.testBit],X⟩,Le.of (by exact ⟨rfl,rfl,trivial⟩) (by exact ⟨rfl,trivial⟩) (by exact rfl) (by exact rfl) (by repeat' (first|refine bR ?_ ?_|rfl|exact bT|exact bS|exact bU rfl)),0,by omega,rfl,fun j h=>absurd h (by omega),rfl⟩ ?_
  rintro m σ ⟨i,hi,rfl,hpre,rfl⟩
  by_cases hlt:i<32
  · have hi0:0+Int.toNat (i:Int)*1=i:=by simp
    have hat:=bl_at (f:=a.testBit) hlt
    have next:∀ (h:(a.testBit i&&badI i)=false),∀ j,j<i+1→(a.testBit j&&badI j)=false:=fun h j hj=>by
      by_cases e:j=i
      · rw [e];exact h
      · exact hpre j (by omega)
    cases hb:a.testBit i with
    | false =>
      rw [hb] at hat
      (refine aA<|aA<|rgN<|kmv O<|klt O O (cN (by omega))<|aB<|aE O ?_;refine aH ?_;refine aA<|aG<|aA<|rgN<|kmv O<|K.indexArr O O (by omega) hi0 dP ?_;refine kl1 O O hat<|kmv O<|aC O O O<|aC O O O<|aC O O O<|aD O O<|aD O O<|aC O O O<|kpf O O<|aB<|aF O ?_;refine aH ?_;refine rgN<|kmv O<|kad O O (cF (by omega))<|kas O<|aB ?_)
      exact ⟨_,⟨[(3,Lp 3),(4,Ln .i64 (i+1:Nat))],[blB 3 a.testBit],X⟩,by omega,Le.of (by exact ⟨rfl,rfl,trivial⟩) (by exact ⟨rfl,trivial⟩) (by exact rfl) (by exact rfl) (by repeat' (first|refine bR ?_ ?_|rfl|exact bT|exact bS|exact bU rfl)),i+1,by omega,rfl,next (by rw [hb];rfl),rfl⟩
    | true =>
      rw [hb] at hat
      have no:badI i=true→isB a=false:=fun h=>by
        unfold isB
        rw [List.all_eq_false]
        exact ⟨i,List.mem_range.2 hlt,by rw [hb,h];decide⟩
      by_cases h1:i<1
      · rw [no (by unfold badI;rw [cN h1];rfl)]
        (refine aA<|aA<|rgN<|kmv O<|klt O O (cN (by omega))<|aB<|aE O ?_;refine aH ?_;refine aA<|aG<|aA<|rgN<|kmv O<|K.indexArr O O (by omega) hi0 dP ?_;refine kl1 O O hat<|kmv O<|gmv O O O<|bK O O (cN (by omega)) (dQ O O) ?_;refine gmv O O O<|aC O O O<|aC O O O<|bF O O (dQ O O) ?_;refine kpt O O<|aB<|aE O ?_;refine aA<|rgN<|kas O<|aB<|aI ?_)
        exact ⟨[_],⟨O,trivial⟩,O⟩
      by_cases h2:24<i
      · rw [no (by unfold badI;rw [cN h2,Bool.or_true])]
        (refine aA<|aA<|rgN<|kmv O<|klt O O (cN (by omega))<|aB<|aE O ?_;refine aH ?_;refine aA<|aG<|aA<|rgN<|kmv O<|K.indexArr O O (by omega) hi0 dP ?_;refine kl1 O O hat<|kmv O<|gmv O O O<|bK O O (cL (by omega)) (dQ O O) ?_;refine gmv O O O<|gmv O O O<|aS O O (cN (by omega)) (dQ O O) ?_;refine bN O O (dQ O O) ?_;refine kpt O O<|aB<|aE O ?_;refine aA<|rgN<|kas O<|aB<|aI ?_)
        exact ⟨[_],⟨O,trivial⟩,O⟩
      (refine aA<|aA<|rgN<|kmv O<|klt O O (cN (by omega))<|aB<|aE O ?_;refine aH ?_;refine aA<|aG<|aA<|rgN<|kmv O<|K.indexArr O O (by omega) hi0 dP ?_;refine kl1 O O hat<|kmv O<|gmv O O O<|bK O O (cL (by omega)) (dQ O O) ?_;refine gmv O O O<|gmv O O O<|aS O O (cL (by omega)) (dQ O O) ?_;refine bN O O (dQ O O) ?_;refine kpt O O<|aB<|aF O ?_;refine aH ?_;refine rgN<|kmv O<|kad O O (cF (by omega))<|kas O<|aB ?_)
      exact ⟨_,⟨[(3,Lp 3),(4,Ln .i64 (i+1:Nat))],[blB 3 a.testBit],X⟩,by omega,Le.of (by exact ⟨rfl,rfl,trivial⟩) (by exact ⟨rfl,trivial⟩) (by exact rfl) (by exact rfl) (by repeat' (first|refine bR ?_ ?_|rfl|exact bT|exact bS|exact bU rfl)),i+1,by omega,rfl,next (by unfold badI;rw [cL h1,cL h2,Bool.or_false,Bool.and_false]),rfl⟩
  · have e:i=32:=by omega
    subst e
    rw [show isB a=true by
      unfold isB
      rw [List.all_eq_true]
      intro j hj
      rw [hpre j (List.mem_range.1 hj)]
      rfl]
    (refine aA<|aA<|rgN<|kmv O<|klt O O (r:=false) O<|aB<|aF O ?_;refine aJ<|aA<|rgN<|kas O<|aB<|aI ?_)
    exact ⟨[_],⟨O,trivial⟩,O⟩
theorem rIds_spec (a:Nat) (ha:a<4294967296):MSpec Tryz.prog X 42 [Ln .u32 (a:Nat)] [] (.sv (.one (.slc 1000001 0 (idsL a).length))) [nuB 1000001 (idsL a)]:=by
  have hB:=rBits_spec X a ha
  refine cE Tryz.func42 rfl (by kernel_rfl) rfl rfl (by exact (by repeat' (first|refine bR ?_ ?_|rfl|exact bT|exact bS|exact bU rfl))) rfl rfl ?_
  intro C
  have hrl:∀ l:List Int,((nuV l).map CV.val).length=l.length*1:=fun l=>by unfold nuV;rw [cV,cV,Nat.mul_one]
  refine LWP.ends ?_
  (refine aA<|rgN<|kas O<|aB<|aA<|rgN<|kmv O<|kca O O (hB)<|aP O dP ?_;refine aM O O O O O O dP ?_;refine aB<|aA<|rgN<|aZ (zs:=[]) (sz:=1) (e:=3) (by kernel_rfl) O O O O O O dP<|kas O<|aB<|aA<|aA<|rgN<|kas O<|aB<|aG ?_)
  refine cH (fun m σ=>∃ (i:Nat) (r:Bool),i≤24∧m=24-i∧σ=⟨[(3,Lp 3),(4,.sv (.one (.slc 500 0 (idsTo a i).length))),(5,Ln .i64 ((i+1:Nat):Int))],[blB 3 a.testBit,nuB' 500 (idsTo a i) r],X⟩) 24
    ⟨⟨[(3,Lp 3),(4,.sv (.one (.slc 500 0 (idsTo a 0).length))),(5,Ln .i64 ((0+1:Nat):Int))],[blB 3 a.testBit,nuB' 500 (idsTo a 0) false],X⟩,Le.ofR [(500,8)] (by exact ⟨rfl,rfl,rfl,trivial⟩) (by repeat' (first|exact trivial|refine cO ⟨_,rfl,?_⟩ ?_|refine cO ⟨_,rfl⟩ ?_|rfl|exact bV _ _ _ _|exact bW _ _ _ _|exact bX rfl)) (by exact rfl) (by exact rfl) (by repeat' (first|refine bR ?_ ?_|rfl|exact bT|exact bS|exact bU rfl)) (by exact rfl) (by exact rfl),0,false,by omega,rfl,rfl⟩ ?_
  rintro m σ ⟨i,r,hi,rfl,rfl⟩
  have hlen:=idsTo_len a i
  by_cases hlt:i<24
  · have hi0:0+Int.toNat (((i+1:Nat):Int))*1=i+1:=by simp
    have hat:=bl_at (f:=a.testBit) (i:=i+1) (by omega)
    have hsn:=idsTo_succ a i
    have hle:((i+1:Nat):Int)≤24:=by omega
    have hin:0≤((i+1:Nat):Int)∧((i+1:Nat):Int)<(32:Nat):=by omega
    cases hb:a.testBit (i+1) with
    | false =>
      rw [hb] at hat
      rw [hb,if_neg (by decide),dH] at hsn
      (refine aA<|aA<|rgN<|kmv O<|K.leq O O (cN hle) dP<|aB<|aE O ?_;refine aH ?_;refine aA<|aG<|aA<|rgN<|kmv O<|K.indexArr O O hin hi0 dP ?_;refine kl1 O O hat<|aB<|aF O ?_;refine aH ?_;refine rgN<|kmv O<|kad O O (cF (by omega))<|kas O<|aB ?_)
      exact ⟨_,⟨[(3,Lp 3),(4,.sv (.one (.slc 500 0 (idsTo a i).length))),(5,Ln .i64 ((i+1+1:Nat):Int))],[blB 3 a.testBit,nuB' 500 (idsTo a i) r],X⟩,by omega,Le.of (by exact ⟨rfl,rfl,rfl,trivial⟩) (by exact ⟨rfl,rfl,trivial⟩) (by exact rfl) (by exact rfl) (by repeat' (first|refine bR ?_ ?_|rfl|exact bT|exact bS|exact bU rfl)),i+1,r,by omega,rfl,by rw [hsn]⟩
    | true =>
      rw [hb] at hat
      rw [hb,if_pos rfl] at hsn
      generalize idsTo a i=l at *
      have hnc:(nuV l).map CV.val++[.val (.int .i64 ((i+1:Nat):Int))]=(nuV (l++[((i+1:Nat):Int)])).map CV.val:=by unfold nuV;rw [dF,dF];rfl
      have hnl:l.length+1=(l++[((i+1:Nat):Int)]).length:=by rw [cU];rfl
      (refine aA<|aA<|rgN<|kmv O<|K.leq O O (cN hle) dP<|aB<|aE O ?_;refine aH ?_;refine aA<|aG<|aA<|rgN<|kmv O<|K.indexArr O O hin hi0 dP ?_;refine kl1 O O hat<|aB<|aE O ?_;refine rgN<|kmv O<|kmv O<|aZ (zs:=[.int .i64 0]) (sz:=1) (e:=3) (cs':=[.val (.int .i64 ((i+1:Nat):Int))]) (by kernel_rfl) O O O O O O dP<|bO (by_:=8) (e2:=3) (l2:=[.val (.int .i64 ((i+1:Nat):Int))]) (nl:=(l++[((i+1:Nat):Int)]).length) (nc:=(nuV (l++[((i+1:Nat):Int)])).map .val) O O (hrl l) O O (dL _) O O (by kernel_rfl) (by kernel_rfl) (by omega) (by omega) O hnl hnc dP<|kas O<|aB<|rgN<|kmv O<|kad O O (cF (by omega))<|kas O<|aB ?_)
      exact ⟨_,⟨[(3,Lp 3),(4,.sv (.one (.slc 500 0 (l++[((i+1:Nat):Int)]).length))),(5,Ln .i64 ((i+1+1:Nat):Int))],[blB 3 a.testBit,nuB' 500 (l++[((i+1:Nat):Int)]) true],X⟩,by omega,Le.ofR [(500,19)] (by exact ⟨rfl,rfl,rfl,trivial⟩) (by repeat' (first|exact trivial|refine cO ⟨_,rfl,?_⟩ ?_|refine cO ⟨_,rfl⟩ ?_|rfl|exact bV _ _ _ _|exact bW _ _ _ _|exact bX rfl)) (by exact rfl) (by exact rfl) (by repeat' (first|refine bR ?_ ?_|rfl|exact bT|exact bS|exact bU rfl)) (by exact rfl) (by exact rfl),i+1,true,by omega,rfl,by rw [hsn]⟩
  · have e:i=24:=by omega
    subst e
    rw [show idsTo a 24=idsL a from rfl]
    (refine aA<|aA<|rgN<|kmv O<|K.leq O O (r:=false) O dP<|aB<|aF O ?_;refine aJ<|aA<|rgN<|kmv O<|kas O<|aB<|aI ?_)
    refine cA (σ':=⟨[(2,.sv (.one (.slc 500 0 (idsL a).length)))],[(500,some ⟨3,(nuV (idsL a)).map .val,r⟩)],X⟩) (Le.ofR [(500,500)] (by exact ⟨rfl,trivial⟩) (by repeat' (first|exact trivial|refine cO ⟨_,rfl,?_⟩ ?_|refine cO ⟨_,rfl⟩ ?_|rfl|exact bV _ _ _ _|exact bW _ _ _ _|exact bX rfl)) (by exact rfl) (by exact rfl) (by repeat' (first|refine bR ?_ ?_|rfl|exact bT|exact bS|exact bU rfl)) (by exact rfl) (by exact rfl)) ?_
    refine cA Le.loose (bZ ?_)
    exact ⟨[(1000001,500)],⟨[_],⟨rfl,trivial⟩,rfl⟩,(by repeat' (first|exact trivial|refine cO ⟨_,rfl,?_⟩ ?_|refine cO ⟨_,rfl⟩ ?_|rfl|exact bV _ _ _ _|exact bW _ _ _ _|exact bX rfl)),rfl,rfl⟩
end Go.Proofs.YtjifibloagkeeaaGreat
end
section
namespace Go.Proofs.YtjifibloagkeeaaGreat
open Go Go.Lg Go.Lg.Fld Go.Lg.Sg
set_option maxRecDepth 100000
structure Rw where
  e:Nat
  p:List Pt
structure Tb where
  sc:Sc
  set:Nat
  most:Nat
  kept:Nat
  l:List Rw
def hasC (cs:List Cp) (id:Int):Bool:=cs.any fun c=>c.id==id
def goodT (s:Sc) (set:Nat) (most:Int):Bool:=decide (chkE s=0)&&isB set&&decide (1≤most)&&decide (most≤256)&&(idsL set).all (hasC s.cs)
def roomT (t:Tb):Nat:=t.most-t.l.length-t.kept
def hitsP (l:List Pt) (id:Int):List Pt:=l.filter fun p=>p.comp==id
def justP (ids:List Int) (l:List Pt):Bool:=decide (l.length=ids.length)&&ids.all fun id=>decide ((hitsP l id).length=1)
def sortP (ids:List Int) (l:List Pt):List Pt:=(ids.map (hitsP l)).flatten
def addE (t:Tb) (e:Nat) (l:List Pt):Int:=
  if e=0 then 1 else if justP (idsL t.set) l=true then (if partsE t.sc.cs l=0 then (if roomT t=0 then 5 else 0) else partsE t.sc.cs l) else 4
def addT (t:Tb) (e:Nat) (l:List Pt):Tb:={ t with l:=t.l++[⟨e,sortP (idsL t.set) l⟩] }
def dropL {α:Type} (l:List α) (i:Nat):List α:=match l[l.length-1]? with|some x=>(l.set i x).take (l.length-1)|none=>l
def dropT (t:Tb) (i:Nat):Tb:={ t with l:=dropL t.l i }
def placeT (set:Nat) (comp:Int):Option Nat:=(idsL set).findIdx? fun x=>x==comp
structure RwOk (cs:List Cp) (set:Nat) (r:Rw):Prop where
  e:1≤r.e∧r.e<18446744073709551616
  ids:r.p.map Pt.comp=idsL set
  fit:∀ p∈r.p,fitErr (fsAt cs p.comp) p.val=0
structure TbOk (t:Tb):Prop where
  sc:chkE t.sc=0
  set:t.set<4294967296∧isB t.set=true
  has:∀ id∈idsL t.set,hasC t.sc.cs id=true
  most:1≤t.most∧t.most≤256
  room:t.l.length+t.kept≤t.most
  rows:∀ r∈t.l,RwOk t.sc.cs t.set r
end Go.Proofs.YtjifibloagkeeaaGreat
end
section
namespace Go.Proofs.YtjifibloagkeeaaGreat
open Go Go.Lg Go.Lg.Fld Go.Lg.Sg
set_option maxRecDepth 100000
theorem hits_one {l:List Pt} {id:Int} (h:(hitsP l id).length=1):∃ p,hitsP l id=[p]∧p∈l∧p.comp=id:=by
  obtain ⟨p,hp⟩:=List.length_eq_one_iff.1 h
  have hm:p∈hitsP l id:=by rw [hp];exact List.mem_singleton.2 rfl
  unfold hitsP at hm
  rw [List.mem_filter,beq_iff_eq] at hm
  exact ⟨p,hp,hm.1,hm.2⟩
theorem sort_comps {l:List Pt}:∀ {ids:List Int},(∀ id∈ids,(hitsP l id).length=1)→(sortP ids l).map Pt.comp=ids
  | [],_=>rfl
  | id::ids,h=>by
    obtain ⟨p,hp,_,hc⟩:=hits_one (h id (List.mem_cons_self ..))
    have ih:=sort_comps (l:=l) (ids:=ids) fun x hx=>h x (List.mem_cons_of_mem _ hx)
    unfold sortP at ih ⊢
    rw [List.map_cons,List.flatten_cons,dF,ih,hp,List.map_cons,hc];rfl
theorem sort_mem {ids:List Int} {l:List Pt} {p:Pt} (h:p∈sortP ids l):p∈l:=by
  unfold sortP at h
  obtain ⟨x,hx,hp⟩:=List.mem_flatten.1 h
  obtain ⟨id,_,rfl⟩:=List.mem_map.1 hx
  exact (List.mem_filter.1 hp).1
theorem just_iff {ids:List Int} {l:List Pt}:justP ids l=true↔l.length=ids.length∧∀ id∈ids,(hitsP l id).length=1:=by
  unfold justP
  rw [Bool.and_eq_true,decide_eq_true_iff,List.all_eq_true]
  exact and_congr_right fun _=>forall_congr' fun x=>by rw [decide_eq_true_iff]
theorem sort_len {ids:List Int} {l:List Pt} (h:justP ids l=true):(sortP ids l).length=ids.length:=by
  rw [← cV (f:=Pt.comp),sort_comps (just_iff.1 h).2]
theorem parts_zero {cs:List Cp} {ps:List Pt} (h:partsE cs ps=0):∀ p∈ps,partE cs p=0:=fun p hp=>by
  obtain ⟨i,hi,rfl⟩:=List.getElem_of_mem hp
  have h1:=firstE_zero h i (Nat.zero_le _) (by omega)
  rw [ptE_at (cW hi)] at h1
  by_cases c:(ps.take i).any (fun g=>g.comp==ps[i].comp)=true
  · rw [if_pos c] at h1;cases h1
  · rw [if_neg c] at h1;exact h1
theorem part_fits {cs:List Cp} {p:Pt} (h:partE cs p=0):fitErr (fsAt cs p.comp) p.val=0:=by
  obtain ⟨c,hc,hf⟩:=partE_find h
  unfold fsAt;rw [hc];exact hf
theorem ids_le (a:Nat):(idsL a).length≤24:=idsTo_len a 24
theorem TbOk.add {t:Tb} (h:TbOk t) {e:Nat} {l:List Pt} (he:e<18446744073709551616) (ha:addE t e l=0):TbOk (addT t e l)∧justP (idsL t.set) l=true∧partsE t.sc.cs l=0∧e≠0∧roomT t≠0:=by
  unfold addE at ha
  by_cases c1:e=0
  · rw [if_pos c1] at ha;cases ha
  rw [if_neg c1] at ha
  by_cases c2:justP (idsL t.set) l=true
  case neg=>rw [if_neg c2] at ha;cases ha
  rw [if_pos c2] at ha
  by_cases c3:partsE t.sc.cs l=0
  case neg=>rw [if_neg c3] at ha;exact absurd ha c3
  rw [if_pos c3] at ha
  by_cases c4:roomT t=0
  · rw [if_pos c4] at ha;cases ha
  refine ⟨⟨h.sc,h.set,h.has,h.most,?_,fun r hr => ?_⟩,c2,c3,c1,c4⟩
  · have:=h.room
    unfold roomT at c4
    show (t.l++[_]).length+t.kept≤t.most
    rw [cU,cX];omega
  · rcases List.mem_append.1 hr with hr|hr
    · exact h.rows r hr
    · rw [List.mem_singleton.1 hr]
      exact ⟨⟨by show 1≤e;omega,he⟩,sort_comps (just_iff.1 c2).2,fun p hp=>part_fits (parts_zero c3 p (sort_mem hp))⟩
theorem place_at {set:Nat} {comp:Int} {k:Nat} (h:placeT set comp=some k):(idsL set)[k]? = some comp:=by
  unfold placeT at h
  rw [List.findIdx?_eq_some_iff_getElem] at h
  obtain ⟨hk,h1,_⟩:=h
  rw [cW hk,beq_iff_eq.1 h1]
theorem TbOk.new {s:Sc} {set most:Nat} (hs:set<4294967296) (h:goodT s set most=true):TbOk ⟨s,set,most,0,[]⟩:=by
  unfold goodT at h
  simp only [Bool.and_eq_true,decide_eq_true_eq,List.all_eq_true] at h
  obtain ⟨⟨⟨⟨h1,h2⟩,h3⟩,h4⟩,h5⟩:=h
  exact ⟨h1,⟨hs,h2⟩,h5,⟨by show 1≤most;omega,by show most≤256;omega⟩,Nat.zero_le _,fun r hr=>absurd hr (by simp)⟩
end Go.Proofs.YtjifibloagkeeaaGreat
end
section
namespace Go.Proofs.YtjifibloagkeeaaGreat
open Go Go.Lg Go.Lg.Fld
set_option maxRecDepth 100000
theorem reads_rows {X:Nat→Option Obj} {ad:Option Addr} {sz:Nat} {rows:List (List Value)} (hsz:1≤sz) (hl:∀ r∈rows,r.length=sz) (h:Go.Lg.RowsIn X ad sz rows):ReadsX X ad rows.flatten:=⟨fun j u hj=>by
  have hfl:rows.flatten.length=rows.length*sz:=by
    clear h hj
    induction rows with
    | nil=>simp
    | cons r t ih =>
      simp only [List.flatten_cons,cU,dG,ih (fun x hx=>hl x (by simp [hx])),hl r (by simp)]
      rw [Nat.add_mul,Nat.one_mul];omega
  have hjl:=(List.getElem?_eq_some_iff.1 hj).1
  have hi:j/sz<rows.length:=Nat.div_lt_of_lt_mul (by rw [Nat.mul_comm];omega)
  obtain ⟨r,hr⟩:∃ r,rows[j/sz]? = some r:=⟨_,cW hi⟩
  obtain ⟨h1,h2⟩:=flat_row hl (sp:=[]) hr
  rw [dH] at h1 h2
  obtain ⟨blk,off,arr,el,fr,e1,e2,e3,e4⟩:=h _ r hr
  have hq:j%sz<sz:=Nat.mod_lt _ (by omega)
  have hje:j=j/sz*sz+j%sz:=by rw [Nat.mul_comm];exact (Nat.div_add_mod j sz).symm
  refine ⟨blk,off,arr,el,fr,e1,e2,?_⟩
  have h3:=row_cell e4 hq
  have h4:r[j%sz]? = some u:=by
    rw [← h2,List.getElem?_take,if_pos hq,List.getElem?_drop,← hje];exact hj
  rw [h4] at h3
  rw [hje,← Nat.add_assoc];exact h3⟩
end Go.Proofs.YtjifibloagkeeaaGreat
end
section
namespace Go.Proofs.YtjifibloagkeeaaGreat
open Go Go.Lg Go.Lg.Fld
set_option maxRecDepth 100000
structure PartsC (X:Nat→Option Obj) (ad:Option Addr) (ps:List Pt):Prop where
  at_:∀ (i:Nat) (p:Pt),ps[i]? = some p→∃ (blk off:Nat) (arr:Array Value) (el:TypeId) (fr:Nat×Nat) (vad:Option Addr) (vcap:Nat),ad=some ⟨blk,off,none⟩∧X blk=some (.cells arr el fr)∧off+i*2+2≤arr.size ∧
    (arr.toList.drop (off+i*2)).take 2=[.int .i64 p.comp,.slice vad p.val.length vcap]∧NumsIn X vad p.val∧p.val.length≤vcap
  small:∀ p∈ps,-9223372036854775808≤p.comp∧p.comp<9223372036854775808
theorem PartsC.parts {X:Nat→Option Obj} {ad:Option Addr} {ps:List Pt} (h:PartsC X ad ps):PartsIn X ad ps:=⟨fun i p hp=>by
  obtain ⟨blk,off,arr,el,fr,vad,vcap,h1,h2,h3,h4,h5,_⟩:=h.at_ i p hp
  exact ⟨blk,off,arr,el,fr,vad,vcap,h1,h2,h3,h4,h5⟩,h.small⟩
theorem PartsC.mono {X Y:Nat→Option Obj} (hXY:∀ b o,X b=some o→Y b=some o) {ad:Option Addr} {ps:List Pt} (h:PartsC X ad ps):PartsC Y ad ps:=⟨fun i p hp=>by
  obtain ⟨blk,off,arr,el,fr,vad,vcap,h1,h2,h3,h4,h5,h6⟩:=h.at_ i p hp
  exact ⟨blk,off,arr,el,fr,vad,vcap,h1,hXY _ _ h2,h3,h4,⟨h5.rows.mono hXY,h5.in2⟩,h6⟩,h.small⟩
theorem PartsC.get {X:Nat→Option Obj} {ad:Option Addr} {ps:List Pt} (h:PartsC X ad ps) {i:Nat} {p:Pt} (hc:ps[i]? = some p):∃ (blk off:Nat) (arr:Array Value) (el:TypeId) (fr:Nat×Nat) (vad:Option Addr) (vcap:Nat),ad=some ⟨blk,off,none⟩∧X blk=some (.cells arr el fr)∧off+i*2+2≤arr.size ∧
    ((arr.toList.drop (off+i*2)).take 2).map CV.val=[.val (.int .i64 p.comp),.val (.slice vad p.val.length vcap)]∧arr[off+i*2]? = some (.int .i64 p.comp)∧arr[off+i*2+1]? = some (.slice vad p.val.length vcap)∧NumsIn X vad p.val∧p.val.length≤vcap:=by
  obtain ⟨blk,off,arr,el,fr,vad,vcap,h1,h2,h3,h4,h5,h6⟩:=h.at_ i p hc
  obtain ⟨g1,g2⟩:=two_at h4
  exact ⟨blk,off,arr,el,fr,vad,vcap,h1,h2,h3,by rw [h4];rfl,g1,g2,h5,h6⟩
structure PartsH (H:Nat→Option Obj) (ws:List Value) (ps:List Pt):Prop where
  len:ws.length=ps.length
  at_:∀ (i:Nat) (w:Value) (p:Pt),ws[i]? = some w→ps[i]? = some p→∃ (vad:Option Addr) (vcap:Nat),w = .slice vad p.val.length vcap∧NumsIn H vad p.val
section
variable {n:Nat} {C:Ctx} {X:Nat→Option Obj} {s:List (Nat×LV)} {bx:List (Nat×Option Box)} {k:Nat}
end
end Go.Proofs.YtjifibloagkeeaaGreat
end
section
namespace Go.Proofs.YtjifibloagkeeaaGreat
open Go Go.Lg Go.Lg.Fld Go.Lg.Sg
set_option maxRecDepth 100000
def tbV (r:Rw) (w:Value):List Value:=[.int .u64 (r.e:Nat),w]
def tbZ (rs:List Rw) (ws:List Value):List Value:=(List.zipWith tbV rs ws).flatten
theorem flat_lenN {α:Type} {n:Nat}:∀ {l:List (List α)},(∀ x∈l,x.length=n)→l.flatten.length=l.length*n
  | [],_=>by simp
  | x::l,h=>by
    rw [List.flatten_cons,cU,h x (List.mem_cons_self ..),flat_lenN fun y hy=>h y (List.mem_cons_of_mem _ hy),dG,Nat.succ_mul,Nat.add_comm]
structure TbsH (H:Nat→Option Obj) (ws:List Value) (rs:List Rw):Prop where
  len:ws.length=rs.length
  at_:∀ (i:Nat) (w:Value) (r:Rw),ws[i]? = some w→rs[i]? = some r→∃ (pad:Option Addr) (pcap:Nat),w = .slice pad r.p.length pcap∧PartsIn H pad r.p
structure TbsIn (X:Nat→Option Obj) (ad:Option Addr) (rs:List Rw):Prop where
  ex:∃ ws,TbsH X ws rs∧Go.Lg.RowsIn X ad 2 (List.zipWith tbV rs ws)
theorem rowsIn_none {X:Nat→Option Obj} {sz:Nat} {rows:List (List Value)} (h:Go.Lg.RowsIn X none sz rows):rows=[]:=by
  cases rows with
  | nil=>rfl
  | cons r l =>
    obtain ⟨_,_,_,_,_,h1,_⟩:=h 0 r rfl
    cases h1
section
variable {n:Nat} {C:Ctx} {X:Nat→Option Obj} {s:List (Nat×LV)} {bx:List (Nat×Option Box)} {k:Nat}
end
end Go.Proofs.YtjifibloagkeeaaGreat
end
section
namespace Go.Proofs.YtjifibloagkeeaaGreat
open Go Go.Lg Go.Lg.Fld Go.Lg.Sg
set_option maxRecDepth 100000
variable (X:Nat→Option Obj)
abbrev Vn (ad:Option Addr) (n cap:Nat):LV:=.sv (.one (.val (.slice ad n cap)))
end Go.Proofs.YtjifibloagkeeaaGreat
end
section
namespace Go.Proofs.YtjifibloagkeeaaGreat
open Go Go.Lg Go.Lg.Fld Go.Lg.Sg
set_option maxRecDepth 100000
theorem findI_lt (cs:List Cp) (id:Int):decide (findI (fun c=>c.id==id) cs<0) = !hasC cs id:=by
  unfold hasC
  rcases find_cases cs id with ⟨i,c,hc,he,hpre⟩|h
  · have h1:cs.any (fun c=>c.id==id)=true:=List.any_eq_true.2 ⟨c,dB hc,cS he⟩
    rw [findI_some hpre hc (cS he),cL (by omega),h1];rfl
  · have h1:cs.any (fun c=>c.id==id)=false:=List.any_eq_false.2 fun x hx=>by
      obtain ⟨j,hj⟩:=List.mem_iff_getElem?.1 hx
      rw [h j x hj];decide
    rw [findI_none h,h1];rfl
theorem all_take {α:Type} {p:α→Bool} {l:List α} (h:∀ x∈l.take l.length,p x=true):l.all p=true:=by
  rw [dD] at h
  exact List.all_eq_true.2 h
structure TbIn (X:Nat→Option Obj) (t:Tb) (ad iad lad:Option Addr):Prop where
  cs:CompsIn X ad t.sc.cs
  ids:NuIn X iad (idsL t.set)
  l:TbsIn X lad t.l
  small:t.sc.cs.length≤30∧∀ c∈t.sc.cs,c.fs.length≤12
variable (X:Nat→Option Obj)
end Go.Proofs.YtjifibloagkeeaaGreat
end
section
namespace Go.Lg.Col
open Go Go.Lg Go.RowKit
abbrev Ext (X Y:Nat→Option Obj):Prop := ∀ b o,X b=some o→Y b=some o
theorem one_in {Y:Nat→Option Obj} {blk:Nat} {arr:Array Value} {el:TypeId} {fr:Nat×Nat} {vs:List Value} (hY:Y blk=some (.cells arr el fr)) (hsp:∃ sp,arr.toList=vs++sp):OneIn Y (some ⟨blk,0,none⟩) vs:=fun i v hi=>by
  obtain ⟨sp,e⟩:=hsp
  refine ⟨blk,0,arr,el,fr,O,hY,?_⟩
  rw [← Array.getElem?_toList,e,Nat.zero_add,dO (List.getElem?_eq_some_iff.1 hi).1]
  exact hi
theorem snoc {α:Type} {l:List α} {i:Nat} {f:α} (h:l[i]? = some f):l.take (i+1)=l.take i++[f]:=by
  obtain ⟨hi,e⟩:=List.getElem?_eq_some_iff.1 h
  rw [List.take_add_one,h];rfl
def swapL (L:List (List UInt8)) (i:Nat):List (List UInt8):=match L[L.length-1]? with|some l=>(L.set i l).take (L.length-1)|none=>L
end Go.Lg.Col
namespace Go.Proofs.YtjifibloagkeeaaGreat
open Go Go.Lg Go.Lg.Col
set_option maxRecDepth 100000
variable (X:Nat→Option Obj)
end Go.Proofs.YtjifibloagkeeaaGreat
end
section
namespace Go.Lg.Col
open Go Go.Lg
def byV (l:List UInt8):List Value:=l.map fun c=>.int .u8 (c.toNat:Nat)
theorem byV_bc (l:List UInt8):(byV l).map CV.val=l.map bc:=by unfold byV;rw [List.map_map];rfl
theorem byV_len (l:List UInt8):(byV l).length=l.length:=cV _
theorem mid_of {α:Type} {l:List α} {i:Nat} {x:α} (h:l[i]? = some x):l=l.take i++x::l.drop (i+1):=by
  obtain ⟨hi,e⟩:=List.getElem?_eq_some_iff.1 h
  rw [← e,List.getElem_cons_drop,List.take_append_drop]
theorem splice_len {α:Type} {b:List α} {p:Nat} {r:List α} (h:p+r.length≤b.length):(splice b p r).length=b.length:=by
  unfold splice;simp only [cU,cY,cZ];omega
theorem splice_at {α:Type} {b:List α} {p:Nat} {r:List α} (h:p+r.length≤b.length):((splice b p r).drop p).take r.length=r:=by
  unfold splice
  have hp:(b.take p).length=p:=by rw [cY];omega
  rw [dK]
  conv=>lhs;arg 2;arg 1;rw [← hp]
  rw [List.drop_left,List.take_left]
theorem splice_out {α:Type} {b:List α} {p k:Nat} {r:List α} (h:p+r.length≤b.length) (hk:k<p∨p+r.length≤k):(splice b p r)[k]? = b[k]? := by
  unfold splice
  have hp:(b.take p).length=p:=by rw [cY];omega
  rcases hk with hk|hk
  · rw [dK,dO (by omega),List.getElem?_take,if_pos hk]
  · rw [List.getElem?_append_right (by rw [cU];omega),cU,hp,List.getElem?_drop]
    congr 1;omega
def rowOf (B:List (List UInt8)) (z i:Nat):List UInt8:=((B.getD (i/16) []).drop (i%16*z)).take z
theorem place_fit (i z:Nat):i%16*z+z≤16*z:=by
  have h:(i%16+1)*z≤16*z:=Nat.mul_le_mul_right z (by omega)
  rw [Nat.succ_mul] at h;exact h
theorem getD_at {α:Type} {B:List α} {p:Nat} {d:α} (h:p<B.length):B[p]? = some (B.getD p d):=by
  rw [List.getD_eq_getElem?_getD,cW h];rfl
theorem wide_at {B:List (List UInt8)} {w p:Nat} (hw:∀ b∈B,b.length=w) (h:p<B.length):(B.getD p []).length=w:=hw _ (dB (getD_at h))
def wr (B:List (List UInt8)) (z i:Nat) (row:List UInt8):List (List UInt8):=B.set (i/16) (splice (B.getD (i/16) []) (i%16*z) row)
theorem wr_len (B:List (List UInt8)) (z i:Nat) (row:List UInt8):(wr B z i row).length=B.length:=List.length_set ..
theorem wr_wide {B:List (List UInt8)} {z i:Nat} {row:List UInt8} (hw:∀ b∈B,b.length=16*z) (hi:i/16<B.length) (hr:row.length=z):∀ b∈wr B z i row,b.length=16*z:=fun b hb=>by
  rcases List.mem_or_eq_of_mem_set hb with hb|rfl
  · exact hw b hb
  · have:=place_fit i z
    rw [splice_len (by rw [wide_at hw hi,hr];omega),wide_at hw hi]
theorem wr_same {B:List (List UInt8)} {z i:Nat} {row:List UInt8} (hw:∀ b∈B,b.length=16*z) (hi:i/16<B.length) (hr:row.length=z):rowOf (wr B z i row) z i=row:=by
  unfold rowOf wr
  have:=place_fit i z
  rw [List.getD_eq_getElem?_getD,List.getElem?_set_self hi,Option.getD_some]
  conv=>lhs;arg 1;rw [← hr]
  rw [hr]
  have h:=splice_at (b:=B.getD (i/16) []) (p:=i%16*z) (r:=row) (by rw [wide_at hw hi,hr];omega)
  rw [hr] at h;exact h
theorem wr_other {B:List (List UInt8)} {z i j:Nat} {row:List UInt8} (hw:∀ b∈B,b.length=16*z) (hi:i/16<B.length) (hr:row.length=z) (hj:j≠i):rowOf (wr B z i row) z j=rowOf B z j:=by
  unfold rowOf wr
  have hf:=place_fit i z
  by_cases e:i/16=j/16
  · rw [← e,List.getD_eq_getElem?_getD,List.getElem?_set_self hi,Option.getD_some]
    apply List.ext_getElem?
    intro t
    rw [List.getElem?_take,List.getElem?_take]
    by_cases ht:t<z
    · rw [if_pos ht,if_pos ht,List.getElem?_drop,List.getElem?_drop]
      refine splice_out (by rw [wide_at hw hi,hr];omega) ?_
      rw [hr]
      have hne:j%16≠i%16:=fun h=>hj (by omega)
      rcases Nat.lt_or_gt_of_ne hne with h|h
      · left
        have h2:(j%16+1)*z≤i%16*z:=Nat.mul_le_mul_right z h
        rw [Nat.succ_mul] at h2;omega
      · right
        have h2:(i%16+1)*z≤j%16*z:=Nat.mul_le_mul_right z h
        rw [Nat.succ_mul] at h2;omega
    · rw [if_neg ht,if_neg ht]
  · rw [List.getD_eq_getElem?_getD,List.getElem?_set_ne e,← List.getD_eq_getElem?_getD]
structure Packed (z q:Nat) (L B:List (List UInt8)):Prop where
  nb:B.length=(L.length+15)/16
  wide:∀ b∈B,b.length=16*z
  row:∀ (i:Nat) (l:List UInt8),L[i]? = some l→rowOf B z i=l
  rows:∀ r∈L,r.length=z
  fit:L.length≤q
  small:z≤256∧q≤65536
section
variable {z q:Nat} {L B:List (List UInt8)}
theorem Packed.nil (h:z≤256∧q≤65536):Packed z q [] []:=⟨rfl,fun b hb=>(by cases hb),fun i l hl=>(by cases hl),fun b hb=>(by cases hb),Nat.zero_le _,h⟩
theorem Packed.len_at (h:Packed z q L B) {p:Nat} (hp:p<B.length):(B.getD p []).length=16*z:=wide_at h.wide hp
theorem Packed.push (h:Packed z q L B) {row:List UInt8} (hr:row.length=z) (hf:L.length<q) (hn:L.length%16≠0):Packed z q (L++[row]) (wr B z L.length row):=by
  have hp:L.length/16<B.length:=by rw [h.nb];omega
  refine ⟨by rw [wr_len,cU,h.nb];simp only [cX];omega,wr_wide h.wide hp hr,fun j l hl => ?_,fun r hr' => ?_,by rw [cU];exact hf,h.small⟩
  · by_cases e:j=L.length
    · subst e
      rw [List.getElem?_append_right (dL _),Nat.sub_self] at hl
      simp only [List.getElem?_cons_zero,Option.some.injEq] at hl
      rw [wr_same h.wide hp hr,hl]
    · have h1:=(List.getElem?_eq_some_iff.1 hl).1
      rw [cU] at h1
      simp only [cX] at h1
      rw [dO (by omega)] at hl
      rw [wr_other h.wide hp hr e];exact h.row j l hl
  · rcases List.mem_append.1 hr' with hr'|hr'
    · exact h.rows r hr'
    · rw [List.mem_singleton.1 hr'];exact hr
theorem Packed.push_new (h:Packed z q L B) {row:List UInt8} (hr:row.length=z) (hf:L.length<q) (hn:L.length%16=0):Packed z q (L++[row]) (wr (B++[List.replicate (16*z) 0]) z L.length row):=by
  have hb:B.length=L.length/16:=by rw [h.nb];omega
  have hw:∀ b∈B++[List.replicate (16*z) (0:UInt8)],b.length=16*z:=fun b hb=>by
    rcases List.mem_append.1 hb with hb|hb
    · exact h.wide b hb
    · rw [List.mem_singleton.1 hb,dC]
  have hp:L.length/16<(B++[List.replicate (16*z) (0:UInt8)]).length:=by rw [cU];simp only [cX];omega
  refine ⟨by rw [wr_len,cU,cU,hb];simp only [cX];omega,wr_wide hw hp hr,fun j l hl => ?_,fun r hr' => ?_,by rw [cU];exact hf,h.small⟩
  · by_cases e:j=L.length
    · subst e
      rw [List.getElem?_append_right (dL _),Nat.sub_self] at hl
      simp only [List.getElem?_cons_zero,Option.some.injEq] at hl
      rw [wr_same hw hp hr,hl]
    · have h1:=(List.getElem?_eq_some_iff.1 hl).1
      rw [cU] at h1
      simp only [cX] at h1
      rw [dO (by omega)] at hl
      rw [wr_other hw hp hr e,← h.row j l hl]
      unfold rowOf
      rw [List.getD_eq_getElem?_getD,dO (by omega),← List.getD_eq_getElem?_getD]
  · rcases List.mem_append.1 hr' with hr'|hr'
    · exact h.rows r hr'
    · rw [List.mem_singleton.1 hr'];exact hr
end
structure ColIn (H:Nat→Option Obj) (st:TypeId) (z q:Nat) (L B:List (List UInt8)) (v:Value) (cells:List Value):Prop where
  grid:Grid H st 5 v cells (B.map byV)
  pk:Packed z q L B
section
variable {H:Nat→Option Obj} {st:TypeId} {z q:Nat} {L B:List (List UInt8)} {v:Value} {cells:List Value}
theorem ColIn.len (h:ColIn H st z q L B v cells):cells.length=B.length:=by rw [h.grid.len,cV]
theorem ColIn.slice (h:ColIn H st z q L B v cells):∃ ad cap,v = .slice ad B.length cap:=by
  rcases h.grid with ⟨db,hd,G⟩|⟨rfl,rfl,hb⟩
  · obtain ⟨len,cap,arr,fr,rfl,h2,_⟩:=hd
    rw [h.len] at h2
    have e:len=B.length:=by omega
    rw [e];exact ⟨_,_,rfl⟩
  · have:B.length=0:=by rw [← cV (f:=byV),hb];rfl
    rw [this];exact ⟨none,0,rfl⟩
theorem ColIn.place (h:ColIn H st z q L B v cells) {p:Nat} (hp:p<B.length):∃ (db cap:Nat) (arr:Array Value) (fr:Nat×Nat) (b cap2:Nat) (arr2:Array Value) (fr2:Nat×Nat) (sp:List Value),
    v = .slice (some ⟨db,0,none⟩) B.length cap∧H db=some (.cells arr st fr)∧arr[p]? = some (.slice (some ⟨b,0,none⟩) (16*z) cap2)∧16*z≤cap2∧H b=some (.cells arr2 5 fr2)∧arr2.toList=byV (B.getD p [])++sp:=by
  obtain ⟨db,hd,G⟩:=h.grid.real (fun e=>by
    have:B.length=0:=by rw [← cV (f:=byV),e];rfl
    omega)
  obtain ⟨len,cap,arr,fr,rfl,h2,h3,h4,h5,spd,h6⟩:=hd
  rw [h.len] at h2
  have e:len=B.length:=by omega
  subst e
  obtain ⟨c,hc⟩:∃ c,cells[p]? = some c:=⟨_,cW (by rw [h.len];exact hp)⟩
  obtain ⟨b,hb⟩:=G.at_ p c (byV (B.getD p [])) (by simp) hc (by rw [dJ,getD_at (d:=[]) hp];rfl)
  obtain ⟨len2,cap2,arr2,fr2,rfl,g2,g3,g4,g5,sp,g6⟩:=hb
  rw [byV_len,h.pk.len_at hp] at g2
  have e:len2=16*z:=by omega
  subst e
  refine ⟨db,cap,arr,fr,b,cap2,arr2,fr2,sp,O,h5,?_,g3,(cutM_some g5).2,g6⟩
  rw [← Array.getElem?_toList,h6,dO (List.getElem?_eq_some_iff.1 hc).1];exact hc
end
end Go.Lg.Col
namespace Go.Proofs.YtjifibloagkeeaaGreat
open Go Go.Lg Go.Lg.Col
set_option maxRecDepth 100000
def stV (z q n:Nat) (v:Value):List Value:=[.int .i64 (z:Nat),.int .i64 (q:Nat),.int .i64 (n:Nat),v]
def colR (z q:Nat) (L:List (List UInt8)):Rsc:=⟨fun ρ H=>ρ.2=4∧∃ (fr:Nat×Nat) (v:Value) (cells:List Value) (B:List (List UInt8)),
  H ρ.1=some (.cells (stV z q L.length v).toArray 152 fr)∧ColIn (cutM H ρ.1) 142 z q L B v cells⟩
abbrev cB (k size cap:Nat) (L:List (List UInt8)):Nat×Option Box:=(k,some ⟨0,[],.res (colR size cap L)⟩)
theorem root_ok (z q:Nat) (L:List (List UInt8)):∀ ρ H,(colR z q L).holds ρ H→∃ vals el fr,H ρ.1=some (.cells vals el fr)∧vals.size=ρ.2:=fun ρ H h=>by
  obtain ⟨h1,fr,v,cells,B,h2,_⟩:=h
  exact ⟨_,_,fr,h2,by rw [h1];rfl⟩
abbrev sB (k z q n:Nat) (v:CV):Nat×Option Box:=(k,some ⟨152,[.val (.int .i64 (z:Nat)),.val (.int .i64 (q:Nat)),.val (.int .i64 (n:Nat)),v],false⟩)
abbrev oBr (z q m p:Nat) (cells:List Value) (ch:List UInt8) (r:Bool):List (Nat×Option Box):=
  [sB 1000000 z q m (.slc 900001 0 cells.length),(900001,some ⟨142,(cells.take p).map .val ++ .slc 900002 0 ch.length::(cells.drop (p+1)).map .val,true⟩),(900002,some ⟨5,ch.map bc,r⟩)]
abbrev oB (z q m p:Nat) (cells:List Value) (ch:List UInt8):List (Nat×Option Box):=oBr z q m p cells ch true
section
variable {P:Program} {n:Nat} {C:Ctx} {c:Code} {Q:Exit→St→Prop} {X:Nat→Option Obj} {s:List (Nat×LV)} {bx:List (Nat×Option Box)} {k:Nat}
theorem col_open {z q:Nat} {L:List (List UInt8)}
    (h:∀ (H:Nat→Option Obj) (v:Value) (cells:List Value) (B:List (List UInt8)),OwnedM C X H→ColIn H 142 z q L B v cells→LWP P n C c Q ⟨s,sB k z q L.length (.val v)::bx,joinM X H⟩):
    LWP P n C c Q ⟨s,cB k z q L::bx,X⟩:=by
  refine LWP.openRes (root_ok z q L) fun ρ H vals el fr hR hv hO => ?_
  obtain ⟨h1,fr',v,cells,B,h2,h3⟩:=hR
  rw [hv] at h2
  simp only [Option.some.injEq,Obj.cells.injEq] at h2
  obtain ⟨rfl,rfl,rfl⟩:=h2
  exact h (cutM H ρ.1) v cells B (hO.cut _) h3
theorem col_shut {Mid:St→Prop} {z q:Nat} {L B:List (List UInt8)} {H:Nat→Option Obj} {v:Value} {cells:List Value} (hO:OwnedM C X H) (hI:ColIn H 142 z q L B v cells)
    (h:Leads n C Mid ⟨s,cB k z q L::bx,X⟩):Leads n C Mid ⟨s,sB k z q L.length (.val v)::bx,joinM X H⟩:=by
  refine Leads.closeRes (vals:=stV z q L.length v) hO (fun ρ fr h1 h2 h3 => ?_) h
  refine ⟨h3,fr,v,cells,B,cK _ _ _,?_⟩
  rw [cut_with h1];exact hI
theorem chunk_open {z q m p:Nat} {L B:List (List UInt8)} {H:Nat→Option Obj} {v:Value} {cells:List Value} (hO:OwnedM C X H) (hI:ColIn H 142 z q L B v cells) (hp:p<B.length)
    (hs2:∀ v,s.all (fun p=>p.2.inUse [sB 1000000 z q m (.val v)])=true) (hs3:∀ nc b,s.all (fun p=>p.2.inUse [(900001,b),sB 1000000 z q m (.slc 900001 0 nc)])=true)
    (h:∀ (H0:Nat→Option Obj),OwnedM C X H0→Cells H0 5 [p] cells (B.map byV)→(∀ (j:Nat) (c:Value),j≠p→cells[j]? = some c→∃ (b cap:Nat) (arr:Array Value) (fr:Nat×Nat) (sp:List Value),c = .slice (some ⟨b,0,none⟩) (16*z) cap∧16*z≤cap∧H0 b=some (.cells arr 5 fr)∧arr.toList=byV (B.getD j [])++sp) →
      LWP P n C c Q ⟨s,oB z q m p cells (B.getD p []),joinM X H0⟩):
    LWP P n C c Q ⟨s,[sB 1000000 z q m (.val v)],joinM X H⟩:=by
  obtain ⟨db,hd,G⟩:=hI.grid.real (fun e=>by
    have:B.length=0:=by rw [← cV (f:=byV),e];rfl
    omega)
  have hcl:cells.length=B.length:=hI.len
  obtain ⟨cell,hcell⟩:∃ c,cells[p]? = some c:=⟨_,cW (by omega)⟩
  obtain ⟨b,hb⟩:=G.at_ _ _ _ (by simp) hcell (by rw [dJ,getD_at (d:=[]) hp];rfl)
  have G2:=G.openAt (p:=p) (by simp) hcell hb.blk
  have hO2:=(hO.cut db).cut b
  refine LWP.openCell (A:=[.val (.int .i64 (z:Nat)),.val (.int .i64 (q:Nat)),.val (.int .i64 (m:Nat))]) (B:=[]) (k:=900001) (sz:=1) (len:=cells.length) hO hd (by omega) (by omega) (hs2 v) O O O O ?_
  have hmid:cells.map CV.val=(cells.take p).map .val ++ .val cell::(cells.drop (p+1)).map .val:=by
    conv=>lhs;rw [mid_of hcell]
    simp
  refine LWP.le (σ':=⟨s,[(900001,some ⟨142,(cells.take p).map .val ++ .val cell::(cells.drop (p+1)).map .val,true⟩),sB 1000000 z q m (.slc 900001 0 cells.length)],joinM X (cutM H db)⟩) ?_ ?_
  · rw [← hmid]
    exact Le.same ⟨fun _=>O,fun j=>look_swap O,O⟩
  refine LWP.openCell (k:=900002) (sz:=1) (len:=(B.getD p []).length) (hO.cut db) hb (by rw [byV_len];omega) (by omega) (hs3 _ _) (by exact (by repeat' (first|refine bR ?_ ?_|rfl|exact bT|exact bS|exact bU O))) O O O ?_
  rw [byV_bc]
  refine LWP.le (σ':=⟨s,oB z q m p cells (B.getD p []),joinM X (cutM (cutM H db) b)⟩) ?_ (h _ hO2 G2 (fun j c hj hc => ?_))
  · exact Le.same ⟨fun _=>rfl,fun j=>look_rot rfl rfl,rfl⟩
  · have hjl:j<B.length:=by rw [← hcl];exact (List.getElem?_eq_some_iff.1 hc).1
    obtain ⟨b',len',cap',arr,fr,rfl,g2,g3,g4,g5,sp,g6⟩:=G2.at_ j c (byV (B.getD j [])) (by simpa using hj) hc (by rw [dJ,getD_at (d:=[]) hjl];rfl)
    rw [byV_len,hI.pk.len_at hjl] at g2
    have e:len'=16*z:=by omega
    subst e
    exact ⟨b',cap',arr,fr,sp,O,g3,g5,g6⟩
theorem chunk_shut {Mid:St→Prop} {r:Bool} {z q m p:Nat} {H0:Nat→Option Obj} {cells:List Value} {ch:List UInt8} {B:List (List UInt8)} (hp:p<cells.length) (hO:OwnedM C X H0) (G:Cells H0 5 [p] cells (B.map byV))
    (hs:s.all (fun p=>p.2.inUse [(900001,none),sB 1000000 z q m (.slc 900001 0 cells.length)])=true) (hs2:s.all (fun p=>p.2.inUse [(1000000,none)])=true)
    (h:∀ (H:Nat→Option Obj) (v:Value) (cells:List Value),OwnedM C X H→Grid H 142 5 v cells ((B.set p ch).map byV)→Leads n C Mid ⟨s,[sB 1000000 z q m (.val v)],joinM X H⟩):Leads n C Mid ⟨s,oBr z q m p cells ch r,joinM X H0⟩:=by
  refine cA (σ':=⟨s,[(900001,some ⟨142,(cells.take p).map .val ++ .slc 900002 0 ch.length::(cells.drop (p+1)).map .val,true⟩),(900002,some ⟨5,(byV ch).map .val,r⟩),sB 1000000 z q m (.slc 900001 0 cells.length)],joinM X H0⟩) ?_ ?_
  · rw [byV_bc]
    exact Le.same ⟨fun _=>O,fun j=>(look_rot O O).symm,O⟩
  refine Leads.closeCell hO (by rw [byV_len];omega) hs bS bS (by exact (by repeat' (first|refine bR ?_ ?_|rfl|exact bT|exact bS|exact bU rfl))) rfl rfl fun b1 o1 v1 h1 _ hO3 hv1 => ?_
  have G3:=G.shutAt hp h1 hv1
  have hset:(cells.take p).map CV.val ++ .val v1::(cells.drop (p+1)).map .val=(cells.set p v1).map .val:=by
    rw [List.set_eq_take_append_cons_drop,if_pos (by omega)];simp
  rw [hset]
  refine cA (σ':=⟨s,[(1000000,some ⟨152,[.val (.int .i64 (z:Nat)),.val (.int .i64 (q:Nat)),.val (.int .i64 (m:Nat))] ++ .slc 900001 0 cells.length::[],false⟩),(900001,some ⟨142,(cells.set p v1).map .val,true⟩)],joinM X (withBlock H0 b1 o1)⟩) ?_ ?_
  · exact Le.same ⟨fun _=>rfl,fun j=>look_swap rfl,rfl⟩
  refine Leads.closeCell hO3 (by rw [List.length_set];omega) hs2 rfl rfl rfl rfl rfl fun d1 o2 v2 h2 _ hO4 hv2 => ?_
  refine h _ v2 (cells.set p v1) hO4 ?_
  rw [List.map_set]
  exact Grid.shut G3 h2 hv2
end
end Go.Proofs.YtjifibloagkeeaaGreat
end
