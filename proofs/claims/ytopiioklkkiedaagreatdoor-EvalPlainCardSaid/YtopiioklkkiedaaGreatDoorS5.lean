/- A piece of a proof over this program: contracts of its functions, and a logic to prove them by. -/
import Derived.Test.YtopiioklkkiedaaGreatDoorS2
import Derived.Test.YtopiioklkkiedaaGreatDoorS3
import Derived.Test.YtopiioklkkiedaaGreatDoorS4
import Derived.Test.YtopiioklkkiedaaGreatDoorRows
import Derived.Lib.ItoaNum
import Derived.Lib.ItoaLen
import Derived.Shelf.Small.Bits
import Derived.Shelf.Strconv.Itoa0
import Derived.Shelf.Strings.Search1
import Derived.Shelf.Bits.Mul64
import Derived.Test.YtopiioklkkiedaaGreatDoorProg
import Derived.Lib.Walk
import Derived.Lib.ItoaMem
import Derived.Lib.AppendIntMem
import Derived.WalkKit
import Derived.BigCall
import Derived.BigGuard
import Derived.Lib.Repeat
import Derived.ChangeKeysEq
section
namespace Go.Lg.Fld
open Go Go.Lg
def nmM (ns:List (List UInt8)):List (Value×Value):=ns.map fun l=>(.string ⟨l.toArray⟩,.agg #[])
theorem nmM_at (ns:List (List UInt8)) (l:List UInt8):At (nmM ns) (.string ⟨l.toArray⟩) (.agg #[]) (.agg #[]):=by
 by_cases h:l∈ns
 ·exact .inl (List.mem_map.2 ⟨l,h,rfl⟩)
 ·refine .inr ⟨fun p hp e => ?_,rfl⟩
  obtain ⟨l',hl',rfl⟩:=List.mem_map.1 hp
  simp only [Value.string.injEq,ByteArray.mk.injEq] at e
  exact h (by rw [show l=l' from (List.toArray_inj e.symm)];exact hl')
theorem nmM_any (ns:List (List UInt8)) (l:List UInt8) (r:Bool) (hr:ns.any (fun m=>m==l)=r):r=true↔∃ p∈nmM ns,p.1 = .string ⟨l.toArray⟩:=by
 subst hr
 rw [List.any_eq_true]
 constructor
 ·rintro ⟨m,hm,he⟩
  rw [beq_iff_eq] at he
  subst he
  exact ⟨_,List.mem_map.2 ⟨m,hm,O⟩,O⟩
 ·rintro ⟨p,hp,e⟩
  obtain ⟨l',hl',rfl⟩:=List.mem_map.1 hp
  simp only [Value.string.injEq,ByteArray.mk.injEq] at e
  exact ⟨l',hl',by rw [beq_iff_eq];exact List.toArray_inj e⟩
theorem nmM_put {ns:List (List UInt8)} {l:List UInt8} (h:ns.any (fun m=>m==l)=false):Put (nmM ns) (.string ⟨l.toArray⟩) (.agg #[]) (nmM (ns++[l])):=by
 refine .inr ⟨fun p hp e => ?_,by unfold nmM;rw [dE];rfl⟩
 obtain ⟨l',hl',rfl⟩:=List.mem_map.1 hp
 simp only [Value.string.injEq,ByteArray.mk.injEq] at e
 rw [List.any_eq_false] at h
 exact h l' hl' (by rw [beq_iff_eq];exact List.toArray_inj e)
end Go.Lg.Fld
namespace Go.Proofs.YtopiioklkkiedaaGreatDoor
open Go Go.Lg Go.Lg.Fld
set_option maxRecDepth 100000
variable (X:Nat→Option Obj)
theorem isLetter_spec (c:UInt8):PSpec Tryz.prog X 132 [Ln .u8 (c.toNat:Nat)] (Lb (letB c)):=by
 refine cC Tryz.func132 rfl (by kernel_rfl) rfl rfl ?_
 intro C
 unfold letB
 by_cases h:97≤c.toNat
 ·rw [cL h,Bool.true_and]
  (refine aA<|rgN<|kas O<|aB<|aA<|rgN<|kmv O<|K.leq O O (cL (by omega)) dO<|kmv O<|gmv O O O<|K.leq O O (r:=decide (c.toNat≤122)) (by rw [decide_eq_decide];omega) (dP O O) ?_;refine kpt O O<|kas O<|aB<|aI ?_)
  exact ⟨[_],⟨O,trivial⟩,O⟩
 ·rw [cK h,Bool.false_and]
  (refine aA<|rgN<|kas O<|aB<|aA<|rgN<|kmv O<|K.leq O O (cK (by omega)) dO<|kmv O<|aC O O O<|aC O O O<|kpf O O<|kas O<|aB ?_;refine aI ?_)
  exact ⟨[_],⟨O,trivial⟩,O⟩
theorem isDigit_spec (c:UInt8):PSpec Tryz.prog X 133 [Ln .u8 (c.toNat:Nat)] (Lb (digB c)):=by
 refine cC Tryz.func133 rfl (by kernel_rfl) rfl rfl ?_
 intro C
 unfold digB
 by_cases h:48≤c.toNat
 ·rw [cL h,Bool.true_and]
  (refine aA<|rgN<|kas O<|aB<|aA<|rgN<|kmv O<|K.leq O O (cL (by omega)) dO<|kmv O<|gmv O O O<|K.leq O O (r:=decide (c.toNat≤57)) (by rw [decide_eq_decide];omega) (dP O O) ?_;refine kpt O O<|kas O<|aB<|aI ?_)
  exact ⟨[_],⟨O,trivial⟩,O⟩
 ·rw [cK h,Bool.false_and]
  (refine aA<|rgN<|kas O<|aB<|aA<|rgN<|kmv O<|K.leq O O (cK (by omega)) dO<|kmv O<|aC O O O<|aC O O O<|kpf O O<|kas O<|aB ?_;refine aI ?_)
  exact ⟨[_],⟨O,trivial⟩,O⟩
theorem nmC_zero (l:List UInt8):nmC l 0=letB (l.getD 0 0):=by unfold nmC;simp
theorem nmC_more {l:List UInt8} {i:Nat} (h:nmC l 0=true):nmC l i=(letB (l.getD i 0)||digB (l.getD i 0)):=by
 unfold nmC
 by_cases e:i=0
 ·subst e
  rw [nmC_zero] at h
  rw [h];simp
 ·simp [e]
theorem pIsName (l:List UInt8) (r:Bool) (hr:nmB l=r):PSpec Tryz.prog X 99 [Ls l] (Lb r):=by
 subst hr
 refine cC Tryz.func99 rfl (by kernel_rfl) rfl rfl ?_
 intro C
 have hlen:(⟨l.toArray⟩:ByteArray).size=l.length:=rfl
 by_cases h1:l.length<1
 ·rw [show nmB l=false by unfold nmB;rw [cK (by omega)];rfl]
  (refine aA<|rgN<|kas O<|aB<|aA<|aA<|rgN<|kmv O<|kln O<|klt O O (cL (by rw [hlen];omega))<|kmv O<|aC O O O<|aC O O O<|aC O O O ?_;refine kpt O O<|kmv O<|aC O O O<|aC O O O<|aC O O O<|aC O O O<|kpt O O<|aB<|aE O ?_;refine aA<|rgN<|kas O<|aB<|aI ?_)
  exact ⟨[_],⟨O,trivial⟩,O⟩
 by_cases h2:12<l.length
 ·rw [show nmB l=false by unfold nmB;rw [cK (show ¬l.length≤12 by omega)];simp]
  (refine aA<|rgN<|kas O<|aB<|aA<|aA<|rgN<|kmv O<|kln O<|klt O O (cK (by rw [hlen];omega))<|kmv O<|gmv O O O<|K.lenStr O (dP O O) ?_;refine aS O O (cL (by rw [hlen];omega)) (dP O O) ?_;refine kpf O O<|kmv O<|aC O O O<|aC O O O<|aC O O O<|aC O O O<|kpt O O<|aB<|aE O ?_;refine aA<|rgN<|kas O<|aB<|aI ?_)
  exact ⟨[_],⟨O,trivial⟩,O⟩
 obtain ⟨c0,hc0⟩:∃ c,l[0]? = some c:=⟨_,cU (by omega)⟩
 have hget0:(⟨l.toArray⟩:ByteArray)[(0:Int).toNat]? = some c0:=str_at hc0
 have hz:nmC l 0=letB c0:=by rw [nmC_zero,getD_of hc0]
 have hL:=isLetter_spec X c0
 cases h0:letB c0 with
 | false =>
  rw [nmB_false (i:=0) (by omega) (hz.trans h0)]
  rw [h0] at hL
  (refine aA<|rgN<|kas O<|aB<|aA<|aA<|rgN<|kmv O<|kln O<|klt O O (cK (by rw [hlen];omega))<|kmv O<|gmv O O O<|K.lenStr O (dP O O) ?_;refine aS O O (cK (by rw [hlen];omega)) (dP O O) ?_;refine kpf O O<|kmv O<|gmv O O O<|bB O O (by omega) hget0 (dP O O) ?_;refine gca O O (hL) O O<|aV O O (dP O O) ?_;refine kpf O O<|aB<|aE O ?_;refine aA<|rgN<|kas O<|aB<|aI ?_)
  exact ⟨[_],⟨O,trivial⟩,O⟩
 | true =>
  have hz1:=hz.trans h0
  rw [h0] at hL
  (refine aA<|rgN<|kas O<|aB<|aA<|aA<|rgN<|kmv O<|kln O<|klt O O (cK (by rw [hlen];omega))<|kmv O<|gmv O O O<|K.lenStr O (dP O O) ?_;refine aS O O (cK (by rw [hlen];omega)) (dP O O) ?_;refine kpf O O<|kmv O<|gmv O O O<|bB O O (by omega) hget0 (dP O O) ?_;refine gca O O (hL) O O<|aV O O (dP O O) ?_;refine kpf O O<|aB<|aF O ?_;refine aH ?_;refine aA<|aA<|rgN<|kmv O<|kln O<|kmv O<|aB<|aG ?_)
  refine cG (fun m σ=>∃ i:Nat,i≤l.length∧m=l.length-i∧(∀ j,j<i→nmC l j=true)∧σ=⟨[(0,Ls l),(19,Ln .i64 (l.length:Nat)),(20,Ln .i64 (i:Nat))],[],X⟩) l.length
   ⟨_,Le.of (by exact ⟨rfl,rfl,rfl,trivial⟩) (by exact trivial) (by exact rfl) (by exact rfl) (by exact rfl),0,by omega,by omega,fun j hj=>absurd hj (by omega),rfl⟩ ?_
  rintro m σ ⟨i,hi,rfl,hpre,rfl⟩
  by_cases hlt:i<l.length
  ·obtain ⟨c,hc⟩:∃ c,l[i]? = some c:=⟨_,cU hlt⟩
   have hN:nmC l i=(letB c||digB c):=by rw [nmC_more hz1,getD_of hc]
   have hget:(⟨l.toArray⟩:ByteArray)[(i:Int).toNat]? = some c:=str_at (by rw [dD];exact hc)
   have hA:=isLetter_spec X c
   have hB:=isDigit_spec X c
   have key:nmC l i=true→∀ j,j<i+1→nmC l j=true:=fun hok j hj=>by
    by_cases e:j=i
    ·rw [e];exact hok
    ·exact hpre j (by omega)
   cases ha:letB c with
   | true =>
    rw [ha] at hA
    (refine aA<|rgN<|klt O O (cL (by omega))<|aB<|aA<|aE O ?_;refine aH ?_;refine aA<|aG<|aA<|rgN<|kmv O<|kas O<|aB<|aA<|rgN<|kmv O<|kmv O<|bB O O (by omega) hget dO<|kca O O (hA)<|aV O O dO ?_;refine kmv O<|aC O O O<|aC O O O<|aC O O O<|aC O O O<|aC O O O<|kpf O O<|aB<|aF O ?_;refine aH ?_;refine rgN<|kad O O (cE (by omega))<|kmv O<|aB ?_)
    exact ⟨_,_,by omega,Le.of (by exact ⟨rfl,rfl,rfl,trivial⟩) (by exact trivial) (by exact rfl) (by exact rfl) (by exact rfl),i+1,by omega,rfl,key (by rw [hN,ha];rfl),rfl⟩
   | false =>
    rw [ha] at hA
    cases hb:digB c with
    | true =>
     rw [hb] at hB
     (refine aA<|rgN<|klt O O (cL (by omega))<|aB<|aA<|aE O ?_;refine aH ?_;refine aA<|aG<|aA<|rgN<|kmv O<|kas O<|aB<|aA<|rgN<|kmv O<|kmv O<|bB O O (by omega) hget dO<|kca O O (hA)<|aV O O dO ?_;refine kmv O<|gmv O O O<|gmv O O O<|bB O O (by omega) hget (dP O O) ?_;refine gca O O (hB) O O<|aV O O (dP O O) ?_;refine kpt O O<|aB<|aF O ?_;refine aH ?_;refine rgN<|kad O O (cE (by omega))<|kmv O<|aB ?_)
     exact ⟨_,_,by omega,Le.of (by exact ⟨rfl,rfl,rfl,trivial⟩) (by exact trivial) (by exact rfl) (by exact rfl) (by exact rfl),i+1,by omega,rfl,key (by rw [hN,ha,hb];rfl),rfl⟩
    | false =>
     rw [hb] at hB
     rw [nmB_false hlt (by rw [hN,ha,hb];rfl)]
     (refine aA<|rgN<|klt O O (cL (by omega))<|aB<|aA<|aE O ?_;refine aH ?_;refine aA<|aG<|aA<|rgN<|kmv O<|kas O<|aB<|aA<|rgN<|kmv O<|kmv O<|bB O O (by omega) hget dO<|kca O O (hA)<|aV O O dO ?_;refine kmv O<|gmv O O O<|gmv O O O<|bB O O (by omega) hget (dP O O) ?_;refine gca O O (hB) O O<|aV O O (dP O O) ?_;refine kpt O O<|aB<|aE O ?_;refine aA<|rgN<|kas O<|aB<|aI ?_)
     exact ⟨[_],⟨O,trivial⟩,O⟩
  ·rw [nmB_true (by omega) (by omega) (fun j hj=>hpre j (by omega))]
   (refine aA<|rgN<|klt O O (cK (by omega))<|aB<|aA<|aF O ?_;refine aJ<|aA<|rgN<|kas O<|aB<|aI ?_)
   exact ⟨[_],⟨O,trivial⟩,O⟩
abbrev nmBx (k:Nat) (ns:List (List UInt8)):Nat×Option Box:=(k,some ⟨0,[],.res (mapR Tryz.prog 9 (nmM ns))⟩)
abbrev Lmp (k:Nat):LV:=.sv (.one (.mp k))
theorem take_ok (ns:List (List UInt8)) (l:List UInt8) (hl:l.length≤9223372036854775807) (h1:ns.any (fun m=>m==l)=false) (h2:nmB l=true):
  MSpec Tryz.prog X 58 [Lmp 1000000,Ls l] [nmBx 1000000 ns] (Lb true) [nmBx 1000000 (ns++[l])]:=by
 refine cD Tryz.func58 rfl (by kernel_rfl) rfl rfl (by exact (by repeat' (first|refine bS ?_ ?_|rfl|exact bU|exact bT|exact bV rfl))) rfl rfl ?_
 intro C
 have hN:=pIsName X l true h2
 have hkey:Go.keyOf Tryz.prog 9 (.string ⟨l.toArray⟩)=some (.string l):=by
  rw [WideMaps.keyOf_string_mk (by kernel_rfl) (by show l.length≤maxLen;unfold maxLen;omega)]
 (refine aA<|rgN<|kas O<|aB<|aA<|aA<|rgN<|kmv O<|kmv O<|K.lookupOk (et:=132) (.agg []) (v:=.agg #[]) (z:=.agg #[]) O O O (by kernel_rfl) (KL.str (by kernel_rfl)) hkey (by kernel_rfl) (nmM_at ns l) agg0_rel (nmM_any ns l false h1) dO ?_;refine kmv O<|kex O O<|kex O O<|aP O dO ?_;refine aM O O O O O O dO ?_;refine kas O<|aB<|aA<|rgN<|kmv O<|kmv O<|gmv O O O<|gca O O (hN) O O<|aV O O (dP O O) ?_;refine kpf O O<|aB<|aF O ?_;refine aH ?_;refine aA<|rgN<|kmv O<|kmv O<|aT O O (by exact O) (by exact nl0 O) dO ?_;refine K.mapPut (et:=132) (nmM (ns++[l])) O O O O (by kernel_rfl) (KL.str (by kernel_rfl)) hkey (nmM_put h1) dO ?_;refine aB<|aA<|rgN<|kas O<|aB<|aI ?_)
 exact ⟨[],⟨[_],⟨rfl,trivial⟩,rfl⟩,(by repeat' (first|exact trivial|refine cM ⟨_,rfl,?_⟩ ?_|refine cM ⟨_,rfl⟩ ?_|rfl|exact bW _ _ _ _|exact bX _ _ _ _|exact bY rfl)),rfl,rfl⟩
theorem take_no (ns:List (List UInt8)) (l:List UInt8) (hl:l.length≤9223372036854775807) (h:ns.any (fun m=>m==l)=true∨nmB l=false):
  MSpec Tryz.prog X 58 [Lmp 1000000,Ls l] [nmBx 1000000 ns] (Lb false) [nmBx 1000000 ns]:=by
 refine cD Tryz.func58 rfl (by kernel_rfl) rfl rfl (by exact (by repeat' (first|refine bS ?_ ?_|rfl|exact bU|exact bT|exact bV rfl))) rfl rfl ?_
 intro C
 have hkey:Go.keyOf Tryz.prog 9 (.string ⟨l.toArray⟩)=some (.string l):=by
  rw [WideMaps.keyOf_string_mk (by kernel_rfl) (by show l.length≤maxLen;unfold maxLen;omega)]
 cases h1:ns.any (fun m=>m==l) with
 | true =>
  (refine aA<|rgN<|kas O<|aB<|aA<|aA<|rgN<|kmv O<|kmv O<|K.lookupOk (et:=132) (.agg []) (v:=.agg #[]) (z:=.agg #[]) O O O (by kernel_rfl) (KL.str (by kernel_rfl)) hkey (by kernel_rfl) (nmM_at ns l) agg0_rel (nmM_any ns l true h1) dO ?_;refine kmv O<|kex O O<|kex O O<|aP O dO ?_;refine aM O O O O O O dO ?_;refine kas O<|aB<|aA<|rgN<|kmv O<|kmv O<|aC O O O<|aC O O O<|aC O O O<|kpt O O<|aB<|aE O ?_;refine aA<|rgN<|kas O<|aB<|aI ?_)
  exact ⟨[],⟨[_],⟨rfl,trivial⟩,rfl⟩,(by repeat' (first|exact trivial|refine cM ⟨_,rfl,?_⟩ ?_|refine cM ⟨_,rfl⟩ ?_|rfl|exact bW _ _ _ _|exact bX _ _ _ _|exact bY rfl)),rfl,rfl⟩
 | false =>
  have hN:=pIsName X l false (h.resolve_left (by rw [h1];decide))
  (refine aA<|rgN<|kas O<|aB<|aA<|aA<|rgN<|kmv O<|kmv O<|K.lookupOk (et:=132) (.agg []) (v:=.agg #[]) (z:=.agg #[]) O O O (by kernel_rfl) (KL.str (by kernel_rfl)) hkey (by kernel_rfl) (nmM_at ns l) agg0_rel (nmM_any ns l false h1) dO ?_;refine kmv O<|kex O O<|kex O O<|aP O dO ?_;refine aM O O O O O O dO ?_;refine kas O<|aB<|aA<|rgN<|kmv O<|kmv O<|gmv O O O<|gca O O (hN) O O<|aV O O (dP O O) ?_;refine kpf O O<|aB<|aE O ?_;refine aA<|rgN<|kas O<|aB<|aI ?_)
  exact ⟨[],⟨[_],⟨rfl,trivial⟩,rfl⟩,(by repeat' (first|exact trivial|refine cM ⟨_,rfl,?_⟩ ?_|refine cM ⟨_,rfl⟩ ?_|rfl|exact bW _ _ _ _|exact bX _ _ _ _|exact bY rfl)),rfl,rfl⟩
end Go.Proofs.YtopiioklkkiedaaGreatDoor
end
section
namespace Go.Lg.Fld
open Go Go.Lg
def NamesC (cs:List Cp):Prop := ∀ c∈cs,c.fs.length<4611686018427387904∧c.nm.length≤9223372036854775807∧∀ f∈c.fs,f.nm.length≤9223372036854775807
theorem any_names {α:Type} (g:α→List UInt8) (l:List α) (i:Nat) (nm:List UInt8):((l.take i).map g).any (fun m=>m==nm)=(l.take i).any (fun x=>g x==nm):=by rw [List.any_map];rfl
def fldsE (fs:List Fl):Int:=if firstE (fldE fs) 0 fs.length=0 then layErr fs else 4
end Go.Lg.Fld
namespace Go.Proofs.YtopiioklkkiedaaGreatDoor
open Go Go.Lg Go.Lg.Fld
set_option maxRecDepth 100000
variable (X:Nat→Option Obj)
theorem checkFields_spec (fad:Option Addr) (fcap:Nat) (fs:List Fl) (hF:FieldsIn X fad fs) (hbig:fs.length<4611686018427387904) (hnm:∀ f∈fs,f.nm.length≤9223372036854775807) (e:Int) (he:fldsE fs=e):
  PSpec Tryz.prog X 59 [Lx fad fs.length fcap] (Ln .i64 e):=by
 subst he
 refine cC Tryz.func59 rfl (by kernel_rfl) rfl rfl ?_
 intro C
 (refine aA<|rgN<|kas O<|aB<|aA<|rgN<|K.makeMap 9 O dO ?_;refine kas O<|aB<|aA<|aA<|rgN<|kmv O<|aQ O bZ O dO ?_;refine kmv O<|aB<|aG ?_)
 refine cG (fun m σ=>∃ i:Nat,i≤fs.length∧m=fs.length-i∧(∀ j,0≤j→j<i→fldE fs j=0)∧σ=⟨[(0,Lx fad fs.length fcap),(3,Lmp 6),(7,Lx fad fs.length fcap),(8,Ln .i64 (fs.length:Nat)),(9,Ln .i64 (i:Nat))],[nmBx 6 ((fs.take i).map Fl.nm)],X⟩) fs.length
  ⟨_,Le.of (by exact ⟨rfl,rfl,rfl,rfl,rfl,trivial⟩) (by exact ⟨rfl,trivial⟩) (by exact rfl) (by exact rfl) (by repeat' (first|refine bS ?_ ?_|rfl|exact bU|exact bT|exact bV rfl)),0,by omega,by omega,fun j _ hj=>absurd hj (by omega),rfl⟩ ?_
 rintro m σ ⟨i,hi,rfl,hpre,rfl⟩
 by_cases hlt:i<fs.length
 ·obtain ⟨f,hf⟩:∃ f,fs[i]? = some f:=⟨_,cU hlt⟩
  obtain ⟨blk,off,arr,el,fr,rfl,hX,hsz,hcells⟩:=hF.at hf
  have hio:off+Int.toNat (i:Int)*3=off+i*3:=by simp
  have hE:=fldE_at hf
  have hnl:=hnm f (cZ hf)
  have hany:=any_names Fl.nm fs i f.nm
  have hts:(fs.take (i+1)).map Fl.nm=(fs.take i).map Fl.nm++[f.nm]:=by rw [take_snoc hf,dE];rfl
  by_cases hbad:fldE fs i=0
  ·rw [hbad] at hE
   have h2:nmB f.nm=true:=by
    cases h:nmB f.nm with
    | true=>rfl
    | false=>rw [h,if_neg (by decide)] at hE;cases hE
   rw [if_pos h2] at hE
   have h1:((fs.take i).map Fl.nm).any (fun m=>m==f.nm)=false:=by
    rw [hany]
    cases h:(fs.take i).any (fun g=>g.nm==f.nm) with
    | false=>rfl
    | true=>rw [h,if_pos rfl] at hE;cases hE
   have hT:=take_ok X ((fs.take i).map Fl.nm) f.nm hnl h1 h2
   rw [← hts] at hT
   generalize (fs.take i).map Fl.nm=ns at *
   generalize hns:(fs.take (i+1)).map Fl.nm=ns' at *
   (refine aA<|rgN<|klt O O (cL (by omega))<|aB<|aA<|aE O ?_;refine aH ?_;refine aA<|aG<|aA<|rgN<|aR O O bZ (by omega) hio dO<|aY O hX (by kernel_rfl) hsz hcells dO<|aP O dO ?_;refine aM O O O O O O dO ?_;refine aB<|aA<|rgN<|kmv O<|kfa O O ?_;refine kl1 O O O<|aU [(1000000,6)] [nmBx 6 ns'] (hT) O O (by exact (cM ⟨_,O,O⟩ trivial)) (by exact (bS O O)) O O O O (by exact (.box O O .nil)) dO<|aV O O dO<|aB<|aF O ?_;refine aH ?_;refine rgN<|kad O O (cE (by omega))<|kmv O<|aB ?_)
   subst hns
   exact ⟨_,_,by omega,Le.of (by exact ⟨O,O,O,O,O,trivial⟩) (by exact ⟨O,trivial⟩) (by exact O) (by exact O) (by repeat' (first|refine bS ?_ ?_|rfl|exact bU|exact bT|exact bV O)),i+1,by omega,O,(fun j h0 hj=>by
    by_cases e:j=i
    ·rw [e];exact hbad
    ·exact hpre j h0 (by omega)),rfl⟩
  ·have h4:fldE fs i=4:=by
    rw [hE] at hbad ⊢
    cases h0:nmB f.nm with
    | false=>rfl
    | true =>
     rw [h0] at hbad
     cases h':(fs.take i).any (fun g=>g.nm==f.nm) with
     | true=>rfl
     | false=>rw [h'] at hbad;exact absurd rfl hbad
   have hno:((fs.take i).map Fl.nm).any (fun m=>m==f.nm)=true∨nmB f.nm=false:=by
    rw [hany]
    rw [hE] at hbad
    cases h:nmB f.nm with
    | false=>exact .inr rfl
    | true =>
     left
     rw [h,if_pos rfl] at hbad
     cases h':(fs.take i).any (fun g=>g.nm==f.nm) with
     | true=>rfl
     | false=>rw [h',if_neg (by decide)] at hbad;exact absurd rfl hbad
   have hfin:fldsE fs=4:=by unfold fldsE;rw [firstE_some hpre (Nat.zero_le _) (by omega) h4 (by decide),if_neg (by decide)]
   rw [hfin]
   have hT:=take_no X ((fs.take i).map Fl.nm) f.nm hnl hno
   generalize (fs.take i).map Fl.nm=ns at *
   (refine aA<|rgN<|klt O O (cL (by omega))<|aB<|aA<|aE O ?_;refine aH ?_;refine aA<|aG<|aA<|rgN<|aR O O bZ (by omega) hio dO<|aY O hX (by kernel_rfl) hsz hcells dO<|aP O dO ?_;refine aM O O O O O O dO ?_;refine aB<|aA<|rgN<|kmv O<|kfa O O ?_;refine kl1 O O O<|aU [(1000000,6)] [nmBx 6 ns] (hT) O O (by exact (cM ⟨_,O,O⟩ trivial)) (by exact (bS O O)) O O O O (by exact (.box O O .nil)) dO<|aV O O dO<|aB<|aE O ?_;refine aA<|rgN<|kas O<|aB<|aI ?_)
   exact ⟨[_],⟨O,trivial⟩,O⟩
 ·have hfin:fldsE fs=layErr fs:=by unfold fldsE;rw [if_pos (firstE_none fun j h0 hj=>hpre j h0 (by omega))]
  rw [hfin]
  have hL:=Check_spec X fad fcap fs hF hbig
  generalize layErr fs=e at *
  (refine aA<|rgN<|klt O O (cK (by omega))<|aB<|aA<|aF O ?_;refine aJ<|aA<|rgN<|kmv O<|kca O O (hL)<|kas O<|aB<|aI ?_)
  exact ⟨[_],⟨O,trivial⟩,O⟩
theorem cmpE_flds {cs:List Cp} {i:Nat} {c:Cp} (h:cs[i]? = some c):cmpE cs i=if c.id<1∨24<c.id∨(0<i∧c.id≤prevId cs i) then 1
  else if nmB c.nm=true then (if (cs.take i).any (fun g=>g.nm==c.nm)=true then 4 else fldsE c.fs) else 4:=cmpE_at h
set_option maxHeartbeats 3200000 in
theorem pCheckBig (s:Sc) (ad:Option Addr) (cap:Nat) (hin:CompsIn X ad s.cs) (hbig:s.cs.length<4611686018427387904) (hN:NamesC s.cs) (e:Int) (he:chkE s=e):PSpec Tryz.prog X 25 [Sx s.ver ad s.cs.length cap] (Ln .i64 e):=by
 subst he
 obtain ⟨ver,cs⟩:=s
 simp only at hin hbig hN ⊢
 refine cC Tryz.func25 rfl (by kernel_rfl) rfl rfl ?_
 intro C
 unfold chkE
 by_cases hv1:ver<1
 ·rw [if_pos (.inl hv1)]
  (refine aA<|rgN<|aL O O O dO<|kas O<|aB<|aA<|aA<|rgN<|kfa O O ?_;refine kl1 O O O<|klt O O (cL hv1)<|kmv O<|aC O O O<|aC O O O<|aC O O O<|kpt O O<|aB<|aE O ?_;refine aA<|rgN<|kas O<|aB<|aI ?_)
  exact ⟨[_],⟨O,trivial⟩,O⟩
 by_cases hv2:1073741824<ver
 ·rw [if_pos (.inr hv2)]
  (refine aA<|rgN<|aL O O O dO<|kas O<|aB<|aA<|aA<|rgN<|kfa O O ?_;refine kl1 O O O<|klt O O (cK hv1)<|kmv O<|aN O O (dP O O) ?_;refine aO O O O (dP O O) ?_;refine aS O O (cL hv2) (dP O O) ?_;refine kpf O O<|aB<|aE O ?_;refine aA<|rgN<|kas O<|aB<|aI ?_)
  exact ⟨[_],⟨O,trivial⟩,O⟩
 rw [if_neg (show ¬(ver<1∨1073741824<ver) by omega)]
 (refine aA<|rgN<|aL O O O dO<|kas O<|aB<|aA<|aA<|rgN<|kfa O O ?_;refine kl1 O O O<|klt O O (cK hv1)<|kmv O<|aN O O (dP O O) ?_;refine aO O O O (dP O O) ?_;refine aS O O (cK hv2) (dP O O) ?_;refine kpf O O<|aB<|aF O ?_;refine aH ?_;refine aA<|rgN<|K.makeMap 9 O dO ?_;refine kas O<|kas O<|aB<|aA<|aA<|rgN<|kfa O O ?_;refine kl1 O O O<|aQ O bZ O dO ?_;refine kmv O<|aB<|aG ?_)
 refine cG (fun m σ=>∃ (i:Nat) (last:Int),i≤cs.length∧m=cs.length-i∧(∀ j,0≤j→j<i→cmpE cs j=0)∧(∀ x:Int,x≤last↔(x<1∨(0<i∧x≤prevId cs i)))∧σ=⟨[(3,Ln .i64 last),(4,Lmp 16),(18,Lx ad cs.length cap),(19,Ln .i64 (cs.length:Nat)),(20,Ln .i64 (i:Nat))],[nmBx 16 ((cs.take i).map Cp.nm)],X⟩) cs.length
  ⟨_,Le.of (by exact ⟨rfl,rfl,rfl,rfl,rfl,trivial⟩) (by exact ⟨rfl,trivial⟩) (by exact rfl) (by exact rfl) (by repeat' (first|refine bS ?_ ?_|rfl|exact bU|exact bT|exact bV rfl)),0,0,by omega,by omega,fun j _ hj=>absurd hj (by omega),fun x=>by omega,rfl⟩ ?_
 rintro m σ ⟨i,last,hi,rfl,hpre,hlast,rfl⟩
 by_cases hlt:i<cs.length
 ·obtain ⟨c,hc⟩:∃ c,cs[i]? = some c:=⟨_,cU hlt⟩
  obtain ⟨blk,off,arr,el,fr,fad,fcap,rfl,hX,hsz,hcs,_,_,_,hF⟩:=hin.get hc
  have hio:off+Int.toNat (i:Int)*3=off+i*3:=by simp
  have hE:=cmpE_flds hc
  obtain ⟨hfb,hnl,hfn⟩:=hN c (cZ hc)
  have fin:∀ e,cmpE cs i=e→e≠0→firstE (cmpE cs) 0 cs.length=e:=fun e he h0=>firstE_some hpre (Nat.zero_le _) (by omega) he h0
  have hany:=any_names Cp.nm cs i c.nm
  have hts:(cs.take (i+1)).map Cp.nm=(cs.take i).map Cp.nm++[c.nm]:=by rw [take_snoc hc,dE];rfl
  (refine aA<|rgN<|klt O O (cL (by omega))<|aB<|aA<|aE O ?_;refine aH ?_;refine aA<|aG<|aA<|rgN<|aR O O bZ (by omega) hio dO<|aY O hX (by kernel_rfl) hsz hcs dO<|aP O dO ?_;refine aM O O O O O O dO ?_;refine aB<|aA<|aA ?_)
  refine LWP.le (σ':=⟨[(3,Ln .i64 last),(4,Lmp 16),(6,Lp 6),(18,Lx (some ⟨blk,off,none⟩) cs.length cap),(19,Ln .i64 (cs.length:Nat)),(20,Ln .i64 (i:Nat))],[nmBx 16 ((cs.take i).map Cp.nm),cpB 6 c fad fcap],X⟩) (Le.of (by exact ⟨O,O,O,O,O,O,trivial⟩) (by exact ⟨O,O,trivial⟩) (by exact O) (by exact O) (by repeat' (first|refine bS ?_ ?_|rfl|exact bU|exact bT|exact bV O))) ?_
  by_cases hq1:c.id≤last
  ·rw [if_pos (by rcases (hlast c.id).1 hq1 with h|h;exact .inl h;exact .inr (.inr h))] at hE
   rw [fin 1 hE (by decide)]
   (refine rgN<|kfa O O ?_;refine kl1 O O O<|kmv O<|K.leq O O (cL hq1) dO<|kmv O<|aC O O O<|aC O O O<|aC O O O<|kpt O O<|aB<|aE O ?_;refine aA<|rgN<|kas O<|aB<|aI ?_)
   exact ⟨[_],⟨O,trivial⟩,O⟩
  by_cases hq2:24<c.id
  ·rw [if_pos (.inr (.inl hq2))] at hE
   rw [fin 1 hE (by decide)]
   (refine rgN<|kfa O O ?_;refine kl1 O O O<|kmv O<|K.leq O O (cK hq1) dO<|kmv O<|aN O O (dP O O) ?_;refine aO O O O (dP O O) ?_;refine aS O O (cL hq2) (dP O O) ?_;refine kpf O O<|aB<|aE O ?_;refine aA<|rgN<|kas O<|aB<|aI ?_)
   exact ⟨[_],⟨O,trivial⟩,O⟩
  have hq3:¬(c.id<1∨(0<i∧c.id≤prevId cs i)):=fun h=>hq1 ((hlast c.id).2 h)
  rw [if_neg (show ¬(c.id<1∨24<c.id∨(0<i∧c.id≤prevId cs i)) from fun h=>by rcases h with h|h|h;exact hq3 (.inl h);exact hq2 h;exact hq3 (.inr h))] at hE
  by_cases hno:((cs.take i).map Cp.nm).any (fun m=>m==c.nm)=true∨nmB c.nm=false
  ·have h4:cmpE cs i=4:=by
    rw [hE]
    rw [hany] at hno
    rcases hno with h|h
    ·rw [h];simp
    ·rw [h];simp
   rw [fin 4 h4 (by decide)]
   have hT:=take_no X ((cs.take i).map Cp.nm) c.nm hnl hno
   generalize (cs.take i).map Cp.nm=ns at *
   (refine rgN<|kfa O O ?_;refine kl1 O O O<|kmv O<|K.leq O O (cK hq1) dO<|kmv O<|aN O O (dP O O) ?_;refine aO O O O (dP O O) ?_;refine aS O O (cK hq2) (dP O O) ?_;refine kpf O O<|aB<|aF O ?_;refine aH ?_;refine aA<|rgN<|kfa O O ?_;refine kl1 O O O<|kas O<|aB<|aA<|aA<|rgN<|kmv O<|kfa O O ?_;refine kl1 O O O<|aU [(1000000,16)] [nmBx 16 ns] (hT) O O (by exact (cM ⟨_,O,O⟩ trivial)) (by exact (bS O O)) O O O O (by exact (.box O O .nil)) dO<|aV O O dO<|aB<|aE O ?_;refine aA<|rgN<|kas O<|aB<|aI ?_)
   exact ⟨[_],⟨O,trivial⟩,O⟩
  have h1:((cs.take i).map Cp.nm).any (fun m=>m==c.nm)=false:=by
   cases h:((cs.take i).map Cp.nm).any (fun m=>m==c.nm) with
   | false=>rfl
   | true=>exact absurd (.inl h) hno
  have h2:nmB c.nm=true:=by
   cases h:nmB c.nm with
   | true=>rfl
   | false=>exact absurd (.inr h) hno
  rw [if_pos h2,← hany,h1,if_neg (by decide)] at hE
  have hT:=take_ok X ((cs.take i).map Cp.nm) c.nm hnl h1 h2
  rw [← hts] at hT
  have hCF:=checkFields_spec X fad fcap c.fs hF hfb hfn (fldsE c.fs) rfl
  generalize (cs.take i).map Cp.nm=ns at *
  generalize hns:(cs.take (i+1)).map Cp.nm=ns' at *
  by_cases hz:fldsE c.fs=0
  ·rw [hz] at hCF hE
   (refine rgN<|kfa O O ?_;refine kl1 O O O<|kmv O<|K.leq O O (cK hq1) dO<|kmv O<|aN O O (dP O O) ?_;refine aO O O O (dP O O) ?_;refine aS O O (cK hq2) (dP O O) ?_;refine kpf O O<|aB<|aF O ?_;refine aH ?_;refine aA<|rgN<|kfa O O ?_;refine kl1 O O O<|kas O<|aB<|aA<|aA<|rgN<|kmv O<|kfa O O ?_;refine kl1 O O O<|aU [(1000000,16)] [nmBx 16 ns'] (hT) O O (by exact (cM ⟨_,O,O⟩ trivial)) (by exact (bS O O)) O O O O (by exact (.box O O .nil)) dO<|aV O O dO<|aB<|aF O ?_;refine aH ?_;refine aA<|rgN<|kfa O O ?_;refine kl1 O O O<|kca O O (hCF)<|kas O<|aB<|aA<|rgN<|kmv O<|kne O O ((cO (by omega)))<|aB<|aF O ?_;refine aH ?_;refine rgN<|kad O O (cE (by omega))<|kmv O<|aB ?_)
   subst hns
   exact ⟨_,_,by omega,Le.of (by exact ⟨O,O,O,O,O,trivial⟩) (by exact ⟨O,trivial⟩) (by exact O) (by exact O) (by repeat' (first|refine bS ?_ ?_|rfl|exact bU|exact bT|exact bV O)),i+1,c.id,by omega,O,(fun j h0 hj=>by
    by_cases e:j=i
    ·rw [e];exact hE
    ·exact hpre j h0 (by omega)),(fun x=>by
    have hp:prevId cs (i+1)=c.id:=by unfold prevId;rw [Nat.add_sub_cancel,hc];rfl
    rw [hp];omega),rfl⟩
  ·rw [fin _ hE hz]
   have hne:(fldsE c.fs != 0)=true:=by rw [bne_iff_ne];exact hz
   generalize fldsE c.fs=e at *
   (refine rgN<|kfa O O ?_;refine kl1 O O O<|kmv O<|K.leq O O (cK hq1) dO<|kmv O<|aN O O (dP O O) ?_;refine aO O O O (dP O O) ?_;refine aS O O (cK hq2) (dP O O) ?_;refine kpf O O<|aB<|aF O ?_;refine aH ?_;refine aA<|rgN<|kfa O O ?_;refine kl1 O O O<|kas O<|aB<|aA<|aA<|rgN<|kmv O<|kfa O O ?_;refine kl1 O O O<|aU [(1000000,16)] [nmBx 16 ns'] (hT) O O (by exact (cM ⟨_,O,O⟩ trivial)) (by exact (bS O O)) O O O O (by exact (.box O O .nil)) dO<|aV O O dO<|aB<|aF O ?_;refine aH ?_;refine aA<|rgN<|kfa O O ?_;refine kl1 O O O<|kca O O (hCF)<|kas O<|aB<|aA<|rgN<|kmv O<|kne O O hne<|aB<|aE O ?_;refine aA<|rgN<|kmv O<|kas O<|aB<|aI ?_)
   exact ⟨[_],⟨O,trivial⟩,O⟩
 ·rw [show firstE (cmpE cs) 0 cs.length=0 from firstE_none fun j h0 hj=>hpre j h0 (by omega)]
  (refine aA<|rgN<|klt O O (cK (by omega))<|aB<|aA<|aF O ?_;refine aJ<|aA<|rgN<|kas O<|aB<|aI ?_)
  exact ⟨[_],⟨O,trivial⟩,O⟩
end Go.Proofs.YtopiioklkkiedaaGreatDoor
end
section
namespace Go.Lg.Fld
open Go Go.Lg
theorem fields_reads {X:Nat→Option Obj} {ad:Option Addr} {fs:List Fl} (h:FieldsIn X ad fs):ReadsX X ad (flV fs):=⟨fun j u hj=>by
 have hjl:=(List.getElem?_eq_some_iff.1 hj).1
 rw [flV_len] at hjl
 obtain ⟨f,hf⟩:∃ f,fs[j/3]? = some f:=⟨_,cU (by omega)⟩
 obtain ⟨blk,off,arr,el,fr,rfl,hX,hsz,hcs⟩:=h.rows (j/3) f.vals (by rw [dI,hf];rfl)
 refine ⟨blk,off,arr,el,fr,O,hX,?_⟩
 obtain ⟨h1,h2⟩:=flV_at hf
 have h3:((flV fs).drop (j/3*3)).take 3=(arr.toList.drop (off+j/3*3)).take 3:=by rw [h2,hcs]
 have h4:(((flV fs).drop (j/3*3)).take 3)[j%3]? = ((arr.toList.drop (off+j/3*3)).take 3)[j%3]? := by rw [h3]
 rw [List.getElem?_take,List.getElem?_take,if_pos (Nat.mod_lt _ (by omega)),if_pos (Nat.mod_lt _ (by omega)),List.getElem?_drop,List.getElem?_drop,show j/3*3+j%3=j by omega,show off+j/3*3+j%3=off+j by omega,hj,Array.getElem?_toList] at h4
 exact h4.symm⟩
theorem flV_one (fs:List Fl):∀ u∈flV fs,u.oneCell'=true:=fun u hu=>by
 unfold flV at hu
 rw [List.mem_flatten] at hu
 obtain ⟨l,hl,hu⟩:=hu
 obtain ⟨f,_,rfl⟩:=List.mem_map.1 hl
 simp only [Fl.vals,List.mem_cons,List.not_mem_nil,or_false] at hu
 rcases hu with rfl|rfl|rfl<;>rfl
theorem FieldsIn.none {X:Nat→Option Obj} {fs:List Fl} (h:FieldsIn X none fs):fs=[]:=by
 cases hfs:fs with
 | nil=>rfl
 | cons f t =>
  obtain ⟨_,_,_,_,_,e,_⟩:=h.nm (k:=0) (f:=f) (by rw [hfs];rfl)
  cases e
end Go.Lg.Fld
namespace Go.Proofs.YtopiioklkkiedaaGreatDoor
open Go Go.Lg Go.Lg.Fld
set_option maxRecDepth 100000
abbrev SCx (c:Cp) (fad:Option Addr) (fcap:Nat):SV:=.agg [.val (.int .i64 c.id),.val (.string ⟨c.nm.toArray⟩),.val (.slice fad c.fs.length fcap)]
abbrev SC0:SV:=.agg [.val (.int .i64 0),.val (.string ⟨#[]⟩),.val (.slice none 0 0)]
abbrev SCs (c:Cp) (k:Nat):SV:=.agg [.val (.int .i64 c.id),.val (.string ⟨c.nm.toArray⟩),.slc k 0 c.fs.length 3]
abbrev fdB (k:Nat) (fs:List Fl):Nat×Option Box:=(k,some ⟨83,(flV fs).map .val,true⟩)
abbrev Lf (f:FuncId) (caps:List Value):LV:=.sv (.one (.val (.func (.func f) #[] caps.toArray)))
abbrev Fx (f:Fl):LV:=.sv (.agg (f.vals.map CV.val))
variable (X:Nat→Option Obj)
theorem idxC_spec (ad:Option Addr) (cap:Nat) (cs:List Cp) (hin:CompsIn X ad cs) (hbig:cs.length<4611686018427387904) (f:FuncId) (caps:List Value) (p:Cp→Bool)
  (hp:∀ c∈cs,∀ fad fcap,PSpec Tryz.prog X f ([Cx c fad fcap]++caps.map fun v=>.sv (.one (.val v))) (Lb (p c))):
  PSpec Tryz.prog X 129 [Lx ad cs.length cap,Lf f caps] (Ln .i64 (findI p cs)):=by
 refine cC Tryz.func129 rfl (by kernel_rfl) rfl rfl ?_
 intro C
 (refine aA<|rgN<|kas O<|aB<|aA<|aA<|rgN<|kmv O<|aQ O bZ O dO ?_;refine kmv O<|aB<|aG ?_)
 refine cG (fun m σ=>∃ i:Nat,i≤cs.length∧m=cs.length-i∧(∀ (j:Nat) (y:Cp),j<i→cs[j]? = some y→p y=false)∧σ=⟨[(0,Lx ad cs.length cap),(1,Lf f caps),(7,Ln .i64 (cs.length:Nat)),(8,Ln .i64 (i:Nat))],[],X⟩) cs.length
  ⟨_,Le.of (by exact ⟨rfl,rfl,rfl,rfl,trivial⟩) (by exact trivial) (by exact rfl) (by exact rfl) (by exact rfl),0,by omega,by omega,fun j y hj=>absurd hj (by omega),rfl⟩ ?_
 rintro m σ ⟨i,hi,rfl,hpre,rfl⟩
 by_cases hlt:i<cs.length
 ·obtain ⟨c,hc⟩:∃ c,cs[i]? = some c:=⟨_,cU hlt⟩
  obtain ⟨blk,off,arr,el,fr,fad,fcap,rfl,hX,hsz,hcs,_,_,_,hF⟩:=hin.get hc
  have hio:off+Int.toNat (i:Int)*3=off+i*3:=by simp
  have hP:=hp c (cZ hc) fad fcap
  cases hpc:p c with
  | true =>
   rw [hpc] at hP
   rw [findI_some hpre hc hpc]
   (refine aA<|rgN<|klt O O (cL (by omega))<|aB<|aA<|aE O ?_;refine aH ?_;refine aA<|aG<|aA<|rgN<|kmv O<|kas O<|aB<|aA<|rgN<|kmv O<|kmv O<|kmv O<|aR O O bZ (by omega) hio dO<|aY O hX (by kernel_rfl) hsz hcs dO ?_;refine K.callF O O O hP dO ?_;refine aB<|aE O ?_;refine aA<|rgN<|kmv O<|kas O<|aB<|aI ?_)
   exact ⟨[_],⟨O,trivial⟩,O⟩
  | false =>
   rw [hpc] at hP
   (refine aA<|rgN<|klt O O (cL (by omega))<|aB<|aA<|aE O ?_;refine aH ?_;refine aA<|aG<|aA<|rgN<|kmv O<|kas O<|aB<|aA<|rgN<|kmv O<|kmv O<|kmv O<|aR O O bZ (by omega) hio dO<|aY O hX (by kernel_rfl) hsz hcs dO ?_;refine K.callF O O O hP dO ?_;refine aB<|aF O ?_;refine aH ?_;refine rgN<|kad O O (cE (by omega))<|kmv O<|aB ?_)
   exact ⟨_,_,by omega,Le.of (by exact ⟨O,O,O,O,trivial⟩) (by exact trivial) (by exact O) (by exact O) (by exact O),i+1,by omega,O,(fun j y hj hy=>by
    by_cases e:j=i
    ·subst e;rw [hc] at hy;cases hy;exact hpc
    ·exact hpre j y (by omega) hy),rfl⟩
 ·rw [findI_none fun j y hy=>hpre j y (by have:=(List.getElem?_eq_some_iff.1 hy).1;omega) hy]
  (refine aA<|rgN<|klt O O (cK (by omega))<|aB<|aA<|aF O ?_;refine aJ<|aA<|rgN<|kas O<|aB<|aI ?_)
  exact ⟨[_],⟨O,trivial⟩,O⟩
theorem idxF_spec (ad:Option Addr) (cap:Nat) (fs:List Fl) (hin:FieldsIn X ad fs) (hbig:fs.length<4611686018427387904) (f:FuncId) (caps:List Value) (p:Fl→Bool)
  (hp:∀ c∈fs,PSpec Tryz.prog X f ([Fx c]++caps.map fun v=>.sv (.one (.val v))) (Lb (p c))):
  PSpec Tryz.prog X 174 [Lx ad fs.length cap,Lf f caps] (Ln .i64 (findI p fs)):=by
 refine cC Tryz.func174 rfl (by kernel_rfl) rfl rfl ?_
 intro C
 (refine aA<|rgN<|kas O<|aB<|aA<|aA<|rgN<|kmv O<|aQ O bZ O dO ?_;refine kmv O<|aB<|aG ?_)
 refine cG (fun m σ=>∃ i:Nat,i≤fs.length∧m=fs.length-i∧(∀ (j:Nat) (y:Fl),j<i→fs[j]? = some y→p y=false)∧σ=⟨[(0,Lx ad fs.length cap),(1,Lf f caps),(7,Ln .i64 (fs.length:Nat)),(8,Ln .i64 (i:Nat))],[],X⟩) fs.length
  ⟨_,Le.of (by exact ⟨rfl,rfl,rfl,rfl,trivial⟩) (by exact trivial) (by exact rfl) (by exact rfl) (by exact rfl),0,by omega,by omega,fun j y hj=>absurd hj (by omega),rfl⟩ ?_
 rintro m σ ⟨i,hi,rfl,hpre,rfl⟩
 by_cases hlt:i<fs.length
 ·obtain ⟨c,hc⟩:∃ c,fs[i]? = some c:=⟨_,cU hlt⟩
  obtain ⟨blk,off,arr,el,fr,rfl,hX,hsz,hcs⟩:=hin.at hc
  have hio:off+Int.toNat (i:Int)*3=off+i*3:=by simp
  have hP:=hp c (cZ hc)
  cases hpc:p c with
  | true =>
   rw [hpc] at hP
   rw [findI_some hpre hc hpc]
   (refine aA<|rgN<|klt O O (cL (by omega))<|aB<|aA<|aE O ?_;refine aH ?_;refine aA<|aG<|aA<|rgN<|kmv O<|kas O<|aB<|aA<|rgN<|kmv O<|kmv O<|kmv O<|aR O O bZ (by omega) hio dO<|aY O hX (by kernel_rfl) hsz hcs dO ?_;refine K.callF O O (by simp [LV.closed];rfl) hP dO ?_;refine aB<|aE O ?_;refine aA<|rgN<|kmv O<|kas O<|aB<|aI ?_)
   exact ⟨[_],⟨O,trivial⟩,O⟩
  | false =>
   rw [hpc] at hP
   (refine aA<|rgN<|klt O O (cL (by omega))<|aB<|aA<|aE O ?_;refine aH ?_;refine aA<|aG<|aA<|rgN<|kmv O<|kas O<|aB<|aA<|rgN<|kmv O<|kmv O<|kmv O<|aR O O bZ (by omega) hio dO<|aY O hX (by kernel_rfl) hsz hcs dO ?_;refine K.callF O O O hP dO ?_;refine aB<|aF O ?_;refine aH ?_;refine rgN<|kad O O (cE (by omega))<|kmv O<|aB ?_)
   exact ⟨_,_,by omega,Le.of (by exact ⟨O,O,O,O,trivial⟩) (by exact trivial) (by exact O) (by exact O) (by exact O),i+1,by omega,O,(fun j y hj hy=>by
    by_cases e:j=i
    ·subst e;rw [hc] at hy;cases hy;exact hpc
    ·exact hpre j y (by omega) hy),rfl⟩
 ·rw [findI_none fun j y hy=>hpre j y (by have:=(List.getElem?_eq_some_iff.1 hy).1;omega) hy]
  (refine aA<|rgN<|klt O O (cK (by omega))<|aB<|aA<|aF O ?_;refine aJ<|aA<|rgN<|kas O<|aB<|aI ?_)
  exact ⟨[_],⟨O,trivial⟩,O⟩
abbrev Vp (b:Nat):LV:=.sv (.one (.val (.pointer (some ⟨b,0,none⟩))))
theorem find1_spec (c:Cp) (fad:Option Addr) (fcap:Nat) (id:Int) {b:Nat} {arr:Array Value} {el:TypeId} {fr:Nat×Nat} (hX:X b=some (.cells arr el fr)) (h0:arr[0]? = some (.int .i64 id)):
  PSpec Tryz.prog X 92 [Cx c fad fcap,Vp b] (Lb (c.id==id)):=by
 refine cC Tryz.func92 rfl (by kernel_rfl) rfl rfl ?_
 intro C
 (refine aA<|rgN<|aL O O O dO<|kas O<|aB<|aA<|rgN<|kfa O O ?_;refine kl1 O O O<|aW O hX O h0 dO<|keq O O O<|kas O<|aB<|aI ?_)
 exact ⟨[_],⟨O,trivial⟩,O⟩
theorem fieldNamed1_spec (f:Fl) (nm:List UInt8) {b:Nat} {arr:Array Value} {el:TypeId} {fr:Nat×Nat} (hX:X b=some (.cells arr el fr)) (h0:arr[0]? = some (.string ⟨nm.toArray⟩)):
  PSpec Tryz.prog X 175 [Fx f,Vp b] (Lb (f.nm==nm)):=by
 refine cC Tryz.func175 rfl (by kernel_rfl) rfl rfl ?_
 intro C
 (refine aA<|rgN<|aL O O O dO<|kas O<|aB<|aA<|rgN<|kfa O O ?_;refine kl1 O O O<|aW O hX O h0 dO<|kse O O (strs_eq O)<|kas O<|aB<|aI ?_)
 exact ⟨[_],⟨O,trivial⟩,O⟩
theorem fclone_nil (cap:Nat):PSpec Tryz.prog X 98 [Lx none 0 cap] (Lx none 0 0):=by
 refine cC Tryz.func98 rfl (by kernel_rfl) rfl rfl ?_
 intro C
 (refine aA<|rgN<|kas O<|aB<|aA<|aA<|rgN<|kmv O<|K.slcNil (r:=true) O bZ (.inl ⟨O,O⟩) dO ?_;refine aB<|aE O ?_;refine aA<|rgN<|kas O<|aB<|aI ?_)
 exact ⟨[_],⟨O,trivial⟩,O⟩
theorem fclone_some (fa:Addr) (cap:Nat) (fs:List Fl) (hF:FieldsIn X (some fa) fs) (hb:fs.length≤4398046511104):
  MSpec Tryz.prog X 98 [Lx (some fa) fs.length cap] [] (.sv (.one (.slc 1000001 0 fs.length 3))) [fdB 1000001 fs]:=by
 refine cD Tryz.func98 rfl (by kernel_rfl) rfl rfl (by exact (by repeat' (first|refine bS ?_ ?_|rfl|exact bU|exact bT|exact bV rfl))) rfl rfl ?_
 intro C
 (refine aA<|rgN<|kas O<|aB<|aA<|aA<|rgN<|kmv O<|K.slcNil (r:=false) O bZ (.inl ⟨O,O⟩) dO ?_;refine aB<|aF O ?_;refine aH ?_;refine aA<|rgN<|aZ (zs:=[]) (sz:=3) (e:=83) (by kernel_rfl) O O O O O O dO<|kmv O<|K.appendX (by_:=32) (e2:=83) (news:=flV fs) (nl:=fs.length) (nc:=(flV fs).map .val) O O O O (fields_reads hF) (flV_len fs) (flV_one fs) (by kernel_rfl) (by kernel_rfl) (by omega) (by omega) O (by omega) O dO ?_;refine kas O<|aB<|aI ?_)
 exact ⟨[(1000001,7)],⟨[_],⟨rfl,trivial⟩,rfl⟩,(by repeat' (first|exact trivial|refine cM ⟨_,rfl,?_⟩ ?_|refine cM ⟨_,rfl⟩ ?_|rfl|exact bW _ _ _ _|exact bX _ _ _ _|exact bY rfl)),rfl,rfl⟩
theorem cclone_nil (c:Cp) (cap:Nat) (h:c.fs=[]):PSpec Tryz.prog X 57 [Cx c none cap] (.sv (SCx c none 0)):=by
 refine cC Tryz.func57 rfl (by kernel_rfl) rfl rfl ?_
 intro C
 have hq:=fclone_nil X cap
 obtain ⟨id,nm,fs⟩:=c
 simp only at h
 subst h
 (refine aA<|rgN<|aL O O O dO<|aP O dO ?_;refine aB<|aA<|rgN<|kfa O O ?_;refine kl1 O O O<|kca O O hq<|kfa O O ?_;refine bG O O O O O (nl3 O O O O) dO<|aB<|aA<|rgN<|aK O O O dO ?_;refine aM O O O O O O dO ?_;refine aB<|aI ?_)
 exact ⟨[_],⟨⟨_,_,O,O,O,.inl ⟨AggT.h,O⟩⟩,trivial⟩,O⟩
theorem cclone_some (c:Cp) (fa:Addr) (cap:Nat) (hF:FieldsIn X (some fa) c.fs) (hb:c.fs.length≤4398046511104):
  MSpec Tryz.prog X 57 [Cx c (some fa) cap] [] (.sv (SCs c 1000001)) [fdB 1000001 c.fs]:=by
 refine cD Tryz.func57 rfl (by kernel_rfl) rfl rfl (by exact (by repeat' (first|refine bS ?_ ?_|rfl|exact bU|exact bT|exact bV rfl))) rfl rfl ?_
 intro C
 have hq:=fclone_some X fa cap c.fs hF hb
 (refine aA<|rgN<|aL O O O dO<|aP O dO ?_;refine aB<|aA<|rgN<|kfa O O ?_;refine kl1 O O O<|bE [(1000001,20)] (.sv (.one (.slc 20 0 c.fs.length 3))) [fdB 20 c.fs] (hq) O O (by exact trivial) O O O O O (by exact (.box O (bX _ _ _ _) .nil)) dO<|kfa O O ?_;refine bG O O O O O (nl3 O O O O) dO<|aB<|aA<|rgN<|aK O O O dO ?_;refine aM O O O O O O dO ?_;refine aB<|aI ?_)
 exact ⟨[(1000001,20)],⟨[_],⟨⟨_,_,rfl,rfl,rfl,.inl ⟨AggT.h,rfl⟩⟩,trivial⟩,rfl⟩,(by repeat' (first|exact trivial|refine cM ⟨_,rfl,?_⟩ ?_|refine cM ⟨_,rfl⟩ ?_|rfl|exact bW _ _ _ _|exact bX _ _ _ _|exact bY rfl)),rfl,rfl⟩
section
variable (ver:Int) (ad:Option Addr) (cap:Nat) (cs:List Cp) (f:FuncId) (caps:List Value) (p:Cp→Bool)
theorem first_no (hin:CompsIn X ad cs) (hbig:cs.length<4611686018427387904) (hp:∀ c∈cs,∀ fad fcap,PSpec Tryz.prog X f ([Cx c fad fcap]++caps.map fun v=>.sv (.one (.val v))) (Lb (p c))) (hno:findI p cs = -1):
  PSpec Tryz.prog X 91 [Sx ver ad cs.length cap,Lf f caps] (.tup [SC0,Sb false]):=by
 refine cC Tryz.func91 rfl (by kernel_rfl) rfl rfl ?_
 intro C
 have hI:=idxC_spec X ad cap cs hin hbig f caps p hp
 rw [hno] at hI
 (refine aA<|rgN<|aL O O O dO<|aP O dO ?_;refine kas O<|aB<|aA<|rgN<|kfa O O ?_;refine kl1 O O O<|kmv O<|kca O O hI<|kas O<|aB<|aA<|aA<|rgN<|kmv O<|klt O O O<|aB<|aE O ?_;refine aA<|rgN<|aT O O (by exact O) (by exact nl3 O O O O) dO ?_;refine aM O O O O O O dO ?_;refine kas O<|aB<|aI ?_)
 exact ⟨[_,_],⟨⟨_,_,O,O,O,.inl ⟨AggT.h,O⟩⟩,O,trivial⟩,O⟩
theorem first_nil (hin:CompsIn X ad cs) (hbig:cs.length<4611686018427387904) (hp:∀ c∈cs,∀ fad fcap,PSpec Tryz.prog X f ([Cx c fad fcap]++caps.map fun v=>.sv (.one (.val v))) (Lb (p c)))
  {i:Nat} {c:Cp} (hpre:∀ (j:Nat) (y:Cp),j<i→cs[j]? = some y→p y=false) (hc:cs[i]? = some c) (he:p c=true)
  {blk off:Nat} {arr:Array Value} {el:TypeId} {fr:Nat×Nat} {fcap:Nat} (had:ad=some ⟨blk,off,none⟩) (hX:X blk=some (.cells arr el fr)) (hsz:off+i*3+3≤arr.size) (hcs:((arr.toList.drop (off+i*3)).take 3).map CV.val=[.val (.int .i64 c.id),.val (.string ⟨c.nm.toArray⟩),.val (.slice none c.fs.length fcap)]) (h0:c.fs=[]):
  PSpec Tryz.prog X 91 [Sx ver ad cs.length cap,Lf f caps] (.tup [SCx c none 0,Sb true]):=by
 subst had
 have hI:=idxC_spec X _ cap cs hin hbig f caps p hp
 rw [findI_some hpre hc he] at hI
 have hi:=(List.getElem?_eq_some_iff.1 hc).1
 have hio:off+Int.toNat (i:Int)*3=off+i*3:=by simp
 refine cC Tryz.func91 rfl (by kernel_rfl) rfl rfl ?_
 intro C
 have hq:=cclone_nil X c fcap h0
 (refine aA<|rgN<|aL O O O dO<|aP O dO ?_;refine kas O<|aB<|aA<|rgN<|kfa O O ?_;refine kl1 O O O<|kmv O<|kca O O hI<|kas O<|aB<|aA<|aA<|rgN<|kmv O<|klt O O (cK (by omega))<|aB<|aF O ?_;refine aH ?_;refine aA<|rgN<|kfa O O ?_;refine kl1 O O O<|kmv O<|aR O O bZ (by omega) hio dO<|aY O hX (by kernel_rfl) hsz hcs dO<|kca O O hq<|aM O O O O O O dO ?_;refine kas O<|aB<|aI ?_)
 exact ⟨[_,_],⟨⟨_,_,O,O,O,.inl ⟨AggT.h,O⟩⟩,O,trivial⟩,O⟩
theorem first_box (hin:CompsIn X ad cs) (hbig:cs.length<4611686018427387904) (hp:∀ c∈cs,∀ fad fcap,PSpec Tryz.prog X f ([Cx c fad fcap]++caps.map fun v=>.sv (.one (.val v))) (Lb (p c)))
  {i:Nat} {c:Cp} (hpre:∀ (j:Nat) (y:Cp),j<i→cs[j]? = some y→p y=false) (hc:cs[i]? = some c) (he:p c=true)
  {blk off:Nat} {arr:Array Value} {el:TypeId} {fr:Nat×Nat} {fcap:Nat} {fa:Addr} (had:ad=some ⟨blk,off,none⟩) (hX:X blk=some (.cells arr el fr)) (hsz:off+i*3+3≤arr.size) (hcs:((arr.toList.drop (off+i*3)).take 3).map CV.val=[.val (.int .i64 c.id),.val (.string ⟨c.nm.toArray⟩),.val (.slice (some fa) c.fs.length fcap)]) (hF:FieldsIn X (some fa) c.fs) (hfb:c.fs.length≤4398046511104):
  MSpec Tryz.prog X 91 [Sx ver ad cs.length cap,Lf f caps] [] (.tup [SCs c 1000001,Sb true]) [fdB 1000001 c.fs]:=by
 subst had
 have hI:=idxC_spec X _ cap cs hin hbig f caps p hp
 rw [findI_some hpre hc he] at hI
 have hi:=(List.getElem?_eq_some_iff.1 hc).1
 have hio:off+Int.toNat (i:Int)*3=off+i*3:=by simp
 refine cD Tryz.func91 rfl (by kernel_rfl) rfl rfl (by exact (by repeat' (first|refine bS ?_ ?_|rfl|exact bU|exact bT|exact bV rfl))) rfl rfl ?_
 intro C
 have hq:=cclone_some X c fa fcap hF hfb
 (refine aA<|rgN<|aL O O O dO<|aP O dO ?_;refine kas O<|aB<|aA<|rgN<|kfa O O ?_;refine kl1 O O O<|kmv O<|kca O O hI<|kas O<|aB<|aA<|aA<|rgN<|kmv O<|klt O O (cK (by omega))<|aB<|aF O ?_;refine aH ?_;refine aA<|rgN<|kfa O O ?_;refine kl1 O O O<|kmv O<|aR O O bZ (by omega) hio dO<|aY O hX (by kernel_rfl) hsz hcs dO<|bE [(1000001,20)] (.sv (SCs c 20)) [fdB 20 c.fs] (hq) O O (by exact trivial) O O O O O (by exact (.box O (bX _ _ _ _) .nil)) dO<|aM O O O O O O dO ?_;refine kas O<|aB<|aI ?_)
 exact ⟨[(1000001,20)],⟨[_,_],⟨⟨_,_,rfl,rfl,rfl,.inl ⟨AggT.h,rfl⟩⟩,rfl,trivial⟩,rfl⟩,(by repeat' (first|exact trivial|refine cM ⟨_,rfl,?_⟩ ?_|refine cM ⟨_,rfl⟩ ?_|rfl|exact bW _ _ _ _|exact bX _ _ _ _|exact bY rfl)),rfl,rfl⟩
end
theorem at_zero {arr:Array Value} {v:Value} (h:∃ sp,arr.toList=[v]++sp):arr[0]? = some v:=by
 obtain ⟨sp,h⟩:=h
 rw [← Array.getElem?_toList,h];rfl
theorem pFind_no (ver:Int) (ad:Option Addr) (cap:Nat) (cs:List Cp) (id:Int) (hin:CompsIn X ad cs) (hbig:cs.length<4611686018427387904) (hno:∀ (j:Nat) (y:Cp),cs[j]? = some y→(y.id==id)=false):
  PSpec Tryz.prog X 48 [Sx ver ad cs.length cap,Ln .i64 id] (.tup [SC0,Sb false]):=by
 refine cC Tryz.func48 rfl (by kernel_rfl) rfl rfl ?_
 intro C
 (refine aA<|rgN<|aL O O O dO<|K.box1 O O O dO<|aP O dO ?_;refine kas O<|aB<|aA ?_)
 refine LWP.le (σ':=⟨[(3,Lp 3),(2,Lp 2),(4,Lp 4)],[(3,some ⟨3,[Value.int .i64 id].map .val,false⟩),sxB 2 ver ad cs.length cap,(4,some ⟨24,[.val (.int .i64 0),.val (.string ⟨#[]⟩),.val (.slice none 0 0)],false⟩)],X⟩) (Le.of (by exact ⟨O,O,O,trivial⟩) (by exact ⟨O,O,O,trivial⟩) (by exact O) (by exact O) (by repeat' (first|refine bS ?_ ?_|rfl|exact bU|exact bT|exact bV O))) ?_
 refine LWP.freezePtr (by rfl) (by rfl) (by rfl) fun b arr0 fr0 hn _ h0 => ?_
 have hin':=hin.mono (cF (o:=.cells arr0 3 fr0) hn)
 have hp:=fun (c:Cp) (_:c∈cs) (fad:Option Addr) (fcap:Nat)=>find1_spec _ c fad fcap id (cJ X b (.cells arr0 3 fr0)) (at_zero h0)
 have hq:=first_no _ ver ad cap cs 92 [.pointer (some ⟨b,0,none⟩)] (fun c=>c.id==id) hin' hbig hp (findI_none hno)
 (refine rgN<|aK O O O dO ?_;refine K.makeFunc O O dO ?_;refine kca O O hq<|kex O O<|kex O O<|aM O O O O O O dO ?_;refine kas O<|aB<|aI ?_)
 exact ⟨[_,_],⟨⟨_,_,O,O,O,.inl ⟨AggT.h,O⟩⟩,O,trivial⟩,O⟩
theorem pFind (ver:Int) (ad:Option Addr) (cap:Nat) (cs:List Cp) (id:Int) (hin:CompsIn X ad cs) (hbig:cs.length<4611686018427387904) (hfs:∀ c∈cs,c.fs.length≤4398046511104) {i:Nat} {c:Cp} (hpre:∀ (j:Nat) (y:Cp),j<i→cs[j]? = some y→(y.id==id)=false) (hc:cs[i]? = some c) (he:c.id=id):
  (c.fs=[]∧PSpec Tryz.prog X 48 [Sx ver ad cs.length cap,Ln .i64 id] (.tup [SCx c none 0,Sb true])) ∨
   MSpec Tryz.prog X 48 [Sx ver ad cs.length cap,Ln .i64 id] [] (.tup [SCs c 1000001,Sb true]) [fdB 1000001 c.fs]:=by
 have he':(c.id==id)=true:=by rw [beq_iff_eq];exact he
 obtain ⟨blk,off,arr,el,fr,fad,fcap,rfl,hX,hsz,hcs,_,_,_,hF⟩:=hin.get hc
 cases fad with
 | none =>
  have hnil:=hF.none
  refine .inl ⟨hnil,?_⟩
  refine cC Tryz.func48 rfl (by kernel_rfl) rfl rfl ?_
  intro C
  (refine aA<|rgN<|aL O O O dO<|K.box1 O O O dO<|aP O dO ?_;refine kas O<|aB<|aA ?_)
  refine LWP.le (σ':=⟨[(3,Lp 3),(2,Lp 2),(4,Lp 4)],[(3,some ⟨3,[Value.int .i64 id].map .val,false⟩),sxB 2 ver (some ⟨blk,off,none⟩) cs.length cap,(4,some ⟨24,[.val (.int .i64 0),.val (.string ⟨#[]⟩),.val (.slice none 0 0)],false⟩)],X⟩) (Le.of (by exact ⟨O,O,O,trivial⟩) (by exact ⟨O,O,O,trivial⟩) (by exact O) (by exact O) (by repeat' (first|refine bS ?_ ?_|rfl|exact bU|exact bT|exact bV O))) ?_
  refine LWP.freezePtr (by rfl) (by rfl) (by rfl) fun b arr0 fr0 hn _ h0 => ?_
  have hin':=hin.mono (cF (o:=.cells arr0 3 fr0) hn)
  have hp:=fun (c:Cp) (_:c∈cs) (fad:Option Addr) (fcap:Nat)=>find1_spec _ c fad fcap id (cJ X b (.cells arr0 3 fr0)) (at_zero h0)
  have hq:=first_nil _ ver _ cap cs 92 [.pointer (some ⟨b,0,none⟩)] (fun c=>c.id==id) hin' hbig hp hpre hc he' rfl (cF hn _ _ hX) hsz hcs hnil
  (refine rgN<|aK O O O dO ?_;refine K.makeFunc O O dO ?_;refine kca O O hq<|kex O O<|kex O O<|aM O O O O O O dO ?_;refine kas O<|aB<|aI ?_)
  exact ⟨[_,_],⟨⟨_,_,O,O,O,.inl ⟨AggT.h,O⟩⟩,O,trivial⟩,O⟩
 | some fa =>
  refine .inr ?_
  refine cD Tryz.func48 rfl (by kernel_rfl) rfl rfl (by exact (by repeat' (first|refine bS ?_ ?_|rfl|exact bU|exact bT|exact bV rfl))) rfl rfl ?_
  intro C
  (refine aA<|rgN<|aL O O O dO<|K.box1 O O O dO<|aP O dO ?_;refine kas O<|aB<|aA ?_)
  refine LWP.le (σ':=⟨[(3,Lp 3),(2,Lp 2),(4,Lp 4)],[(3,some ⟨3,[Value.int .i64 id].map .val,false⟩),sxB 2 ver (some ⟨blk,off,none⟩) cs.length cap,(4,some ⟨24,[.val (.int .i64 0),.val (.string ⟨#[]⟩),.val (.slice none 0 0)],false⟩)],X⟩) (Le.of (by exact ⟨O,O,O,trivial⟩) (by exact ⟨O,O,O,trivial⟩) (by exact O) (by exact O) (by repeat' (first|refine bS ?_ ?_|rfl|exact bU|exact bT|exact bV O))) ?_
  refine LWP.freezePtr (by rfl) (by rfl) (by rfl) fun b arr0 fr0 hn _ h0 => ?_
  have hin':=hin.mono (cF (o:=.cells arr0 3 fr0) hn)
  have hp:=fun (c:Cp) (_:c∈cs) (fad:Option Addr) (fcap:Nat)=>find1_spec _ c fad fcap id (cJ X b (.cells arr0 3 fr0)) (at_zero h0)
  have hq:=first_box _ ver _ cap cs 92 [.pointer (some ⟨b,0,none⟩)] (fun c=>c.id==id) hin' hbig hp hpre hc he' rfl (cF hn _ _ hX) hsz hcs (hF.mono (cF hn)) (hfs c (cZ hc))
  (refine rgN<|aK O O O dO ?_;refine K.makeFunc O O dO ?_;refine bE [(1000001,20)] (.tup [SCs c 20,Sb true]) [fdB 20 c.fs] (hq) O O (by exact trivial) O O O O O (by exact (.box O (bX _ _ _ _) .nil)) dO<|kex O O<|kex O O<|aM O O O O O O dO ?_;refine kas O<|aB<|aI ?_)
  exact ⟨[(1000001,20)],⟨[_,_],⟨⟨_,_,rfl,rfl,rfl,.inl ⟨AggT.h,rfl⟩⟩,rfl,trivial⟩,rfl⟩,(by repeat' (first|exact trivial|refine cM ⟨_,rfl,?_⟩ ?_|refine cM ⟨_,rfl⟩ ?_|rfl|exact bW _ _ _ _|exact bX _ _ _ _|exact bY rfl)),rfl,rfl⟩
theorem fieldNamed_spec (c:Cp) (fad:Option Addr) (fcap:Nat) (nm:List UInt8) (hF:FieldsIn X fad c.fs) (hbig:c.fs.length<4611686018427387904) (v m:Int) (b:Bool) (hv:findI (fun f:Fl=>f.nm==nm) c.fs=v) (hm:(if (0:Int)>v then 0 else v)=m) (hb:decide (0≤v)=b):
  PSpec Tryz.prog X 134 [Cx c fad fcap,Ls nm] (.tup [Sn .i64 m,Sb b]):=by
 refine cC Tryz.func134 rfl (by kernel_rfl) rfl rfl ?_
 intro C
 (refine aA<|rgN<|aL O O O dO<|K.box1 O O O dO<|kas O<|kas O<|aB<|aA ?_)
 refine LWP.le (σ':=⟨[(3,Lp 3),(2,Lp 2)],[(3,some ⟨9,[Value.string ⟨nm.toArray⟩].map .val,false⟩),cpB 2 c fad fcap],X⟩) (Le.of (by exact ⟨O,O,trivial⟩) (by exact ⟨O,O,trivial⟩) (by exact O) (by exact O) (by repeat' (first|refine bS ?_ ?_|rfl|exact bU|exact bT|exact bV O))) ?_
 refine LWP.freezePtr (by rfl) (by rfl) (by rfl) fun b0 arr0 fr0 hn _ h0 => ?_
 have hq:=idxF_spec _ fad fcap c.fs (hF.mono (cF (o:=.cells arr0 9 fr0) hn)) hbig 175 [.pointer (some ⟨b0,0,none⟩)] (fun f=>f.nm==nm) (fun f _=>fieldNamed1_spec _ f nm (cJ X b0 (.cells arr0 9 fr0)) (at_zero h0))
 rw [hv] at hq
 (refine rgN<|kfa O O ?_;refine kl1 O O O<|K.makeFunc O O dO ?_;refine kca O O hq<|kas O<|aB<|aA<|rgN<|kmv O<|K.max2 O O hm dO ?_;refine kmv O<|bD O O hb dO<|kas O<|kas O<|aB<|aI ?_)
 exact ⟨[_,_],⟨O,O,trivial⟩,O⟩
theorem pField (c:Cp) (fad:Option Addr) (fcap:Nat) (nm:List UInt8) (hF:FieldsIn X fad c.fs) (hbig:c.fs.length<4611686018427387904) {i:Nat} {f:Fl} (hpre:∀ (j:Nat) (y:Fl),j<i→c.fs[j]? = some y→(y.nm==nm)=false) (hf:c.fs[i]? = some f) (he:f.nm=nm):
  PSpec Tryz.prog X 134 [Cx c fad fcap,Ls nm] (.tup [Sn .i64 (i:Nat),Sb true]):=
 fieldNamed_spec X c fad fcap nm hF hbig (i:Nat) (i:Nat) true (findI_some hpre hf (by rw [beq_iff_eq];exact he)) (if_neg (by omega)) (cL (by omega))
theorem pField_no (c:Cp) (fad:Option Addr) (fcap:Nat) (nm:List UInt8) (hF:FieldsIn X fad c.fs) (hbig:c.fs.length<4611686018427387904) (hno:∀ (j:Nat) (y:Fl),c.fs[j]? = some y→(y.nm==nm)=false):
  PSpec Tryz.prog X 134 [Cx c fad fcap,Ls nm] (.tup [Sn .i64 0,Sb false]):=
 fieldNamed_spec X c fad fcap nm hF hbig (-1) 0 false (findI_none hno) rfl (cK (by decide))
end Go.Proofs.YtopiioklkkiedaaGreatDoor
end
section
namespace Go.Lg.Fld
open Go Go.Lg
def idsV (cs:List Cp):List Value:=cs.map fun c=>.int .i64 c.id
end Go.Lg.Fld
namespace Go.Proofs.YtopiioklkkiedaaGreatDoor
open Go Go.Lg Go.Lg.Fld
set_option maxRecDepth 100000
variable (X:Nat→Option Obj)
theorem pIds (ver:Int) (ad:Option Addr) (cap:Nat) (cs:List Cp) (hin:CompsIn X ad cs) (hS:cs.length≤65536):MSpec Tryz.prog X 87 [Sx ver ad cs.length cap] [] (.sv (.one (.slc 1000001 0 cs.length))) [(1000001,some ⟨3,(idsV cs).map .val,false⟩)]:=by
 refine cD Tryz.func87 rfl (by kernel_rfl) rfl rfl (by exact (by repeat' (first|refine bS ?_ ?_|rfl|exact bU|exact bT|exact bV rfl))) rfl rfl ?_
 intro C
 have hmk:slcBuild Tryz.prog 103 cs.length=some (List.replicate cs.length (.int .i64 0),1,3):=slcBuild_one (by kernel_rfl) (by kernel_rfl) (by omega)
 (refine aA<|rgN<|aL O O O dO<|kas O<|aB<|aA<|rgN<|kfa O O ?_;refine kl1 O O O<|aQ O bZ O dO ?_;refine K.makeSlc (m:=cs.length) (bytes:=8) O O hmk (by kernel_rfl) (by omega) O O dO<|kas O<|aB<|aA<|aA<|rgN<|kfa O O ?_;refine kl1 O O O<|aQ O bZ O dO ?_;refine kmv O<|aB<|aG ?_)
 refine cG (fun m σ=>∃ i:Nat,i≤cs.length∧m=cs.length-i∧σ=⟨[(3,.sv (.one (.slc 9 0 cs.length))),(11,Lx ad cs.length cap),(12,Ln .i64 (cs.length:Nat)),(13,Ln .i64 (i:Nat))],[(9,some ⟨3,(idsV (cs.take i)++List.replicate (cs.length-i) (Value.int .i64 0)).map .val,false⟩)],X⟩) cs.length
  ⟨_,Le.of (by exact ⟨rfl,rfl,rfl,rfl,trivial⟩) (by exact ⟨rfl,trivial⟩) (by exact rfl) (by exact rfl) (by repeat' (first|refine bS ?_ ?_|rfl|exact bU|exact bT|exact bV rfl)),0,by omega,by omega,rfl⟩ ?_
 rintro m σ ⟨i,hi,rfl,rfl⟩
 by_cases hlt:i<cs.length
 ·obtain ⟨c,hc⟩:∃ c,cs[i]? = some c:=⟨_,cU hlt⟩
  obtain ⟨blk,off,arr,el,fr,fad,fcap,rfl,hX,hsz,hcs,_,_,_,hF⟩:=hin.get hc
  have hio:off+Int.toNat (i:Int)*3=off+i*3:=by simp
  have hix:0+Int.toNat (i:Int)*1=i:=by rw [dD];omega
  have hil:(idsV (cs.take i)).length=i:=by unfold idsV;rw [cT,cW];omega
  have hroom:i+1≤((idsV (cs.take i)++List.replicate (cs.length-i) (Value.int .i64 0)).map CV.val).length:=by rw [cT,cS,hil,dA];omega
  have hspl:splice ((idsV (cs.take i)++List.replicate (cs.length-i) (Value.int .i64 0)).map CV.val) i [.val (.int .i64 c.id)]=(idsV (cs.take (i+1))++List.replicate (cs.length-(i+1)) (Value.int .i64 0)).map CV.val:=by
   unfold splice
   rw [show cs.length-i=(cs.length-(i+1))+1 by omega,List.replicate_succ,take_snoc hc]
   have e:idsV (cs.take i++[c])=idsV (cs.take i)++[.int .i64 c.id]:=by unfold idsV;rw [dE];rfl
   rw [e]
   simp only [dE,dJ]
   have hml:((idsV (cs.take i)).map CV.val).length=i:=by rw [cT,hil]
   generalize (idsV (cs.take i)).map CV.val=R at *
   rw [← hml,List.take_left,List.drop_length_add_append]
   simp
  (refine aA<|rgN<|klt O O (cL (by omega))<|aB<|aA<|aE O ?_;refine aH ?_;refine aA<|aG<|aA<|rgN<|kmv O<|aR O O bZ (by omega) hio dO<|aY O hX (by kernel_rfl) hsz hcs dO<|aP O dO ?_;refine kas O<|aM O O O O O O dO ?_;refine aB<|rgN<|kmv O<|kmv O<|kfa O O ?_;refine kl1 O O O<|K.indexSlc O O (by omega) hix dO ?_;refine K.store O O O O (by kernel_rfl) hroom hspl dO<|aB<|rgN<|kad O O (cE (by omega))<|kmv O<|aB ?_)
  exact ⟨_,_,by omega,Le.of (by exact ⟨O,O,O,O,trivial⟩) (by exact ⟨O,trivial⟩) (by exact O) (by exact O) (by repeat' (first|refine bS ?_ ?_|rfl|exact bU|exact bT|exact bV O)),i+1,by omega,O,O⟩
 ·have e:i=cs.length:=by omega
  subst e
  rw [dC,Nat.sub_self,List.replicate_zero,dG]
  (refine aA<|rgN<|klt O O (cK (by omega))<|aB<|aA<|aF O ?_;refine aJ<|aA<|rgN<|kmv O<|kas O<|aB<|aI ?_)
  exact ⟨[(1000001,9)],⟨[_],⟨rfl,trivial⟩,rfl⟩,(by repeat' (first|exact trivial|refine cM ⟨_,rfl,?_⟩ ?_|refine cM ⟨_,rfl⟩ ?_|rfl|exact bW _ _ _ _|exact bX _ _ _ _|exact bY rfl)),rfl,rfl⟩
end Go.Proofs.YtopiioklkkiedaaGreatDoor
end
section
namespace Go.Lg.Fld
open Go Go.Lg
theorem rowsZ_app:∀ {a b:List Cp} {u v:List Value},u.length=a.length→rowsZ (a++b) (u++v)=rowsZ a u++rowsZ b v
 | [],_,[],_,_=>rfl
 | _::a,b,_::u,v,h=>by
  simp only [dF] at h
  simp only [List.cons_append,rowsZ]
  rw [rowsZ_app (a:=a) (b:=b) (u:=u) (v:=v) (by omega)]
 | [],_,_::_,_,h=>by simp at h
 | _::_,_,[],_,h=>by simp at h
theorem joinM_has {C:Ctx} {Y H:Nat→Option Obj} (hO:OwnedM C Y H) {b:Nat} {o:Obj} (h:Y b=some o):joinM Y H b=some o:=by
 cases hb:H b with
 | none=>rw [joinM_out hb];exact h
 | some o'=>have:=(hO.own b o' hb).2.2;rw [this] at h;cases h
def zer (k:Nat):List Value:=(List.replicate k [Value.int .i64 0,Value.string ⟨#[]⟩,Value.slice none 0 0]).flatten
theorem zer_succ (k:Nat):zer (k+1)=[Value.int .i64 0,Value.string ⟨#[]⟩,Value.slice none 0 0]++zer k:=by unfold zer;rw [List.replicate_succ,List.flatten_cons]
theorem zer_len (k:Nat):(zer k).length=k*3:=by
 induction k with
 | zero=>rfl
 | succ k ih=>rw [zer_succ,cS,ih];simp;omega
theorem rowsZ_snoc {cs:List Cp} {cells:List Value} {i:Nat} {c:Cp} {v:Value} (hl:cells.length=i) (hc:cs[i]? = some c):rowsZ (cs.take (i+1)) (cells++[v])=rowsZ (cs.take i) cells++[.int .i64 c.id,.string ⟨c.nm.toArray⟩,v]:=by
 rw [take_snoc hc,rowsZ_app (by rw [cW];have:=(List.getElem?_eq_some_iff.1 hc).1;omega)];rfl
def idM (ns:List Int):List (Value×Value):=ns.map fun x=>(.int .i64 x,.agg #[])
theorem idM_at (ns:List Int) (x:Int):At (idM ns) (.int .i64 x) (.agg #[]) (.agg #[]):=by
 by_cases h:x∈ns
 ·exact .inl (List.mem_map.2 ⟨x,h,rfl⟩)
 ·refine .inr ⟨fun p hp e => ?_,rfl⟩
  obtain ⟨y,hy,rfl⟩:=List.mem_map.1 hp
  simp only [Value.int.injEq,true_and] at e
  exact h (e▸hy)
theorem idM_any (ns:List Int) (x:Int) (r:Bool) (hr:ns.any (fun m=>m==x)=r):r=true↔∃ p∈idM ns,p.1 = .int .i64 x:=by
 subst hr
 rw [List.any_eq_true]
 constructor
 ·rintro ⟨m,hm,he⟩
  rw [beq_iff_eq] at he
  subst he
  exact ⟨_,List.mem_map.2 ⟨m,hm,O⟩,O⟩
 ·rintro ⟨p,hp,e⟩
  obtain ⟨y,hy,rfl⟩:=List.mem_map.1 hp
  simp only [Value.int.injEq,true_and] at e
  exact ⟨y,hy,by rw [beq_iff_eq];exact e⟩
theorem idM_put {ns:List Int} {x:Int} (h:ns.any (fun m=>m==x)=false):Put (idM ns) (.int .i64 x) (.agg #[]) (idM (ns++[x])):=by
 refine .inr ⟨fun p hp e => ?_,by unfold idM;rw [dE];rfl⟩
 obtain ⟨y,hy,rfl⟩:=List.mem_map.1 hp
 simp only [Value.int.injEq,true_and] at e
 rw [List.any_eq_false] at h
 exact h y hy (by rw [beq_iff_eq];exact e)
theorem fields_none {X:Nat→Option Obj} {ad:Option Addr} {fs:List Fl} (h:fs=[]):FieldsIn X ad fs:=by
 subst h
 exact ⟨fun k r hr=>(by simp at hr),fun f hf=>(by cases hf)⟩
theorem lent_fields {S:Nat→Option (Option Box)} {Y:Nat→Option Obj} {k n:Nat} {el:TypeId} {row:Bool} {fs:List Fl} {u:Value} (hk:S k=some (some ⟨el,(flV fs).map .val,row⟩)) (hs:∀ f∈fs,(-9223372036854775808≤f.kind∧f.kind<9223372036854775808)∧(-9223372036854775808≤f.count∧f.count<9223372036854775808)) (h:LentC S Y (.slc k 0 n 3) u):
  ∃ (fa:Addr) (fcap:Nat),u = .slice (some fa) n fcap∧FieldsIn Y (some fa) fs:=by
 obtain ⟨b,blk,cap2,m,hk',rfl,hc,hfit,hB⟩:=h
 rw [hk] at hk'
 simp only [Option.some.injEq] at hk'
 subst hk'
 obtain ⟨arr,fr,us',sp,hYb,hsz,harr,hv⟩:=hB
 have:=hv _ rfl
 subst this
 exact ⟨⟨blk,0,none⟩,cap2,O,fields_block hYb harr hs⟩
end Go.Lg.Fld
namespace Go.Proofs.YtopiioklkkiedaaGreatDoor
open Go Go.Lg Go.Lg.Fld
set_option maxRecDepth 100000
section
variable {n:Nat} {C:Ctx} {X:Nat→Option Obj} {s:List (Nat×LV)} {bx:List (Nat×Option Box)} {k:Nat}
theorem sc_shut {Mid:St→Prop} {cs:List Cp} {H:Nat→Option Obj} {cells sp:List Value} (hO:OwnedM C X H) (G:Twigs H 83 3 [] cells (cs.map fun c=>flV c.fs)) (hb:InB cs)
  (h:Leads n C Mid ⟨s,scB k cs::bx,X⟩):Leads n C Mid ⟨s,(k,some ⟨24,(rowsZ cs cells++sp).map .val,false⟩)::bx,joinM X H⟩:=by
 refine Leads.closeRes (vals:=rowsZ cs cells++sp) hO (fun ρ fr h1 h2 h3 => ?_) h
 refine ⟨_,fr,cells,sp,cJ _ _ _,?_,?_,?_,hb⟩
 ·rw [h3];simp
 ·simp
 ·rw [cut_with h1];exact G
end
variable (X:Nat→Option Obj)
abbrev kcSt (ver:Int) (ad:Option Addr) (n cap i:Nat) (rows:List Value) (Y:Nat→Option Obj):St:=
 ⟨[(1,Lp 1),(2,Lp 2),(3,.sv (.one (.slc 9 0 n 3))),(11,Lx ad n cap),(12,Ln .i64 (n:Nat)),(13,Ln .i64 (i:Nat))],[(9,some ⟨24,rows.map .val,false⟩),sxB 1 ver ad n cap,(2,some ⟨33,[.val (.int .i64 0),.val (.slice none 0 0)],false⟩)],Y⟩
theorem fit_lent {S:Nat→Option (Option Box)} {k:Nat} {fs:List Fl} {vad:Option Addr} {vcap:Nat} {ns:List (Bool×Int)} {el:TypeId} {row:Bool} {e:Int} (hs:∀ f∈fs,(-9223372036854775808≤f.kind∧f.kind<9223372036854775808)∧(-9223372036854775808≤f.count∧f.count<9223372036854775808)) (hbig:fs.length<4611686018427387904) (hns:NumsIn X vad ns)
  (hk:S k=some (some ⟨el,(flV fs).map .val,row⟩)) (he:fitErr fs ns=e):
  ∀ (Y:Nat→Option Obj) (us:List Value),(∀ b o,X b=some o→Y b=some o)→LentLs S Y [.sv (.one (.slc k 0 fs.length 3)),Lx vad ns.length vcap] us→PSpec Tryz.prog Y 65 (us.map toLV) (Ln .i64 e):=by
 intro Y us hY hL
 obtain ⟨u1,us1,rfl,h1,u2,us2,rfl,h2,rfl⟩:=hL
 have h2:u2 = .slice vad ns.length vcap:=h2
 subst h2
 obtain ⟨fa,fcap,rfl,hF⟩:=lent_fields hk hs h1
 subst he
 exact lFit_any Y (some fa) vad fcap vcap fs ns hF hbig ⟨hns.rows.mono hY,hns.in2⟩
theorem pPartBig (ver:Int) (ad vad:Option Addr) (cap vcap:Nat) (cs:List Cp) (p:Pt) (hin:CompsIn X ad cs) (hbig:cs.length<4611686018427387904) (hfs:∀ c∈cs,c.fs.length≤4398046511104) (hns:NumsIn X vad p.val) (e:Int) (he:partE cs p=e):
  PSpec Tryz.prog X 56 [Sx ver ad cs.length cap,Px p vad vcap] (Ln .i64 e):=by
 subst he
 refine cC Tryz.func56 rfl (by kernel_rfl) rfl rfl ?_
 intro C
 unfold partE
 rcases find_cases cs p.comp with ⟨i,c,hc,he,hpre⟩|hno
 ·rw [find_at hpre hc he]
  have hfb:=hfs c (cZ hc)
  rcases pFind X ver ad cap cs p.comp hin hbig hfs hpre hc he with ⟨h0,hF⟩|hF
  ·have hR:=lFit_any X none vad 0 vcap c.fs p.val (fields_none h0) (by omega) hns
   simp only
   generalize fitErr c.fs p.val=e at *
   (refine aA<|rgN<|aL O O O dO<|aL O O O dO<|kas O<|aB<|aA<|rgN<|aK O O O dO ?_;refine kfa O O ?_;refine kl1 O O O<|kca O O hF<|kmv O<|kex O O<|kex O O<|aP O dO ?_;refine aM O O O O O O dO ?_;refine kas O<|aB<|aA<|aA<|rgN<|kmv O<|aV O O dO<|aB<|aF O ?_;refine aH ?_;refine aA<|rgN<|kfa O O ?_;refine kl1 O O O<|kfa O O ?_;refine kl1 O O O<|kca O O (hR)<|kas O<|aB<|aI ?_)
   exact ⟨[_],⟨O,trivial⟩,O⟩
  ·obtain ⟨_,_,_,_,_,_,_,_,_,_,_,_,_,_,hFs⟩:=hin.get hc
   have hR:=fun (S:Nat→Option (Option Box)) (hk:S 20=some (some ⟨83,(flV c.fs).map .val,true⟩))=>fit_lent X (S:=S) (k:=20) (vcap:=vcap) hFs.small (by omega) hns hk rfl
   simp only
   generalize fitErr c.fs p.val=e at *
   (refine aA<|rgN<|aL O O O dO<|aL O O O dO<|kas O<|aB<|aA<|rgN<|aK O O O dO ?_;refine kfa O O ?_;refine kl1 O O O<|bE [(1000001,20)] (.tup [SCs c 20,Sb true]) [fdB 20 c.fs] (hF) O O (by exact trivial) O O O O O (by exact (.box O (bX _ _ _ _) .nil)) dO<|kmv O<|kex O O<|kex O O<|aP O dO ?_;refine aM O O O O O O dO ?_;refine kas O<|aB<|aA<|aA<|rgN<|kmv O<|aV O O dO<|aB<|aF O ?_;refine aH ?_;refine aA<|rgN<|kfa O O ?_;refine kl1 O O O<|kfa O O ?_;refine kl1 O O O<|K.callL [20] O O O (hR _ O) dO ?_;refine kas O<|aB<|aI ?_)
   exact ⟨[_],⟨O,trivial⟩,O⟩
 ·rw [find_no hno]
  have hF:=pFind_no X ver ad cap cs p.comp hin hbig hno
  (refine aA<|rgN<|aL O O O dO<|aL O O O dO<|kas O<|aB<|aA<|rgN<|aK O O O dO ?_;refine kfa O O ?_;refine kl1 O O O<|kca O O hF<|kmv O<|kex O O<|kex O O<|aP O dO ?_;refine aM O O O O O O dO ?_;refine kas O<|aB<|aA<|aA<|rgN<|kmv O<|aV O O dO<|aB<|aE O ?_;refine aA<|rgN<|kas O<|aB<|aI ?_)
  exact ⟨[_],⟨O,trivial⟩,O⟩
abbrev idBx (k:Nat) (ns:List Int):Nat×Option Box:=(k,some ⟨0,[],.res (mapR Tryz.prog 3 (idM ns))⟩)
set_option maxHeartbeats 3200000 in
theorem pPartsBig (ver:Int) (ad pad:Option Addr) (cap pcap:Nat) (cs:List Cp) (ps:List Pt) (hin:CompsIn X ad cs) (hbig:cs.length<4611686018427387904) (hfs:∀ c∈cs,c.fs.length≤4398046511104) (hps:PartsIn X pad ps) (hpb:ps.length<4611686018427387904) (e:Int) (he:partsE cs ps=e):
  PSpec Tryz.prog X 23 [Sx ver ad cs.length cap,Lx pad ps.length pcap] (Ln .i64 e):=by
 subst he
 refine cC Tryz.func23 rfl (by kernel_rfl) rfl rfl ?_
 intro C
 (refine aA<|rgN<|aL O O O dO<|kas O<|aB<|aA<|rgN<|K.makeMap 3 O dO ?_;refine kas O<|aB<|aA<|aA<|rgN<|kmv O<|aQ O bZ O dO ?_;refine kmv O<|aB<|aG ?_)
 refine cG (fun m σ=>∃ i:Nat,i≤ps.length∧m=ps.length-i∧(∀ j,0≤j→j<i→ptE cs ps j=0)∧σ=⟨[(2,Lp 2),(5,Lmp 11),(12,Lx pad ps.length pcap),(13,Ln .i64 (ps.length:Nat)),(14,Ln .i64 (i:Nat))],[sxB 2 ver ad cs.length cap,idBx 11 ((ps.take i).map Pt.comp)],X⟩) ps.length
  ⟨_,Le.of (by exact ⟨rfl,rfl,rfl,rfl,rfl,trivial⟩) (by exact ⟨rfl,rfl,trivial⟩) (by exact rfl) (by exact rfl) (by repeat' (first|refine bS ?_ ?_|rfl|exact bU|exact bT|exact bV rfl)),0,by omega,by omega,fun j _ hj=>absurd hj (by omega),rfl⟩ ?_
 rintro m σ ⟨i,hi,rfl,hpre,rfl⟩
 by_cases hlt:i<ps.length
 ·obtain ⟨p,hp⟩:∃ p,ps[i]? = some p:=⟨_,cU hlt⟩
  obtain ⟨blk,off,arr,el,fr,vad,vcap,rfl,hX,hsz,hcs,_,_,hN⟩:=hps.get hp
  have hio:off+Int.toNat (i:Int)*2=off+i*2:=by simp
  have hE:=ptE_at (cs:=cs) hp
  have hsm:=hps.small p (cZ hp)
  have hkey:Go.keyOf Tryz.prog 3 (.int .i64 p.comp)=some (.int .i64 p.comp):=by
   rw [keyOf_int (q:=.i64) (by kernel_rfl)]
   unfold mapKey
   rw [show Tryz.prog.underlying 3=some (.int .i64) by kernel_rfl]
   have hw:(Lit.int .i64 p.comp).wf=true:=by
    show (decide (IntKind.i64.min≤p.comp)&&decide (p.comp≤IntKind.i64.max))=true
    rw [show IntKind.i64.min = -9223372036854775808 from rfl,show IntKind.i64.max=9223372036854775807 from rfl,cL hsm.1,cL (show p.comp≤9223372036854775807 by omega)];rfl
   simp [hw]
  have hat:=idM_at ((ps.take i).map Pt.comp) p.comp
  have hP:=pPartBig X ver ad vad cap vcap cs p hin hbig hfs hN (partE cs p) rfl
  have hany:((ps.take i).map Pt.comp).any (fun m=>m==p.comp)=(ps.take i).any (fun g=>g.comp==p.comp):=by rw [List.any_map];rfl
  have hts:(ps.take (i+1)).map Pt.comp=(ps.take i).map Pt.comp++[p.comp]:=by rw [take_snoc hp,dE];rfl
  cases hin2:(ps.take i).any (fun g=>g.comp==p.comp) with
  | true =>
   rw [hin2] at hE hany
   rw [if_pos rfl] at hE
   rw [show partsE cs ps=1 from firstE_some hpre (Nat.zero_le _) (by omega) hE (by decide)]
   have hr:=idM_any _ p.comp true hany
   generalize (ps.take i).map Pt.comp=ns at *
   (refine aA<|rgN<|klt O O (cL (by omega))<|aB<|aA<|aE O ?_;refine aH ?_;refine aA<|aG<|aA<|rgN<|aR O O bZ (by omega) hio dO<|aY O hX (by kernel_rfl) hsz hcs dO<|aP O dO ?_;refine aM O O O O O O dO ?_;refine aB<|aA<|aA<|rgN<|kmv O<|kfa O O ?_;refine kl1 O O O<|K.lookupOk (et:=132) (.agg []) (v:=.agg #[]) (z:=.agg #[]) O O O (by kernel_rfl) (KL.int (q:=.i64) (by kernel_rfl)) hkey (by kernel_rfl) hat agg0_rel hr dO ?_;refine kmv O<|kex O O<|kex O O<|aP O dO ?_;refine aM O O O O O O dO ?_;refine kas O<|aB<|aA<|rgN<|kmv O<|aB<|aE O ?_;refine aA<|rgN<|kas O<|aB<|aI ?_)
   exact ⟨[_],⟨O,trivial⟩,O⟩
  | false =>
   rw [hin2] at hE hany
   rw [if_neg (by decide)] at hE
   have hr:=idM_any _ p.comp false hany
   have hput:=idM_put hany
   rw [← hts] at hput
   generalize (ps.take i).map Pt.comp=ns at *
   generalize hns:(ps.take (i+1)).map Pt.comp=ns' at *
   by_cases he0:partE cs p=0
   ·rw [he0] at hP hE
    (refine aA<|rgN<|klt O O (cL (by omega))<|aB<|aA<|aE O ?_;refine aH ?_;refine aA<|aG<|aA<|rgN<|aR O O bZ (by omega) hio dO<|aY O hX (by kernel_rfl) hsz hcs dO<|aP O dO ?_;refine aM O O O O O O dO ?_;refine aB<|aA<|aA<|rgN<|kmv O<|kfa O O ?_;refine kl1 O O O<|K.lookupOk (et:=132) (.agg []) (v:=.agg #[]) (z:=.agg #[]) O O O (by kernel_rfl) (KL.int (q:=.i64) (by kernel_rfl)) hkey (by kernel_rfl) hat agg0_rel hr dO ?_;refine kmv O<|kex O O<|kex O O<|aP O dO ?_;refine aM O O O O O O dO ?_;refine kas O<|aB<|aA<|rgN<|kmv O<|aB<|aF O ?_;refine aH ?_;refine aA<|rgN<|kmv O<|kfa O O ?_;refine kl1 O O O<|aT O O (by exact O) (by exact nl0 O) dO ?_;refine K.mapPut (et:=132) (idM ns') O O O O (by kernel_rfl) (KL.int (q:=.i64) (by kernel_rfl)) hkey hput dO ?_;refine aB<|aA<|rgN<|aK O O O dO ?_;refine aK O O O dO ?_;refine kca O O hP<|kas O<|aB<|aA<|rgN<|kmv O<|kne O O ((cO (by omega)))<|aB<|aF O ?_;refine aH ?_;refine rgN<|kad O O (cE (by omega))<|kmv O<|aB ?_)
    subst hns
    exact ⟨_,_,by omega,Le.of (by exact ⟨O,O,O,O,O,trivial⟩) (by exact ⟨O,O,trivial⟩) (by exact O) (by exact O) (by repeat' (first|refine bS ?_ ?_|rfl|exact bU|exact bT|exact bV O)),i+1,by omega,O,(fun j h0 hj=>by
     by_cases e:j=i
     ·rw [e];exact hE
     ·exact hpre j h0 (by omega)),rfl⟩
   ·rw [show partsE cs ps=partE cs p from firstE_some hpre (Nat.zero_le _) (by omega) hE he0]
    have hne:(partE cs p != 0)=true:=by rw [bne_iff_ne];exact he0
    generalize partE cs p=E at *
    (refine aA<|rgN<|klt O O (cL (by omega))<|aB<|aA<|aE O ?_;refine aH ?_;refine aA<|aG<|aA<|rgN<|aR O O bZ (by omega) hio dO<|aY O hX (by kernel_rfl) hsz hcs dO<|aP O dO ?_;refine aM O O O O O O dO ?_;refine aB<|aA<|aA<|rgN<|kmv O<|kfa O O ?_;refine kl1 O O O<|K.lookupOk (et:=132) (.agg []) (v:=.agg #[]) (z:=.agg #[]) O O O (by kernel_rfl) (KL.int (q:=.i64) (by kernel_rfl)) hkey (by kernel_rfl) hat agg0_rel hr dO ?_;refine kmv O<|kex O O<|kex O O<|aP O dO ?_;refine aM O O O O O O dO ?_;refine kas O<|aB<|aA<|rgN<|kmv O<|aB<|aF O ?_;refine aH ?_;refine aA<|rgN<|kmv O<|kfa O O ?_;refine kl1 O O O<|aT O O (by exact O) (by exact nl0 O) dO ?_;refine K.mapPut (et:=132) (idM ns') O O O O (by kernel_rfl) (KL.int (q:=.i64) (by kernel_rfl)) hkey hput dO ?_;refine aB<|aA<|rgN<|aK O O O dO ?_;refine aK O O O dO ?_;refine kca O O hP<|kas O<|aB<|aA<|rgN<|kmv O<|kne O O hne<|aB<|aE O ?_;refine aA<|rgN<|kmv O<|kas O<|aB<|aI ?_)
    exact ⟨[_],⟨O,trivial⟩,O⟩
 ·rw [show partsE cs ps=0 from firstE_none fun j h0 hj=>hpre j h0 (by omega)]
  (refine aA<|rgN<|klt O O (cK (by omega))<|aB<|aA<|aF O ?_;refine aJ<|aA<|rgN<|kas O<|aB<|aI ?_)
  exact ⟨[_],⟨O,trivial⟩,O⟩
end Go.Proofs.YtopiioklkkiedaaGreatDoor
end
section
namespace Go.Proofs.YtopiioklkkiedaaGreatDoor
open Go Go.Lg Go.Lg.Fld
set_option maxRecDepth 100000
theorem rows_in {Y:Nat→Option Obj} {blk:Nat} {arr:Array Value} {el:TypeId} {fr:Nat×Nat} {sz:Nat} {rows:List (List Value)} (hY:Y blk=some (.cells arr el fr)) (hl:∀ r∈rows,r.length=sz) (hsp:∃ sp,arr.toList=rows.flatten++sp):Go.Lg.RowsIn Y (some ⟨blk,0,none⟩) sz rows:=fun i r hi=>by
 obtain ⟨sp,e⟩:=hsp
 obtain ⟨h1,h2⟩:=flat_row hl (sp:=sp) hi
 refine ⟨blk,0,arr,el,fr,O,hY,?_,?_⟩
 ·rw [← Array.length_toList,e];omega
 ·rw [e,Nat.zero_add];exact h2
theorem nums_in {Y:Nat→Option Obj} {blk:Nat} {arr:Array Value} {el:TypeId} {fr:Nat×Nat} {zs:List Int} (hY:Y blk=some (.cells arr el fr)) (h:∀ z∈zs,R127 z) (hsp:∃ sp,arr.toList=nsV zs++sp):NumsIn Y (some ⟨blk,0,none⟩) (zs.map qn):=
 ⟨rows_in hY (fun r hr=>by obtain ⟨n,_,rfl⟩:=List.mem_map.1 hr;rfl) (by
  obtain ⟨sp,e⟩:=hsp
  exact ⟨sp,by rw [e,List.map_map];rfl⟩),nums_in2 h⟩
variable (X:Nat→Option Obj)
end Go.Proofs.YtopiioklkkiedaaGreatDoor
end
section
namespace Go.Lg.Fld
open Go Go.Lg
end Go.Lg.Fld
namespace Go.Proofs.YtopiioklkkiedaaGreatDoor
open Go Go.Lg Go.Lg.Fld
set_option maxRecDepth 100000
variable (X:Nat→Option Obj)
def cs0:List Cp:=[⟨1,[112,111,115],[⟨[120],3,1⟩,⟨[121],3,1⟩]⟩,⟨3,[116,97,103],[]⟩]
end Go.Proofs.YtopiioklkkiedaaGreatDoor
end
section
namespace Go.Lg.Fld
open Go Go.Lg
def Scan {α:Type} (p:α→Bool) (l:List α) (k:Nat) (v:Int):Prop:=(v = -1∧∀ (m:Nat) (y:α),k≤m→l[m]? = some y→p y=false)∨∃ (i:Nat) (c:α),v=(i:Nat)∧l[i]? = some c∧p c=true∧∀ (m:Nat) (y:α),k≤m→m<i→l[m]? = some y→p y=false
end Go.Lg.Fld
namespace Go.Proofs.YtopiioklkkiedaaGreatDoor
open Go Go.Lg Go.Lg.Fld
set_option maxRecDepth 100000
variable (X:Nat→Option Obj)
end Go.Proofs.YtopiioklkkiedaaGreatDoor
end
section
namespace Go.Lg.Fld
open Go Go.Lg
structure Good (cs:List Cp):Prop where
 one:∀ (i:Nat) (c:Cp),cs[i]? = some c→1≤c.id∧c.id≤24∧nmB c.nm=true∧firstE (fldE c.fs) 0 c.fs.length=0∧layErr c.fs=0
 two:∀ (i j:Nat) (c d:Cp),i<j→cs[i]? = some c→cs[j]? = some d→c.id<d.id∧c.nm≠d.nm
theorem good_of {cs:List Cp} (h:firstE (cmpE cs) 0 cs.length=0):Good cs:=by
 have h0:∀ (i:Nat) (c:Cp),cs[i]? = some c→¬(c.id<1∨24<c.id∨(0<i∧c.id≤prevId cs i))∧nmB c.nm=true∧(cs.take i).any (fun g=>g.nm==c.nm)=false∧firstE (fldE c.fs) 0 c.fs.length=0∧layErr c.fs=0:=fun i c hc=>by
  have hi:=(List.getElem?_eq_some_iff.1 hc).1
  have h1:=firstE_zero h i (Nat.zero_le _) (by omega)
  rw [cmpE_at hc] at h1
  by_cases b1:c.id<1∨24<c.id∨(0<i∧c.id≤prevId cs i)
  ·rw [if_pos b1] at h1;cases h1
  ·rw [if_neg b1] at h1
   by_cases b2:nmB c.nm=true
   ·rw [if_pos b2] at h1
    by_cases b3:(cs.take i).any (fun g=>g.nm==c.nm)=true
    ·rw [if_pos b3] at h1;cases h1
    ·rw [if_neg b3] at h1
     by_cases b4:firstE (fldE c.fs) 0 c.fs.length=0
     ·rw [if_pos b4] at h1
      exact ⟨b1,b2,by simpa using b3,b4,h1⟩
     ·rw [if_neg b4] at h1;cases h1
   ·rw [if_neg b2] at h1;cases h1
 refine ⟨fun i c hc => ?_,fun i j c d hij hc hd=>⟨?_,fun e => ?_⟩⟩
 ·obtain ⟨h1,h2,_,h4,h5⟩:=h0 i c hc
  exact ⟨by omega,by omega,h2,h4,h5⟩
 ·obtain ⟨k,rfl⟩:∃ k,j=i+1+k:=⟨j-(i+1),by omega⟩
  induction k generalizing d with
  | zero =>
   obtain ⟨h1,_⟩:=h0 _ d hd
   have hp:cs[i+1+0-1]? = some c:=hc
   have:=prev_at hp
   omega
  | succ k ih =>
   obtain ⟨d',hd'⟩:∃ d',cs[i+1+k]? = some d':=⟨_,cU (by have:=(List.getElem?_eq_some_iff.1 hd).1;omega)⟩
   have h2:=ih d' (by omega) hd'
   obtain ⟨h1,_⟩:=h0 _ d hd
   have hp:cs[i+1+(k+1)-1]? = some d':=hd'
   have:=prev_at hp
   omega
 ·obtain ⟨_,_,h3,_⟩:=h0 j d hd
  have:=any_true (p:=fun g:Cp=>g.nm==d.nm) hij hc (by rw [beq_iff_eq];exact e)
  rw [h3] at this;cases this
end Go.Lg.Fld
end
section
namespace Go.Lg.Fld
open Go Go.Lg
theorem fields_apart {fs:List Fl} (h:firstE (fldE fs) 0 fs.length=0) {i j:Nat} {f g:Fl} (hij:i<j) (hf:fs[i]? = some f) (hg:fs[j]? = some g):f.nm≠g.nm:=fun e=>by
 have h1:=firstE_zero h j (Nat.zero_le _) (by have:=(List.getElem?_eq_some_iff.1 hg).1;omega)
 rw [fldE_at hg] at h1
 have:=any_true (p:=fun x:Fl=>x.nm==g.nm) hij hf (by rw [beq_iff_eq];exact e)
 rw [this] at h1
 split at h1<;>cases h1
end Go.Lg.Fld
end
section
namespace Go.Lg.Fld
open Go Go.Lg
structure Ch where
 kind:Int
 comp:Int
 fld:List UInt8
instance:DecidableEq Ch:=fun a b=>decidable_of_iff (a.kind=b.kind∧a.comp=b.comp∧a.fld=b.fld) ⟨fun ⟨h1,h2,h3⟩=>by cases a;cases b;simp_all,fun h=>by rw [h];exact ⟨rfl,rfl,rfl⟩⟩
def fldAt (fs:List Fl) (nm:List UInt8):Option Fl:=fs.find? fun f=>f.nm==nm
def fldIx (fs:List Fl) (nm:List UInt8):Int:=findI (fun f=>f.nm==nm) fs
theorem fldIx_some {fs:List Fl} {nm:List UInt8} (h:0≤fldIx fs nm):∃ (k:Nat) (g:Fl),fs[k]? = some g∧g.nm=nm∧fldIx fs nm=(k:Nat)∧fldAt fs nm=some g∧∀ (j:Nat) (y:Fl),j<k→fs[j]? = some y→y.nm≠nm:=by
 unfold fldIx findI at h
 cases hf:fs.findIdx? (fun f=>f.nm==nm) with
 | none=>rw [hf] at h;simp only at h;omega
 | some k =>
  obtain ⟨hk,h1,h2⟩:=List.findIdx?_eq_some_iff_getElem.1 hf
  refine ⟨k,fs[k],cU hk,by simpa using h1,by unfold fldIx findI;rw [hf],?_,fun j y hj hy => ?_⟩
  ·unfold fldAt
   rw [List.find?_eq_some_iff_getElem]
   exact ⟨h1,k,hk,O,fun j hj=>by simpa using h2 j hj⟩
  ·obtain ⟨hj',e⟩:=List.getElem?_eq_some_iff.1 hy
   have:=h2 j hj
   rw [e] at this
   simpa using this
end Go.Lg.Fld
end
section
namespace Go.Lg.Fld
open Go Go.Lg
def Apart (fs:List Fl):Prop:=fs.Pairwise fun f g=>f.nm≠g.nm
end Go.Lg.Fld
end
section
namespace Go.Lg.Fld
open Go Go.Lg
def Ch.vals (x:Ch):List Value:=[.int .i64 x.kind,.int .i64 x.comp,.string ⟨x.fld.toArray⟩]
end Go.Lg.Fld
namespace Go.Proofs.YtopiioklkkiedaaGreatDoor
open Go Go.Lg Go.Lg.Fld
set_option maxRecDepth 100000
variable (X:Nat→Option Obj)
end Go.Proofs.YtopiioklkkiedaaGreatDoor
end
section
namespace Go.Proofs.YtopiioklkkiedaaGreatDoor
open Go Go.Lg Go.Lg.Fml
abbrev Nm:=Bool×Int
def gd (n:Nm):Bool:=formB n.1 n.2
def zz (n:Nm):Int:=zv n.1 n.2
def okI (x:Ins):Bool:=(decide (1≤x.op)&&decide (x.op≤17))&&(gd x.k&&((decide (0≤x.a)&&decide (x.a≤7))&&(decide (0≤x.b)&&decide (x.b≤7))))
theorem okI_facts {x:Ins} (h:okI x=true):(1≤x.op∧x.op≤17)∧gd x.k=true∧(0≤x.a∧x.a≤7)∧(0≤x.b∧x.b≤7):=by
 unfold okI at h
 simp only [Bool.and_eq_true,decide_eq_true_eq] at h
 exact ⟨h.1,h.2.1,h.2.2.1,h.2.2.2⟩
def chkX (l:List Ins):Int:=if 64<l.length then 5 else if dep okI 0 l=some 1 then 0 else 4
theorem chkX_zero {l:List Ins} (h:chkX l=0):l.length≤64∧dep okI 0 l=some 1:=by
 unfold chkX at h
 split at h
 ·cases h
 ·split at h
  ·rename_i h1 h2;exact ⟨by omega,h2⟩
  ·cases h
theorem dep_ok {okJ:Ins→Bool}:∀ {l:List Ins} {n m:Nat},dep okJ n l=some m→∀ x∈l,okJ x=true
 | [],_,_,_,x,hx=>by cases hx
 | y::l,n,m,h,x,hx=>by
  simp only [dep] at h
  split at h
  ·rename_i h1
   rcases List.mem_cons.1 hx with rfl|hx
   ·exact h1.1
   ·exact dep_ok h x hx
  ·cases h
theorem chkX_ok {l:List Ins} (h:chkX l=0):∀ x∈l,okI x=true:=dep_ok (chkX_zero h).2
theorem chkX_ne {l:List Ins} (h:chkX l=0):l≠[]:=fun e=>by
 have:=(chkX_zero h).2
 rw [e] at this
 cases this
def truth (b:Bool):Nm:=(false,if b then 1 else 0)
def elemX (fs:List (List Nm)) (a b:Int):Except Int Nm:=
 if a<0∨b<0 then .error 3 else match fs[a.toNat]? with
  | none=>.error 3
  | some r=>match r[b.toNat]? with
   | none=>.error 3
   | some v=>.ok v
def leafX (fs:List (List Nm)) (at_:Int) (x:Ins):Except Int Nm:=
 if x.op=1 then .ok x.k else if x.op=4 then (if at_<0 then .error 3 else .ok (false,at_)) else elemX fs x.a (if x.op=3 then at_ else x.b)
def arith (op x y:Int):Int:=if op=5 then x+y else if op=6 then x-y else if op=7 then x*y else if op=8 then x.tdiv y else x.tmod y
instance decR127 (z:Int):Decidable (R127 z):=by unfold R127;exact inferInstance
def doX (op:Int) (x y:Nm):Except Int Nm:=
 if (gd x&&gd y)=false then .error 1 else if 7<op∧zz y=0 then .error 1 else if R127 (arith op (zz x) (zz y)) then .ok (qn (arith op (zz x) (zz y))) else .error 3
def nodeX (op:Int):List Nm→Except Int Nm
 | [x]=>if gd x=false then .error 1 else if op=10 then .ok (qn (-(zz x))) else .ok (truth (decide (x=(false,0))))
 | [x,y]=>if 5≤op∧op≤9 then doX op x y
  else if op=17 then (if gd y=false then .error 1 else if y=(false,0) then .error 9 else .ok x)
  else if (gd x&&gd y)=false then .error 1
  else if op=11 then .ok (if zz y<zz x then y else x)
  else if op=12 then .ok (if zz x<zz y then y else x)
  else if op=13 then .ok (truth (decide (x=y)))
  else .ok (truth (decide (zz x<zz y)))
 | [x,y,z]=>if gd x=false then .error 1 else .ok (if x=(false,0) then z else y)
 | _=>.error 0
def oneX (fs:List (List Nm)) (at_:Int) (x:Ins) (a:List Nm):Except Int Nm:=if takes x.op=0 then leafX fs at_ x else nodeX x.op a
def lastX:Except Int (List Nm)→Except Int Nm
 | .error e=>.error e
 | .ok [v]=>if gd v=true then .ok v else .error 4
 | .ok _=>.error 4
def evX (l:List Ins) (fs:List (List Nm)) (at_:Int):Except Int Nm:=if chkX l=0 then lastX (run (oneX fs at_) l []) else .error (chkX l)
theorem evX_tree {l:List Ins} {t:Tr} {fs:List (List Nm)} {at_:Int} (h:chkX l=0) (ht:t.ok) (hl:t.flat=l):evX l fs at_=match t.ev (oneX fs at_) with | .error e=>.error e | .ok v=>if gd v=true then .ok v else .error 4:=by
 unfold evX
 rw [if_pos h,← hl,← dG t.flat,run_flat ht]
 cases t.ev (oneX fs at_) with
 | error e=>rfl
 | ok v=>rfl
def wordX (op:Int):List UInt8:=
 if op=5 then [97,100,100] else if op=6 then [115,117,98] else if op=7 then [109,117,108] else if op=8 then [113,117,111] else if op=9 then [114,101,109]
 else if op=10 then [110,101,103] else if op=11 then [108,101,97,115,116] else if op=12 then [103,114,101,97,116] else if op=13 then [115,97,109,101]
 else if op=14 then [108,101,115,115] else if op=15 then [110,111,116] else if op=16 then [112,105,99,107] else [110,101,101,100]
def usesX (l:List Ins):List Ins:=l.filter fun x=>x.op==2||x.op==3
theorem doX_bad {op:Int} {x y:Nm} (h:(gd x&&gd y)=false):doX op x y = .error 1:=if_pos h
theorem node_err {op:Int} {a:List Nm} {e:Int} (ha:a.length=1∨a.length=2∨a.length=3) (h:nodeX op a = .error e):e≠0:=by
 match a,ha with
 | [x],_ =>
  simp only [nodeX] at h
  repeat' (split at h<;>try (first|(simp only [Except.error.injEq] at h;omega)|cases h))
 | [x,y],_ =>
  simp only [nodeX,doX] at h
  repeat' (split at h<;>try (first|(simp only [Except.error.injEq] at h;omega)|cases h))
 | [x,y,z],_ =>
  simp only [nodeX] at h
  repeat' (split at h<;>try (first|(simp only [Except.error.injEq] at h;omega)|cases h))
 | [],ha=>simp at ha
 | _::_::_::_::_,ha=>simp at ha
theorem leaf_err {fs:List (List Nm)} {at_:Int} {x:Ins} {e:Int} (h:leafX fs at_ x = .error e):e≠0:=by
 simp only [leafX,elemX] at h
 repeat' (split at h<;>try (first|(simp only [Except.error.injEq] at h;omega)|cases h))
theorem one_err {fs:List (List Nm)} {at_:Int} {x:Ins} {a:List Nm} {e:Int} (ha:a.length=takes x.op) (h:oneX fs at_ x a = .error e):e≠0:=by
 unfold oneX at h
 have:=takes_le x.op
 split at h
 ·exact leaf_err h
 ·exact node_err (by omega) h
theorem tree_err {fs:List (List Nm)} {at_:Int}:∀ {t:Tr} {e:Int},t.ok→t.ev (oneX fs at_) = .error e→e≠0
 | .n0 x,e,ht,h=>one_err (a:=[]) (show _=takes x.op from (show takes x.op=0 from ht).symm) h
 | .n1 x a,e,ht,h=>by
  simp only [Tr.ev] at h
  cases ha:a.ev (oneX fs at_) with
  | error e'=>rw [ha] at h;simp only [Except.error.injEq] at h;subst h;exact tree_err ht.2 ha
  | ok u=>rw [ha] at h;exact one_err (a:=[u]) ht.1.symm h
 | .n2 x a b,e,ht,h=>by
  simp only [Tr.ev] at h
  cases ha:a.ev (oneX fs at_) with
  | error e'=>rw [ha] at h;simp only [Except.error.injEq] at h;subst h;exact tree_err ht.2.1 ha
  | ok u =>
   rw [ha] at h
   simp only at h
   cases hb:b.ev (oneX fs at_) with
   | error e'=>rw [hb] at h;simp only [Except.error.injEq] at h;subst h;exact tree_err ht.2.2 hb
   | ok v=>rw [hb] at h;exact one_err (a:=[u,v]) ht.1.symm h
 | .n3 x a b c,e,ht,h=>by
  simp only [Tr.ev] at h
  cases ha:a.ev (oneX fs at_) with
  | error e'=>rw [ha] at h;simp only [Except.error.injEq] at h;subst h;exact tree_err ht.2.1 ha
  | ok u =>
   rw [ha] at h
   simp only at h
   cases hb:b.ev (oneX fs at_) with
   | error e'=>rw [hb] at h;simp only [Except.error.injEq] at h;subst h;exact tree_err ht.2.2.1 hb
   | ok v =>
    rw [hb] at h
    simp only at h
    cases hc:c.ev (oneX fs at_) with
    | error e'=>rw [hc] at h;simp only [Except.error.injEq] at h;subst h;exact tree_err ht.2.2.2 hc
    | ok w=>rw [hc] at h;exact one_err (a:=[u,v,w]) ht.1.symm h
theorem evX_err {l:List Ins} {fs:List (List Nm)} {at_ e:Int} (h:evX l fs at_ = .error e):e≠0:=by
 by_cases hz:chkX l=0
 ·obtain ⟨t,ht,hl⟩:=parse (chkX_zero hz).2
  rw [evX_tree hz ht hl] at h
  cases hv:t.ev (oneX fs at_) with
  | error e'=>rw [hv] at h;simp only [Except.error.injEq] at h;subst h;exact tree_err ht hv
  | ok v =>
   rw [hv] at h
   simp only at h
   split at h
   ·cases h
   ·simp only [Except.error.injEq] at h;omega
 ·unfold evX at h
  rw [if_neg hz] at h
  simp only [Except.error.injEq] at h
  omega
end Go.Proofs.YtopiioklkkiedaaGreatDoor
end
section
namespace Go.Proofs.YtopiioklkkiedaaGreatDoor
open Go Go.Lg Go.Lg.Fml Go.Lg.Fld
def o8 (n:Int):UInt8:=UInt8.ofNat (n%256).toNat
def loW (n:Int):Nat:=(n%18446744073709551616).toNat
def hiW (n:Int):Nat:=(n/18446744073709551616).toNat
def sgB (b:Bool):UInt8:=if b then 1 else 0
def encI (x:Ins):List UInt8:=o8 x.op::(if x.op=1 then sgB x.k.1::(leB 8 (loW x.k.2)++leB 8 (hiW x.k.2)) else if x.op=2 then [o8 x.a,o8 x.b] else if x.op=3 then [o8 x.a] else [])
def encIs:List Ins→List UInt8
 | []=>[]
 | x::t=>encI x++encIs t
theorem encIs_app:∀ (a b:List Ins),encIs (a++b)=encIs a++encIs b
 | [],_=>rfl
 | x::t,b=>by simp only [List.cons_append,encIs,encIs_app t b,dJ]
def plainI (x:Ins):Bool:=(decide (x.op=1)||decide (x.k=(false,0)))&&((decide (x.op=2)||decide (x.b=0))&&(decide (x.op=2)||(decide (x.op=3)||decide (x.a=0))))
def encX (l:List Ins):List UInt8:=o8 (l.length:Nat)::encIs l
def encErr (l:List Ins):Int:=if chkX l=0 then (if l.all plainI=true then 0 else 1) else chkX l
def encTX (l:List Ins):List UInt8:=if encErr l=0 then encX l else []
def getI:List UInt8→Option (Ins×List UInt8)
 | []=>none
 | o::r=>if o.toNat=1 then (match r with
   | []=>none
   | s::r=>if s.toNat≤1∧16≤r.length then some (⟨1,0,0,(decide (s.toNat=1),((le (r.take 8)+18446744073709551616*le ((r.drop 8).take 8):Nat):Int))⟩,r.drop 16) else none)
  else if o.toNat=2 then (match r with
   | a::b::r=>some (⟨2,(a.toNat:Nat),(b.toNat:Nat),(false,0)⟩,r)
   | _=>none)
  else if o.toNat=3 then (match r with
   | a::r=>some (⟨3,(a.toNat:Nat),0,(false,0)⟩,r)
   | _=>none)
  else some (⟨(o.toNat:Nat),0,0,(false,0)⟩,r)
def getIs:Nat→List UInt8→Option (List Ins×List UInt8)
 | 0,b=>some ([],b)
 | n+1,b=>match getI b with
  | some (x,r)=>match getIs n r with
   | some (l,r')=>some (x::l,r')
   | none=>none
  | none=>none
def decX:List UInt8→Option (List Ins)
 | []=>none
 | n::r=>match getIs n.toNat r with
  | some (l,[])=>if chkX l=0 then some l else none
  | _=>none
theorem words {n:Int} (h:In2 n):((loW n+18446744073709551616*hiW n:Nat):Int)=n∧loW n<256^8∧hiW n<256^8:=by
 have hp:(256:Nat)^8=18446744073709551616:=by decide
 unfold In2 at h
 unfold loW hiW
 omega
theorem encI_len (x:Ins):1≤(encI x).length∧(encI x).length≤18:=by
 unfold encI
 split
 ·simp only [dF,cS,leB_length];omega
 ·split
  ·simp
  ·split<;>simp
theorem encIs_len:∀ l:List Ins,(encIs l).length≤l.length*18
 | []=>by simp [encIs]
 | x::t=>by have:=(encI_len x).2;have:=encIs_len t;simp only [encIs,cS,dF];omega
end Go.Proofs.YtopiioklkkiedaaGreatDoor
end
section
namespace Go.Lg.Fml
def Tr.args:Tr→List Tr
 | .n0 _=>[]
 | .n1 _ a=>[a]
 | .n2 _ a b=>[a,b]
 | .n3 _ a b c=>[a,b,c]
def flatL:List Tr→List Ins
 | []=>[]
 | a::r=>a.flat++flatL r
def endsL (p:Nat):List Tr→List Nat
 | []=>[]
 | a::r=>(p+a.flat.length-1)::endsL (p+a.flat.length) r
section
variable {V:Type} (one:Ins→List V→Except Int V)
variable {one}
end
def At (l:List Ins) (p:Nat) (t:Tr):Prop := ∃ pre suf,l=pre++(t.flat++suf)∧pre.length=p
end Go.Lg.Fml
end
section
namespace Go.Proofs.YtopiioklkkiedaaGreatDoor
open Go Go.Lg Go.Lg.Fml Go.Lg.Fld
def insV (x:Ins):List Value:=[.int .i64 x.op,.int .i64 x.a,.int .i64 x.b,.bool x.k.1,.int .u64 (x.k.2/18446744073709551616),.int .u64 (x.k.2%18446744073709551616)]
def smallI (x:Ins):Prop:=(-9223372036854775808≤x.op∧x.op<9223372036854775808)∧(-9223372036854775808≤x.a∧x.a<9223372036854775808)∧(-9223372036854775808≤x.b∧x.b<9223372036854775808)∧In2 x.k.2
structure InsIn (X:Nat→Option Obj) (ad:Option Addr) (l:List Ins):Prop where
 rows:Go.Lg.RowsIn X ad 6 (l.map insV)
 small:∀ x∈l,smallI x
theorem InsIn.mono {X Y:Nat→Option Obj} (hXY:∀ b o,X b=some o→Y b=some o) {ad:Option Addr} {l:List Ins} (h:InsIn X ad l):InsIn Y ad l:=⟨h.rows.mono hXY,h.small⟩
theorem InsIn.at {X:Nat→Option Obj} {ad:Option Addr} {l:List Ins} (h:InsIn X ad l) {i:Nat} {x:Ins} (hx:l[i]? = some x):
  ∃ (blk off:Nat) (arr:Array Value) (el:TypeId) (fr:Nat×Nat),ad=some ⟨blk,off,none⟩∧X blk=some (.cells arr el fr)∧off+i*6+6≤arr.size∧((arr.toList.drop (off+i*6)).take 6).map CV.val=(insV x).map CV.val∧arr[off+i*6]? = some (.int .i64 x.op):=by
 obtain ⟨blk,off,arr,el,fr,h1,h2,h3,h4⟩:=h.rows i (insV x) (by rw [dI,hx];rfl)
 refine ⟨blk,off,arr,el,fr,h1,h2,h3,by rw [h4],?_⟩
 have h5:((arr.toList.drop (off+i*6)).take 6)[0]? = some (.int .i64 x.op):=by rw [h4];rfl
 rw [List.getElem?_take,if_pos (by decide),List.getElem?_drop,Nat.add_zero,Array.getElem?_toList] at h5
 exact h5
structure FssIn (X:Nat→Option Obj) (ad:Option Addr) (fss:List (List Nm)):Prop where
 at_:∀ (i:Nat) (r:List Nm),fss[i]? = some r→∃ (blk off:Nat) (arr:Array Value) (el:TypeId) (fr:Nat×Nat) (vad:Option Addr) (vcap:Nat),ad=some ⟨blk,off,none⟩∧X blk=some (.cells arr el fr)∧off+i*1+1≤arr.size∧arr[off+i]? = some (.slice vad r.length vcap)∧NumsIn X vad r
theorem FssIn.mono {X Y:Nat→Option Obj} (hXY:∀ b o,X b=some o→Y b=some o) {ad:Option Addr} {fss:List (List Nm)} (h:FssIn X ad fss):FssIn Y ad fss:=⟨fun i r hr=>by
 obtain ⟨blk,off,arr,el,fr,vad,vcap,h1,h2,h3,h4,h5⟩:=h.at_ i r hr
 exact ⟨blk,off,arr,el,fr,vad,vcap,h1,hXY _ _ h2,h3,h4,h5.rows.mono hXY,h5.in2⟩⟩
abbrev LIn (x:Ins):LV:=.sv (.agg ((insV x).map .val))
abbrev LEnv (fad:Option Addr) (n cap:Nat) (at_:Int):LV:=.sv (.agg [.val (.slice fad n cap),.val (.int .i64 at_)])
end Go.Proofs.YtopiioklkkiedaaGreatDoor
end
section
namespace Go.Proofs.YtopiioklkkiedaaGreatDoor
open Go Go.Lg Go.Lg.Fml Go.Lg.Fld
structure Rl where
 nw:Int
 old:Int
 ex:List (List Ins)
 deriving DecidableEq
structure Pg where
 va:Int
 vb:Int
 rs:List Rl
 deriving DecidableEq
def firstX:List (List Ins)→Int
 | []=>0
 | c::t=>if encErr c=0 then firstX t else encErr c
def chkR (r:Rl) (last:Int):Int:=if r.nw<1∨24<r.nw∨r.old<0∨24<r.old∨r.nw≤last then 1 else if r.old=0∧r.ex≠[] then 4 else if 8<r.ex.length then 5 else firstX r.ex
def chkRs:Int→List Rl→Int
 | _,[]=>0
 | last,r::t=>if chkR r last=0 then chkRs r.nw t else chkR r last
def verOk (n:Int):Bool:=decide (1≤n)&&decide (n≤1073741824)
def chkP (p:Pg):Int:=if (verOk p.va&&verOk p.vb)=true then chkRs 0 p.rs else 1
theorem chkR_zero {r:Rl} {last:Int} (h:chkR r last=0):(1≤r.nw∧r.nw≤24)∧(0≤r.old∧r.old≤24)∧last<r.nw∧(r.old=0→r.ex=[])∧r.ex.length≤8∧firstX r.ex=0:=by
 unfold chkR at h
 split at h
 ·cases h
 ·rename_i h1
  split at h
  ·cases h
  ·rename_i h2
   split at h
   ·cases h
   ·rename_i h3
    refine ⟨by omega,by omega,by omega,fun e => ?_,by omega,h⟩
    by_cases hx:r.ex=[]
    ·exact hx
    ·exact absurd ⟨e,hx⟩ h2
def get4 (b:List UInt8):Option (Nat×List UInt8):=if 4≤b.length then some (le (b.take 4),b.drop 4) else none
def getE (b:List UInt8):Option (List Ins×List UInt8):=match get4 b with
 | none=>none
 | some (m,r)=>if m≤r.length then (match decX (r.take m) with
  | some l=>some (l,r.drop m)
  | none=>none) else none
def getEs:Nat→List UInt8→Option (List (List Ins)×List UInt8)
 | 0,b=>some ([],b)
 | n+1,b=>match getE b with
  | some (x,r)=>match getEs n r with
   | some (l,r')=>some (x::l,r')
   | none=>none
  | none=>none
def getRl:List UInt8→Option (Rl×List UInt8)
 | n::o::m::r=>match getEs m.toNat r with
  | some (l,r')=>some (⟨(n.toNat:Nat),(o.toNat:Nat),l⟩,r')
  | none=>none
 | _=>none
def getRls:Nat→List UInt8→Option (List Rl×List UInt8)
 | 0,b=>some ([],b)
 | n+1,b=>match getRl b with
  | some (x,r)=>match getRls n r with
   | some (l,r')=>some (x::l,r')
   | none=>none
  | none=>none
end Go.Proofs.YtopiioklkkiedaaGreatDoor
end
section
namespace Go.Lg.Fml
theorem dep_snoc {okJ:Ins→Bool} {l:List Ins} {i n:Nat} {x:Ins} (hd:dep okJ 0 (l.take i)=some n) (hx:l[i]? = some x):dep okJ 0 (l.take (i+1))=if okJ x=true∧takes x.op≤n∧n-takes x.op+1≤16 then some (n-takes x.op+1) else none:=by
 rw [Go.Lg.Fld.take_snoc hx,dep_app,hd]
 show dep okJ n [x]=_
 simp only [dep]
theorem dep_none {okJ:Ins→Bool} {l:List Ins} {i:Nat} (hd:dep okJ 0 (l.take i)=none):dep okJ 0 l=none:=by
 rw [← List.take_append_drop i l,dep_app,hd]
 rfl
theorem dep_le {okJ:Ins→Bool}:∀ {l:List Ins} {n m:Nat},n≤16→dep okJ n l=some m→m≤16
 | [],n,m,hn,h=>by simp only [dep,Option.some.injEq] at h;omega
 | x::l,n,m,hn,h=>by
  simp only [dep] at h
  split at h
  ·rename_i h1;exact dep_le h1.2.2 h
  ·cases h
end Go.Lg.Fml
namespace Go.Proofs.YtopiioklkkiedaaGreatDoor
open Go Go.Lg Go.Lg.Fml Go.Lg.Fld
set_option maxRecDepth 100000
variable (X:Nat→Option Obj)
instance:ArrB Tryz.prog 240 (List.replicate 18 (.int .i64 0)) 1:=⟨by kernel_rfl⟩
theorem takes_out {op:Int} (h:op<5∨17<op):takes op=0:=by
 unfold takes
 rw [if_neg (by omega),if_neg (by omega),if_neg (by omega)]
theorem chkX_bad {l:List Ins} {i n:Nat} {x:Ins} (h64:¬ 64<l.length) (hd:dep okI 0 (l.take i)=some n) (hx:l[i]? = some x) (hb:¬ (okI x=true∧takes x.op≤n∧n-takes x.op+1≤16)):chkX l=4:=by
 unfold chkX
 rw [if_neg h64,if_neg]
 rw [dep_none (i:=i+1) ((dep_snoc hd hx).trans (if_neg hb))]
 exact fun h=>by cases h
end Go.Proofs.YtopiioklkkiedaaGreatDoor
end
section
namespace Go.Lg.Sg
open Go Go.Lg
def NuIn (X:Nat→Option Obj) (ad:Option Addr) (l:List Int):Prop:=RowsIn X ad 1 (l.map fun n=>[.int .i64 n])
end Go.Lg.Sg
end
section
namespace Go.Proofs
open Go.Shelf
def Tryz.lays134_ren : Go.Shelf.Ren := ⟨fun | 134 => 240 | 129 => 242 | n => n, fun | 53 => 84 | 3 => 3 | 4 => 4 | 46 => 73 | 5 => 5 | 9 => 9 | n => n, fun | n => n⟩
theorem Tryz.lays134 : Go.Proofs.Lays.n134 Tryz.prog Tryz.lays134_ren := {
  mixed := by kernel_rfl
  f129 := Tryz.func242.trans (congrArg some (by kernel_rfl))
  f134 := Tryz.func240.trans (congrArg some (by kernel_rfl))
  t3 := Tryz.underlying3
  a3 := Tryz.isAgg3
  z3 := Tryz.sizeOf3
  v3 := Tryz.zeroValue3
  t4 := Tryz.underlying4
  a4 := Tryz.isAgg4
  z4 := Tryz.sizeOf4
  v4 := Tryz.zeroValue4
  t5 := Tryz.underlying5
  a5 := Tryz.isAgg5
  z5 := Tryz.sizeOf5
  v5 := Tryz.zeroValue5
  t9 := Tryz.underlying9
  a9 := Tryz.isAgg9
  z9 := Tryz.sizeOf9
  v9 := Tryz.zeroValue9
  t46 := Tryz.underlying73
  a46 := Tryz.isAgg73
  z46 := Tryz.sizeOf73
  v46 := Tryz.zeroValue73
  t53 := Tryz.underlying84
  a53 := Tryz.isAgg84
  z53 := Tryz.sizeOf84
  v53 := Tryz.zeroValue84 }
theorem Tryz.bits_LeadingZeros64 (x : Int) (w : World) (h0 : 0 ≤ x) (h1 : x ≤ 18446744073709551615) :
    Calls Tryz.prog 240 #[.int .u64 x] w fun e w' => e = .returned (.int .i64 (64 - (Lib.bitLen x.toNat : Int))) ∧ w' = w := Any.bits_LeadingZeros64 Tryz.lays134 x w h0 h1
def Tryz.lays264_ren : Go.Shelf.Ren := ⟨fun | 264 => 232 | n => n, fun | 53 => 84 | 46 => 73 | n => n, fun | n => n⟩
theorem Tryz.lays264 : Go.Proofs.Lays.n264 Tryz.prog Tryz.lays264_ren := {
  mixed := by kernel_rfl
  f264 := Tryz.func232.trans (congrArg some (by kernel_rfl))
  t46 := Tryz.underlying73
  a46 := Tryz.isAgg73
  z46 := Tryz.sizeOf73
  v46 := Tryz.zeroValue73
  t53 := Tryz.underlying84
  a53 := Tryz.isAgg84
  z53 := Tryz.sizeOf84
  v53 := Tryz.zeroValue84 }
open Go.RowKit Go.Lib in
theorem Tryz.bits_Mul64 (x y : Nat) (hx : x < 18446744073709551616) (hy : y < 18446744073709551616) (w : World) :
    Calls Tryz.prog 232 #[.int .u64 x, .int .u64 y] w fun e w' => e = .returned (.tuple #[.int .u64 ((x * y / 18446744073709551616 : Nat) : Int), .int .u64 ((x * y % 18446744073709551616 : Nat) : Int)]) ∧ w' = w := Any.bits_Mul64 Tryz.lays264 x y hx hy w
end Go.Proofs
end
section
namespace Go.Proofs.YtopiioklkkiedaaGreatDoor
open Go Go.Lg Go.Lg.Arith
variable (X:Nat→Option Obj)
theorem mul64_spec (x y p:Int) (hx:0≤x∧x<18446744073709551616) (hy:0≤y∧y<18446744073709551616) (hp:x*y=p):
  PSpec Tryz.prog X 232 [Ln .u64 x,Ln .u64 y] (.tup [Sn .u64 (p/18446744073709551616),Sn .u64 (p%18446744073709551616)]):=by
 subst hp
 obtain ⟨a,rfl⟩:=Int.eq_ofNat_of_zero_le hx.1
 obtain ⟨b,rfl⟩:=Int.eq_ofNat_of_zero_le hy.1
 refine PSpec.ofCalls (vals:=[.int .u64 a,.int .u64 b]) (v:=.tuple #[.int .u64 (a*b/18446744073709551616),.int .u64 (a*b%18446744073709551616)]) (by kernel_rfl) O O (fun w _ => ?_)
 have h:=Tryz.bits_Mul64 a b (by omega) (by omega) w
 have e1:((a*b/18446744073709551616:Nat):Int)=(a:Int)*b/18446744073709551616:=by rw [Int.natCast_ediv,Int.natCast_mul];rfl
 have e2:((a*b%18446744073709551616:Nat):Int)=(a:Int)*b%18446744073709551616:=by rw [Int.natCast_emod,Int.natCast_mul];rfl
 rw [e1,e2] at h
 exact h
theorem times_spec (M N:Int) (hM:In2 M) (hN:In2 N) (hw:M<18446744073709551616∨N<18446744073709551616) (r:Bool) (hr:decide (M*N<340282366920938463463374607431768211456)=r):
  PSpec Tryz.prog X 215 [LZ M,LZ N] (.tup [SZ (M*N%340282366920938463463374607431768211456),Sb r]):=by
 have core:∀ H L m p q P:Int,0≤H∧H<18446744073709551616→0≤L∧L<18446744073709551616→0≤m∧m<18446744073709551616→H*m=p→L*m=q→(H*18446744073709551616+L)*m=P →
   0≤p∧0≤q∧P=p*18446744073709551616+q∧q/18446744073709551616<18446744073709551616∧p/18446744073709551616<18446744073709551616:=by
  intro H L m p q P hH hL hm hp hq hP
  have b1:=mul_bound (A:=18446744073709551615) (B:=18446744073709551615) ⟨hH.1,by omega⟩ (show 0≤m∧m≤18446744073709551615 by omega)
  have b2:=mul_bound (A:=18446744073709551615) (B:=18446744073709551615) ⟨hL.1,by omega⟩ (show 0≤m∧m≤18446744073709551615 by omega)
  have:=times_low hp hq hP
  rw [hp] at b1
  rw [hq] at b2
  omega
 unfold In2 at *
 refine cC Tryz.func215 rfl (by kernel_rfl) rfl rfl ?_
 intro C
 by_cases h0:M/18446744073709551616=0
 ·obtain ⟨p,hp⟩:∃ p,N/18446744073709551616*(M%18446744073709551616)=p:=⟨_,rfl⟩
  obtain ⟨q,hq⟩:∃ q,N%18446744073709551616*(M%18446744073709551616)=q:=⟨_,rfl⟩
  obtain ⟨S,hS⟩:∃ S,M*N=S:=⟨_,rfl⟩
  obtain ⟨c1,c2,c3,c4,c5⟩:=core _ _ _ p q S (by omega) (by omega) (by omega) hp hq (by
   rw [← hS,show N/18446744073709551616*18446744073709551616+N%18446744073709551616=N by omega,show M%18446744073709551616=M by omega];exact Int.mul_comm _ _)
  rw [hS] at hr ⊢
  by_cases hP:S<340282366920938463463374607431768211456
  ·rw [cL hP] at hr
   subst hr
   (refine aA<|rgN<|aL O O O dO<|aL O O O dO<|aP O dO ?_;refine kas O<|aB<|aA<|aA<|rgN<|kfa O O ?_;refine kl1 O O O<|keq O O (cR (by omega))<|aB<|aE O ?_;refine rgN<|aK O O O dO ?_;refine aK O O O dO ?_;refine aM O O O O O O dO ?_;refine aM O O O O O O dO ?_;refine aB<|aA<|aA<|rgN<|kfa O O ?_;refine kl1 O O O<|kne O O ((cO (by omega)))<|aB<|aF O ?_;refine aH ?_;refine aA<|rgN<|kfa O O ?_;refine kl1 O O O<|kfa O O ?_;refine kl1 O O O<|kca O O (mul64_spec _ _ _ p (by omega) (by omega) hp)<|kmv O<|kex O O<|kex O O<|kas O<|kas O<|aB<|aA<|rgN<|kfa O O ?_;refine kl1 O O O<|kfa O O ?_;refine kl1 O O O<|kca O O (mul64_spec _ _ _ q (by omega) (by omega) hq)<|kmv O<|kex O O<|kex O O<|kas O<|kas O<|aB<|aA<|rgN<|kmv O<|kmv O<|K.callN O O (add64 (s:=S%340282366920938463463374607431768211456/18446744073709551616) (t:=0) (by omega) (by omega) (by omega)) O dO<|kmv O ?_;refine kex O O<|kex O O<|kas O<|kas O<|aB<|aA<|rgN<|kmv O<|kmv O<|aT O O (by exact O) (by exact nl2 O O O) dO ?_;refine kmv O<|keq O O (cR (by omega))<|kmv O<|gmv O O O<|bC O O (cR (by omega)) (dP O O) ?_;refine kpt O O<|aM O O O O O O dO ?_;refine kas O<|aB<|aI ?_)
   unfold SZ;rw [show S%340282366920938463463374607431768211456%18446744073709551616=q%18446744073709551616 by omega]
   exact ⟨[_,_],⟨⟨_,_,O,O,O,.inl ⟨AggT.h,O⟩⟩,O,trivial⟩,O⟩
  ·rw [cK hP] at hr
   subst hr
   by_cases ho:p/18446744073709551616=0
   ·(refine aA<|rgN<|aL O O O dO<|aL O O O dO<|aP O dO ?_;refine kas O<|aB<|aA<|aA<|rgN<|kfa O O ?_;refine kl1 O O O<|keq O O (cR (by omega))<|aB<|aE O ?_;refine rgN<|aK O O O dO ?_;refine aK O O O dO ?_;refine aM O O O O O O dO ?_;refine aM O O O O O O dO ?_;refine aB<|aA<|aA<|rgN<|kfa O O ?_;refine kl1 O O O<|kne O O ((cO (by omega)))<|aB<|aF O ?_;refine aH ?_;refine aA<|rgN<|kfa O O ?_;refine kl1 O O O<|kfa O O ?_;refine kl1 O O O<|kca O O (mul64_spec _ _ _ p (by omega) (by omega) hp)<|kmv O<|kex O O<|kex O O<|kas O<|kas O<|aB<|aA<|rgN<|kfa O O ?_;refine kl1 O O O<|kfa O O ?_;refine kl1 O O O<|kca O O (mul64_spec _ _ _ q (by omega) (by omega) hq)<|kmv O<|kex O O<|kex O O<|kas O<|kas O<|aB<|aA<|rgN<|kmv O<|kmv O<|K.callN O O (add64 (s:=S%340282366920938463463374607431768211456/18446744073709551616) (t:=1) (by omega) (by omega) (by omega)) O dO<|kmv O ?_;refine kex O O<|kex O O<|kas O<|kas O<|aB<|aA<|rgN<|kmv O<|kmv O<|aT O O (by exact O) (by exact nl2 O O O) dO ?_;refine kmv O<|keq O O (cR (by omega))<|kmv O<|gmv O O O<|bC O O (cN (by omega)) (dP O O) ?_;refine kpt O O<|aM O O O O O O dO ?_;refine kas O<|aB<|aI ?_)
    unfold SZ;rw [show S%340282366920938463463374607431768211456%18446744073709551616=q%18446744073709551616 by omega]
    exact ⟨[_,_],⟨⟨_,_,O,O,O,.inl ⟨AggT.h,O⟩⟩,O,trivial⟩,O⟩
   ·(refine aA<|rgN<|aL O O O dO<|aL O O O dO<|aP O dO ?_;refine kas O<|aB<|aA<|aA<|rgN<|kfa O O ?_;refine kl1 O O O<|keq O O (cR (by omega))<|aB<|aE O ?_;refine rgN<|aK O O O dO ?_;refine aK O O O dO ?_;refine aM O O O O O O dO ?_;refine aM O O O O O O dO ?_;refine aB<|aA<|aA<|rgN<|kfa O O ?_;refine kl1 O O O<|kne O O ((cO (by omega)))<|aB<|aF O ?_;refine aH ?_;refine aA<|rgN<|kfa O O ?_;refine kl1 O O O<|kfa O O ?_;refine kl1 O O O<|kca O O (mul64_spec _ _ _ p (by omega) (by omega) hp)<|kmv O<|kex O O<|kex O O<|kas O<|kas O<|aB<|aA<|rgN<|kfa O O ?_;refine kl1 O O O<|kfa O O ?_;refine kl1 O O O<|kca O O (mul64_spec _ _ _ q (by omega) (by omega) hq)<|kmv O<|kex O O<|kex O O<|kas O<|kas O<|aB<|aA<|rgN<|kmv O<|kmv O<|K.callN O O (add64 (s:=S%340282366920938463463374607431768211456/18446744073709551616) (t:=(q/18446744073709551616+p%18446744073709551616)/18446744073709551616) (by omega) (by omega) (by omega)) O dO<|kmv O ?_;refine kex O O<|kex O O<|kas O<|kas O<|aB<|aA<|rgN<|kmv O<|kmv O<|aT O O (by exact O) (by exact nl2 O O O) dO ?_;refine kmv O<|keq O O (cN (by omega))<|kmv O<|aC O O O<|aC O O O<|kpf O O<|aM O O O O O O dO ?_;refine kas O<|aB<|aI ?_)
    unfold SZ;rw [show S%340282366920938463463374607431768211456%18446744073709551616=q%18446744073709551616 by omega]
    exact ⟨[_,_],⟨⟨_,_,O,O,O,.inl ⟨AggT.h,O⟩⟩,O,trivial⟩,O⟩
 ·have hN0:N/18446744073709551616=0:=by omega
  obtain ⟨p,hp⟩:∃ p,M/18446744073709551616*(N%18446744073709551616)=p:=⟨_,rfl⟩
  obtain ⟨q,hq⟩:∃ q,M%18446744073709551616*(N%18446744073709551616)=q:=⟨_,rfl⟩
  obtain ⟨S,hS⟩:∃ S,M*N=S:=⟨_,rfl⟩
  obtain ⟨c1,c2,c3,c4,c5⟩:=core _ _ _ p q S (by omega) (by omega) (by omega) hp hq (by
   rw [← hS,show M/18446744073709551616*18446744073709551616+M%18446744073709551616=M by omega,show N%18446744073709551616=N by omega])
  rw [hS] at hr ⊢
  by_cases hP:S<340282366920938463463374607431768211456
  ·rw [cL hP] at hr
   subst hr
   (refine aA<|rgN<|aL O O O dO<|aL O O O dO<|aP O dO ?_;refine kas O<|aB<|aA<|aA<|rgN<|kfa O O ?_;refine kl1 O O O<|keq O O (cN (by omega))<|aB<|aF O ?_;refine aH ?_;refine aA<|aA<|rgN<|kfa O O ?_;refine kl1 O O O<|kne O O ((cO (by omega)))<|aB<|aF O ?_;refine aH ?_;refine aA<|rgN<|kfa O O ?_;refine kl1 O O O<|kfa O O ?_;refine kl1 O O O<|kca O O (mul64_spec _ _ _ p (by omega) (by omega) hp)<|kmv O<|kex O O<|kex O O<|kas O<|kas O<|aB<|aA<|rgN<|kfa O O ?_;refine kl1 O O O<|kfa O O ?_;refine kl1 O O O<|kca O O (mul64_spec _ _ _ q (by omega) (by omega) hq)<|kmv O<|kex O O<|kex O O<|kas O<|kas O<|aB<|aA<|rgN<|kmv O<|kmv O<|K.callN O O (add64 (s:=S%340282366920938463463374607431768211456/18446744073709551616) (t:=0) (by omega) (by omega) (by omega)) O dO<|kmv O ?_;refine kex O O<|kex O O<|kas O<|kas O<|aB<|aA<|rgN<|kmv O<|kmv O<|aT O O (by exact O) (by exact nl2 O O O) dO ?_;refine kmv O<|keq O O (cR (by omega))<|kmv O<|gmv O O O<|bC O O (cR (by omega)) (dP O O) ?_;refine kpt O O<|aM O O O O O O dO ?_;refine kas O<|aB<|aI ?_)
   unfold SZ;rw [show S%340282366920938463463374607431768211456%18446744073709551616=q%18446744073709551616 by omega]
   exact ⟨[_,_],⟨⟨_,_,O,O,O,.inl ⟨AggT.h,O⟩⟩,O,trivial⟩,O⟩
  ·rw [cK hP] at hr
   subst hr
   by_cases ho:p/18446744073709551616=0
   ·(refine aA<|rgN<|aL O O O dO<|aL O O O dO<|aP O dO ?_;refine kas O<|aB<|aA<|aA<|rgN<|kfa O O ?_;refine kl1 O O O<|keq O O (cN (by omega))<|aB<|aF O ?_;refine aH ?_;refine aA<|aA<|rgN<|kfa O O ?_;refine kl1 O O O<|kne O O ((cO (by omega)))<|aB<|aF O ?_;refine aH ?_;refine aA<|rgN<|kfa O O ?_;refine kl1 O O O<|kfa O O ?_;refine kl1 O O O<|kca O O (mul64_spec _ _ _ p (by omega) (by omega) hp)<|kmv O<|kex O O<|kex O O<|kas O<|kas O<|aB<|aA<|rgN<|kfa O O ?_;refine kl1 O O O<|kfa O O ?_;refine kl1 O O O<|kca O O (mul64_spec _ _ _ q (by omega) (by omega) hq)<|kmv O<|kex O O<|kex O O<|kas O<|kas O<|aB<|aA<|rgN<|kmv O<|kmv O<|K.callN O O (add64 (s:=S%340282366920938463463374607431768211456/18446744073709551616) (t:=1) (by omega) (by omega) (by omega)) O dO<|kmv O ?_;refine kex O O<|kex O O<|kas O<|kas O<|aB<|aA<|rgN<|kmv O<|kmv O<|aT O O (by exact O) (by exact nl2 O O O) dO ?_;refine kmv O<|keq O O (cR (by omega))<|kmv O<|gmv O O O<|bC O O (cN (by omega)) (dP O O) ?_;refine kpt O O<|aM O O O O O O dO ?_;refine kas O<|aB<|aI ?_)
    unfold SZ;rw [show S%340282366920938463463374607431768211456%18446744073709551616=q%18446744073709551616 by omega]
    exact ⟨[_,_],⟨⟨_,_,O,O,O,.inl ⟨AggT.h,O⟩⟩,O,trivial⟩,O⟩
   ·(refine aA<|rgN<|aL O O O dO<|aL O O O dO<|aP O dO ?_;refine kas O<|aB<|aA<|aA<|rgN<|kfa O O ?_;refine kl1 O O O<|keq O O (cN (by omega))<|aB<|aF O ?_;refine aH ?_;refine aA<|aA<|rgN<|kfa O O ?_;refine kl1 O O O<|kne O O ((cO (by omega)))<|aB<|aF O ?_;refine aH ?_;refine aA<|rgN<|kfa O O ?_;refine kl1 O O O<|kfa O O ?_;refine kl1 O O O<|kca O O (mul64_spec _ _ _ p (by omega) (by omega) hp)<|kmv O<|kex O O<|kex O O<|kas O<|kas O<|aB<|aA<|rgN<|kfa O O ?_;refine kl1 O O O<|kfa O O ?_;refine kl1 O O O<|kca O O (mul64_spec _ _ _ q (by omega) (by omega) hq)<|kmv O<|kex O O<|kex O O<|kas O<|kas O<|aB<|aA<|rgN<|kmv O<|kmv O<|K.callN O O (add64 (s:=S%340282366920938463463374607431768211456/18446744073709551616) (t:=(q/18446744073709551616+p%18446744073709551616)/18446744073709551616) (by omega) (by omega) (by omega)) O dO<|kmv O ?_;refine kex O O<|kex O O<|kas O<|kas O<|aB<|aA<|rgN<|kmv O<|kmv O<|aT O O (by exact O) (by exact nl2 O O O) dO ?_;refine kmv O<|keq O O (cN (by omega))<|kmv O<|aC O O O<|aC O O O<|kpf O O<|aM O O O O O O dO ?_;refine kas O<|aB<|aI ?_)
    unfold SZ;rw [show S%340282366920938463463374607431768211456%18446744073709551616=q%18446744073709551616 by omega]
    exact ⟨[_,_],⟨⟨_,_,O,O,O,.inl ⟨AggT.h,O⟩⟩,O,trivial⟩,O⟩
theorem times_far (M N:Int) (hM:In2 M) (hN:In2 N) (h1:18446744073709551616≤M) (h2:18446744073709551616≤N):
  PSpec Tryz.prog X 215 [LZ M,LZ N] (.tup [.agg [.val (.int .u64 0),.val (.int .u64 0)],Sb false]):=by
 unfold In2 at *
 refine cC Tryz.func215 rfl (by kernel_rfl) rfl rfl ?_
 intro C
 (refine aA<|rgN<|aL O O O dO<|aL O O O dO<|aP O dO ?_;refine kas O<|aB<|aA<|aA<|rgN<|kfa O O ?_;refine kl1 O O O<|keq O O (cN (by omega))<|aB<|aF O ?_;refine aH ?_;refine aA<|aA<|rgN<|kfa O O ?_;refine kl1 O O O<|kne O O (cP (by omega))<|aB<|aE O ?_;refine aA<|rgN<|aT O O (by exact O) (by exact nl2 O O O) dO ?_;refine aM O O O O O O dO ?_;refine kas O<|aB<|aI ?_)
 exact ⟨[_,_],⟨⟨_,_,O,O,O,.inl ⟨AggT.h,O⟩⟩,O,trivial⟩,O⟩
end Go.Proofs.YtopiioklkkiedaaGreatDoor
end
section
namespace Go.Proofs.YtopiioklkkiedaaGreatDoor
open Go Go.Lg Go.Lg.Arith
variable (X:Nat→Option Obj)
theorem Mul_arg (b c:Bool) (M N:Int) (hM:In2 M) (hN:In2 N) (hf:(formB b M&&formB c N)=false):PSpec Tryz.prog X 185 [LI b M,LI c N] (.tup [S0,Sn .i64 1]):=by
 refine cC Tryz.func185 rfl (by kernel_rfl) rfl rfl ?_
 intro C
 (refine aA<|rgN<|aL O O O dO<|aL O O O dO<|aP O dO ?_;refine kas O<|aB<|aA<|aA<|rgN<|aK O O O dO ?_;refine aK O O O dO ?_;refine kca O O (bothForm_spec _ _ _ _ _ hM hN _ hf)<|aV O O dO<|aB<|aE O ?_;refine aA<|rgN<|aT O O (by exact O) (by exact nl3 O O O O) dO ?_;refine aM O O O O O O dO ?_;refine kas O<|aB<|aI ?_)
 exact ⟨[_,_],⟨⟨_,_,O,O,O,.inl ⟨AggT.h,O⟩⟩,O,trivial⟩,O⟩
theorem zv_mul (x y:Int):zv (decide (x<0) != decide (y<0)) (mg x*mg y)=x*y:=by
 unfold zv mg
 by_cases cx:x<0<;>by_cases cy:y<0<;>simp [cx,cy,Int.neg_mul,Int.mul_neg]
theorem range_zv {b:Bool} {N:Int} (hN:0≤N):R127 (zv b N)↔N<170141183460469231731687303715884105728:=by
 unfold R127 zv
 cases b<;>simp<;>omega
theorem Mul_q (x y:Int) (hx:R127 x) (hy:R127 y):PSpec Tryz.prog X 185 [LQ x,LQ y] (addR (x*y)):=by
 have hf:=both_q hx hy
 have hB:=bothForm_spec X _ _ _ _ (mg_in2 hx) (mg_in2 hy) true hf
 have hz:=zv_mul x y
 have hp0:0≤mg x*mg y:=Int.mul_nonneg (mg_nonneg x) (mg_nonneg y)
 have hrange:=range_zv (b:=decide (x<0) != decide (y<0)) hp0
 rw [hz] at hrange
 by_cases hfar:18446744073709551616≤mg x∧18446744073709551616≤mg y
 ·have hm:=Int.mul_le_mul hfar.1 hfar.2 (by decide) (by omega:(0:Int)≤mg x)
  rw [addR_out (by rw [hrange];omega)]
  refine cC Tryz.func185 rfl (by kernel_rfl) rfl rfl ?_
  intro C
  (refine aA<|rgN<|aL O O O dO<|aL O O O dO<|aP O dO ?_;refine kas O<|aB<|aA<|aA<|rgN<|aK O O O dO ?_;refine aK O O O dO ?_;refine kca O O (hB)<|aV O O dO<|aB<|aF O ?_;refine aH ?_;refine aA<|rgD mixed<|aK O O O dO ?_;refine kca O O (sizeOf_spec _ _ _ _)<|aK O O O dO ?_;refine kca O O (sizeOf_spec _ _ _ _)<|kca O O (times_far _ _ _ (mg_in2 hx) (mg_in2 hy) hfar.1 hfar.2)<|kmv O<|kex O O<|kex O O<|aP O dO ?_;refine aM O O O O O O dO ?_;refine kas O<|aB<|rgA ?_;refine aA<|aA<|rgN<|kmv O<|aV O O dO<|aB<|aE O ?_;refine aA<|rgN<|aT O O (by exact O) (by exact nl3 O O O O) dO ?_;refine aM O O O O O O dO ?_;refine kas O<|aB<|aI ?_)
  exact ⟨[_,_],⟨⟨_,_,O,O,O,.inl ⟨AggT.h,O⟩⟩,O,trivial⟩,O⟩
 ·have ht:=times_spec X (mg x) (mg y) (mg_in2 hx) (mg_in2 hy) (by omega)
  by_cases hbig:mg x*mg y<340282366920938463463374607431768211456
  ·have ht':=ht true (cL hbig)
   have e:mg x*mg y%340282366920938463463374607431768211456=mg x*mg y:=by omega
   rw [e] at ht'
   by_cases hfit:mg x*mg y<170141183460469231731687303715884105728
   ·rw [addR_in (hrange.2 hfit),← tup_q hp0 hz]
    have hb:=bounded_ok X (decide (x<0) != decide (y<0)) (mg x*mg y) ⟨hp0,hfit⟩ _ rfl
    refine cC Tryz.func185 rfl (by kernel_rfl) rfl rfl ?_
    intro C
    (refine aA<|rgN<|aL O O O dO<|aL O O O dO<|aP O dO ?_;refine kas O<|aB<|aA<|aA<|rgN<|aK O O O dO ?_;refine aK O O O dO ?_;refine kca O O (hB)<|aV O O dO<|aB<|aF O ?_;refine aH ?_;refine aA<|rgD mixed<|aK O O O dO ?_;refine kca O O (sizeOf_spec _ _ _ _)<|aK O O O dO ?_;refine kca O O (sizeOf_spec _ _ _ _)<|kca O O (ht')<|kmv O<|kex O O<|kex O O<|aP O dO ?_;refine aM O O O O O O dO ?_;refine kas O<|aB<|rgA ?_;refine aA<|aA<|rgN<|kmv O<|aV O O dO<|aB<|aF O ?_;refine aH ?_;refine aA<|rgN<|kfa O O ?_;refine kl1 O O O<|kfa O O ?_;refine kl1 O O O<|K.neqB O O O dO<|aK O O O dO ?_;refine kca O O (hb)<|kex O O<|kex O O<|aM O O O O O O dO ?_;refine kas O<|aB<|aI ?_)
    exact ⟨[_,_],⟨⟨_,_,O,O,O,.inl ⟨AggT.h,O⟩⟩,O,trivial⟩,O⟩
   ·rw [addR_out (by rw [hrange];omega)]
    have hb:=bounded_no X (decide (x<0) != decide (y<0)) (mg x*mg y) (by omega) ⟨hp0,hbig⟩
    refine cC Tryz.func185 rfl (by kernel_rfl) rfl rfl ?_
    intro C
    (refine aA<|rgN<|aL O O O dO<|aL O O O dO<|aP O dO ?_;refine kas O<|aB<|aA<|aA<|rgN<|aK O O O dO ?_;refine aK O O O dO ?_;refine kca O O (hB)<|aV O O dO<|aB<|aF O ?_;refine aH ?_;refine aA<|rgD mixed<|aK O O O dO ?_;refine kca O O (sizeOf_spec _ _ _ _)<|aK O O O dO ?_;refine kca O O (sizeOf_spec _ _ _ _)<|kca O O (ht')<|kmv O<|kex O O<|kex O O<|aP O dO ?_;refine aM O O O O O O dO ?_;refine kas O<|aB<|rgA ?_;refine aA<|aA<|rgN<|kmv O<|aV O O dO<|aB<|aF O ?_;refine aH ?_;refine aA<|rgN<|kfa O O ?_;refine kl1 O O O<|kfa O O ?_;refine kl1 O O O<|K.neqB O O O dO<|aK O O O dO ?_;refine kca O O (hb)<|kex O O<|kex O O<|aM O O O O O O dO ?_;refine kas O<|aB<|aI ?_)
    exact ⟨[_,_],⟨⟨_,_,O,O,O,.inl ⟨AggT.h,O⟩⟩,O,trivial⟩,O⟩
  ·have ht':=ht false (cK hbig)
   rw [addR_out (by rw [hrange];omega)]
   refine cC Tryz.func185 rfl (by kernel_rfl) rfl rfl ?_
   intro C
   (refine aA<|rgN<|aL O O O dO<|aL O O O dO<|aP O dO ?_;refine kas O<|aB<|aA<|aA<|rgN<|aK O O O dO ?_;refine aK O O O dO ?_;refine kca O O (hB)<|aV O O dO<|aB<|aF O ?_;refine aH ?_;refine aA<|rgD mixed<|aK O O O dO ?_;refine kca O O (sizeOf_spec _ _ _ _)<|aK O O O dO ?_;refine kca O O (sizeOf_spec _ _ _ _)<|kca O O (ht')<|kmv O<|kex O O<|kex O O<|aP O dO ?_;refine aM O O O O O O dO ?_;refine kas O<|aB<|rgA ?_;refine aA<|aA<|rgN<|kmv O<|aV O O dO<|aB<|aE O ?_;refine aA<|rgN<|aT O O (by exact O) (by exact nl3 O O O O) dO ?_;refine aM O O O O O O dO ?_;refine kas O<|aB<|aI ?_)
   exact ⟨[_,_],⟨⟨_,_,O,O,O,.inl ⟨AggT.h,O⟩⟩,O,trivial⟩,O⟩
end Go.Proofs.YtopiioklkkiedaaGreatDoor
end
section
namespace Go.Proofs.YtopiioklkkiedaaGreatDoor
open Go Go.Lg Go.Lg.Arith
variable (X:Nat→Option Obj)
def lzOf (y:Int):Nat:=64-Lib.bitLen y.toNat
theorem lzOf_spec {y:Int} (hy:0<y∧y<18446744073709551616):lzOf y≤63∧9223372036854775808≤y*2^lzOf y∧y*2^lzOf y<18446744073709551616:=by
 obtain ⟨n,rfl⟩:=Int.eq_ofNat_of_zero_le (Int.le_of_lt hy.1)
 have hb:=Lib.bitLenAux_bounds 64 n (by have:=hy.2;omega) (by have:=hy.1;omega)
 have hle:Lib.bitLen n≤64:=Lib.bitLen_le n 64 (by decide) (by have:=hy.2;omega)
 change 1≤Lib.bitLen n∧2^(Lib.bitLen n-1)≤n∧n<2^Lib.bitLen n at hb
 have e:lzOf (n:Int)=64-Lib.bitLen n:=by simp [lzOf]
 rw [e]
 generalize Lib.bitLen n=k at *
 obtain ⟨h1,h2,h3⟩:=hb
 have m1:=Nat.mul_le_mul_right (2^(64-k)) h2
 have m2:=Nat.mul_lt_mul_of_pos_right h3 (Nat.two_pow_pos (64-k))
 rw [← Nat.pow_add,show k-1+(64-k)=63 by omega] at m1
 rw [← Nat.pow_add,show k+(64-k)=64 by omega] at m2
 have ec:((n:Int)*2^(64-k))=((n*2^(64-k):Nat):Int):=by rw [Int.natCast_mul,Int.natCast_pow];rfl
 rw [ec]
 exact ⟨by omega,by omega,by omega⟩
theorem lz_spec (y:Int) (hy:0≤y∧y<18446744073709551616):PSpec Tryz.prog X 240 [Ln .u64 y] (Ln .i64 (lzOf y:Nat)):=by
 refine PSpec.ofCalls (vals:=[.int .u64 y]) (v:=.int .i64 (lzOf y:Nat)) (by kernel_rfl) O O (fun w _ => ?_)
 refine (Tryz.bits_LeadingZeros64 y w hy.1 (by omega)).mono ?_
 rintro e w' ⟨rfl,rfl⟩
 refine ⟨?_,O⟩
 have hle:Lib.bitLen y.toNat≤64:=Lib.bitLen_le _ 64 (by decide) (by have:=hy.2;omega)
 have:((lzOf y:Nat):Int)=64-(Lib.bitLen y.toNat:Int):=by unfold lzOf;omega
 rw [this]
set_option maxHeartbeats 1000000 in
theorem Div64_spec (hi lo y:Int) (hh:0≤hi∧hi<y) (hl:0≤lo∧lo<18446744073709551616) (hy:y<18446744073709551616):
  PSpec Tryz.prog X 234 [Ln .u64 hi,Ln .u64 lo,Ln .u64 y] (.tup [Sn .u64 ((hi*18446744073709551616+lo)/y),Sn .u64 ((hi*18446744073709551616+lo)%y)]):=by
 have hlz:=lz_spec X y (by omega)
 obtain ⟨hs,hY1,hY2⟩:=lzOf_spec (y:=y) (by omega)
 generalize lzOf y=s at hlz hs hY1 hY2
 have hE:(0:Int)<2^s:=Int.pow_pos (by decide)
 have hF:(0:Int)<2^(64-s):=Int.pow_pos (by decide)
 have hEF:=pow_split (s:=s) (by omega)
 have hsh:=shift2 (hi:=hi) (lo:=lo) hE hF hEF hl.1
 have hsc:=scale (N:=hi*18446744073709551616+lo) (y:=y) hE (by omega)
 have hlo2:0≤lo/2^(64-s)∧lo/2^(64-s)<2^s:=by
  refine ⟨Int.ediv_nonneg hl.1 (Int.le_of_lt hF),?_⟩
  rw [Int.ediv_lt_iff_lt_mul hF,hEF];exact hl.2
 have hhi2:0≤hi∧hi*2^s<18446744073709551616:=by
  refine ⟨hh.1,?_⟩
  have:=Int.mul_le_mul_of_nonneg_right (Int.le_of_lt hh.2) (Int.le_of_lt hE)
  omega
 have hhi3:0≤hi*2^s:=Int.mul_nonneg hh.1 (Int.le_of_lt hE)
 obtain ⟨Y,hY⟩:∃ Y,y*2^s=Y:=⟨_,rfl⟩
 obtain ⟨U,hU⟩:∃ U,hi*2^s+lo/2^(64-s)=U:=⟨_,rfl⟩
 obtain ⟨V,hV⟩:∃ V,lo*2^s%18446744073709551616=V:=⟨_,rfl⟩
 have hV0:0≤V∧V<18446744073709551616:=by omega
 have hUY:U<Y:=by
  have h1:(hi*18446744073709551616+lo)*2^s<(y*18446744073709551616)*2^s:=Int.mul_lt_mul_of_pos_right (by omega) hE
  rw [Int.mul_right_comm] at h1
  rw [hY] at h1
  rw [hsh,hU,hV] at h1
  omega
 have hU0:0≤U:=by omega
 rw [hsh,hU,hV,hY] at hsc
 rw [hY] at hY1 hY2
 have ka1:KArg (Y/4294967296) (Y%4294967296) U (V/4294967296):=⟨by omega,by omega,by omega,by omega⟩
 have eY:Y/4294967296*4294967296+Y%4294967296=Y:=by omega
 have ks1:=k_start ka1
 have kq1:∀ q r,KInv (Y/4294967296) (Y%4294967296) U (V/4294967296) q r→q*Y≤U*4294967296+V/4294967296→q=(U*4294967296+V/4294967296)/Y∧U*4294967296+V/4294967296-q*Y=(U*4294967296+V/4294967296)%Y:=by
  intro q r k he
  have:=k_quo ka1 k (by rw [eY];exact he)
  rw [eY] at this
  exact this
 refine cC Tryz.func234 rfl (by kernel_rfl) rfl rfl ?_
 intro C
 by_cases hz:hi=0
 ·subst hz
  (refine aA<|rgN<|kas O<|kas O<|aB<|aA<|aA<|rgN<|kmv O<|keq O O (cN (by omega))<|aB<|aF O ?_;refine aH ?_;refine aA<|aA<|rgN<|kmv O<|kmv O<|K.leq O O (cK (by omega)) dO<|aB<|aF O ?_;refine aH ?_;refine aA<|aA<|rgN<|kmv O<|keq O O (cR (by omega))<|aB<|aE O ?_;refine aA<|rgD mixed<|kmv O<|kmv O<|K.quo O O (by omega) (quo_u64 (by omega) (by omega)) dO<|kmv O<|kmv O<|K.rem O O (by omega) (rem_pos (by omega)) dO<|kas O<|kas O<|aB<|rgA ?_;refine aI ?_)
  exact ⟨[_,_],⟨rfl,rfl,trivial⟩,by simp [resOf]⟩
 ·have hm1:0≤U/(Y/4294967296)*(Y/4294967296)∧U/(Y/4294967296)*(Y/4294967296)≤U:=by have:=ks1.r0;have:=ks1.eq;exact ⟨Int.mul_nonneg ks1.q0 (by omega),by omega⟩
  (refine aA<|rgN<|kas O<|kas O<|aB<|aA<|aA<|rgN<|kmv O<|keq O O (cN (by omega))<|aB<|aF O ?_;refine aH ?_;refine aA<|aA<|rgN<|kmv O<|kmv O<|K.leq O O (cK (by omega)) dO<|aB<|aF O ?_;refine aH ?_;refine aA<|aA<|rgN<|kmv O<|keq O O (cN (by omega))<|aB<|aF O ?_;refine aH ?_;refine aA<|rgN<|kmv O<|kca O O (hlz)<|kcv O (by exact wrap_u64 (by omega)) ?_;refine kas O<|aB<|aA<|rgN<|kmv O<|kmv O<|K.shl O O (by omega) (shl_s (by omega) hY (by omega)) dO<|kas O<|aB<|aA<|rgN<|kmv O<|bN O O (by omega) (shr_32 _) dO<|kas O ?_;refine aB<|aA<|rgN<|kmv O<|K.bitop (by simp) O O (and_32 (by omega)) dO<|kas O<|aB<|aA<|rgN<|kmv O<|kmv O<|K.shl O O (by omega) (shl_s (by omega) O ⟨hhi3,hhi2.2⟩) dO<|kmv O<|kmv O ?_;refine bA O O (wrap_u64 (by omega)) dO<|bN O O (by omega) (shr_64s (by omega)) dO<|K.bitop (by simp) O O (or_apart' (by omega) hhi2 hlo2 hU) dO<|kas O<|aB<|aA<|rgN<|kmv O<|kmv O<|K.shl O O (by omega) ((shl_mod (by omega)).trans hV) dO<|kas O<|aB<|aA<|rgN ?_;refine kmv O<|bN O O (by omega) (shr_32 _) dO<|kas O<|aB<|aA<|rgN<|kmv O<|K.bitop (by simp) O O (and_32 (by omega)) dO<|kas O<|aB<|aA<|rgN<|kmv O<|kmv O ?_;refine K.quo O O (by omega) (quo_u64 (by omega) (by omega)) dO<|kas O<|aB<|aA<|rgN<|kmv O<|kmv O<|kmv O<|bL O O (wrap_u64 (by omega)) dO<|bA O O (wrap_u64 (by omega)) dO<|kas O<|aB<|aA<|aG ?_)
  have hy1:U-U/(Y/4294967296)*(Y/4294967296)<Y/4294967296:=by
   have h2:=Int.emod_add_mul_ediv U (Y/4294967296)
   have h3:=Int.emod_lt_of_pos U (show 0<Y/4294967296 by omega)
   rw [Int.mul_comm] at h2
   omega
  refine LWP.meet (fun σ=>∃ q r:Int,q=(U*4294967296+V/4294967296)/Y∧σ=⟨[(2,Ln .u64 Y),(8,Ln .u64 s),(9,Ln .u64 (Y/4294967296)),(10,Ln .u64 (Y%4294967296)),(11,Ln .u64 U),(13,Ln .u64 (V/4294967296)),(14,Ln .u64 (V%4294967296)),(15,Ln .u64 q),(16,Ln .u64 r)],[],X⟩) ?_ ?_
  ·refine cG (fun m σ=>∃ q r:Int,KInv (Y/4294967296) (Y%4294967296) U (V/4294967296) q r∧r<4294967296∧m=q.toNat∧σ=⟨[(2,Ln .u64 Y),(8,Ln .u64 s),(9,Ln .u64 (Y/4294967296)),(10,Ln .u64 (Y%4294967296)),(11,Ln .u64 U),(13,Ln .u64 (V/4294967296)),(14,Ln .u64 (V%4294967296)),(15,Ln .u64 q),(16,Ln .u64 r)],[],X⟩) (U/(Y/4294967296)).toNat
    ⟨_,Le.of (by exact ⟨rfl,rfl,rfl,rfl,rfl,rfl,rfl,rfl,rfl,trivial⟩) (by exact trivial) (by exact rfl) (by exact rfl) (by exact rfl),_,_,ks1,by omega,rfl,rfl⟩ ?_
   rintro m σ ⟨q,r,k,hr,rfl,rfl⟩
   have hq0:=k.q0
   have hr0:=k.r0
   have hqU:q≤U:=by
    have:=k.eq
    have:=Int.mul_le_mul_of_nonneg_left (show (1:Int)≤Y/4294967296 by omega) hq0
    omega
   have next:∀ q' r',KInv (Y/4294967296) (Y%4294967296) U (V/4294967296) q' r'→4294967296≤r'→q'=(U*4294967296+V/4294967296)/Y:=fun q' r' k' h'=>(kq1 q' r' k' (by have:=k_break ka1 k' h';rwa [eY] at this)).1
   by_cases hq:4294967296≤q
   ·have k':=k_big ka1 k hq
    have hrn:=next _ _ k'
    by_cases hr2:4294967296≤r+Y/4294967296
    ·(refine aA<|aA<|rgN<|kmv O<|bD O O (cL (by omega)) dO<|kmv O<|aC O O O<|aC O O O<|aC O O O<|aC O O O<|aC O O O<|aC O O O<|aC O O O<|aC O O O ?_;refine kpt O O<|aB<|aE O ?_;refine aH ?_;refine aG<|aA<|rgN<|kmv O<|bA O O (wrap_u64 (by omega)) dO<|kas O<|aB<|aA<|rgN<|kmv O<|kmv O<|kad O O (wrap_u64 (by omega))<|kas O<|aB ?_;refine aA<|rgN<|kmv O<|bD O O (cL (by omega)) dO<|aB<|aE O ?_;refine aJ ?_)
     exact ⟨_,Le.of (by exact ⟨O,O,O,O,O,O,O,O,O,trivial⟩) (by exact trivial) (by exact O) (by exact O) (by exact O),_,_,hrn hr2,O⟩
    ·(refine aA<|aA<|rgN<|kmv O<|bD O O (cL (by omega)) dO<|kmv O<|aC O O O<|aC O O O<|aC O O O<|aC O O O<|aC O O O<|aC O O O<|aC O O O<|aC O O O ?_;refine kpt O O<|aB<|aE O ?_;refine aH ?_;refine aG<|aA<|rgN<|kmv O<|bA O O (wrap_u64 (by omega)) dO<|kas O<|aB<|aA<|rgN<|kmv O<|kmv O<|kad O O (wrap_u64 (by omega))<|kas O<|aB ?_;refine aA<|rgN<|kmv O<|bD O O (cK (by omega)) dO<|aB<|aF O ?_;refine aH ?_)
     exact ⟨_,_,by omega,Le.of (by exact ⟨O,O,O,O,O,O,O,O,O,trivial⟩) (by exact trivial) (by exact O) (by exact O) (by exact O),_,_,k',by omega,O,O⟩
   ·have hqy:=mul_bound (a:=q) (b:=Y%4294967296) (A:=4294967295) (B:=4294967295) ⟨hq0,by omega⟩ ⟨by omega,by omega⟩
    by_cases hb:4294967296*r+V/4294967296<q*(Y%4294967296)
    ·have k':=k_high ka1 k hb
     have hrn:=next _ _ k'
     have hq1:1≤q:=by have:=k'.q0;omega
     by_cases hr2:4294967296≤r+Y/4294967296
     ·(refine aA<|aA<|rgN<|kmv O<|bD O O (cK (by omega)) dO<|kmv O<|gmv O O O<|gmv O O O<|bL O O (wrap_u64 (by omega)) (dP O O) ?_;refine gmv O O O<|bL O O (wrap_u64 (by omega)) (dP O O) ?_;refine gmv O O O<|K.add O O (wrap_u64 (by omega)) (dP O O) ?_;refine aS O O (cL (by omega)) (dP O O) ?_;refine kpf O O<|aB<|aE O ?_;refine aH ?_;refine aG<|aA<|rgN<|kmv O<|bA O O (wrap_u64 (by omega)) dO<|kas O<|aB<|aA<|rgN<|kmv O<|kmv O<|kad O O (wrap_u64 (by omega))<|kas O<|aB ?_;refine aA<|rgN<|kmv O<|bD O O (cL (by omega)) dO<|aB<|aE O ?_;refine aJ ?_)
      exact ⟨_,Le.of (by exact ⟨O,O,O,O,O,O,O,O,O,trivial⟩) (by exact trivial) (by exact O) (by exact O) (by exact O),_,_,hrn hr2,O⟩
     ·(refine aA<|aA<|rgN<|kmv O<|bD O O (cK (by omega)) dO<|kmv O<|gmv O O O<|gmv O O O<|bL O O (wrap_u64 (by omega)) (dP O O) ?_;refine gmv O O O<|bL O O (wrap_u64 (by omega)) (dP O O) ?_;refine gmv O O O<|K.add O O (wrap_u64 (by omega)) (dP O O) ?_;refine aS O O (cL (by omega)) (dP O O) ?_;refine kpf O O<|aB<|aE O ?_;refine aH ?_;refine aG<|aA<|rgN<|kmv O<|bA O O (wrap_u64 (by omega)) dO<|kas O<|aB<|aA<|rgN<|kmv O<|kmv O<|kad O O (wrap_u64 (by omega))<|kas O<|aB ?_;refine aA<|rgN<|kmv O<|bD O O (cK (by omega)) dO<|aB<|aF O ?_;refine aH ?_)
      exact ⟨_,_,by omega,Le.of (by exact ⟨O,O,O,O,O,O,O,O,O,trivial⟩) (by exact trivial) (by exact O) (by exact O) (by exact O),_,_,k',by omega,O,O⟩
    ·(refine aA<|aA<|rgN<|kmv O<|bD O O (cK (by omega)) dO<|kmv O<|gmv O O O<|gmv O O O<|bL O O (wrap_u64 (by omega)) (dP O O) ?_;refine gmv O O O<|bL O O (wrap_u64 (by omega)) (dP O O) ?_;refine gmv O O O<|K.add O O (wrap_u64 (by omega)) (dP O O) ?_;refine aS O O (cK (by omega)) (dP O O) ?_;refine kpf O O<|aB<|aF O ?_;refine aJ ?_)
     exact ⟨_,Le.of (by exact ⟨O,O,O,O,O,O,O,O,O,trivial⟩) (by exact trivial) (by exact O) (by exact O) (by exact O),_,_,(kq1 q r k (by have:=k_end k (by omega);rwa [eY] at this)).1,O⟩
  ·rintro σ ⟨q1,r1,hq1,rfl⟩
   have hYp:0<Y:=by omega
   have hq1B:=digit_lt hYp hUY (show V/4294967296<4294967296 by omega) hq1
   obtain ⟨R,hR⟩:∃ R,(U*4294967296+V/4294967296)%Y=R:=⟨_,rfl⟩
   have hR0:=Int.emod_nonneg (U*4294967296+V/4294967296) (show Y≠0 by omega)
   have hR1:=Int.emod_lt_of_pos (U*4294967296+V/4294967296) hYp
   have hRe:=Int.emod_add_mul_ediv (U*4294967296+V/4294967296) Y
   rw [← hq1,Int.mul_comm Y q1] at hRe
   rw [hR] at hR0 hR1 hRe
   have hq10:0≤q1:=by rw [hq1];exact Int.ediv_nonneg (by omega) (by omega)
   have hsub1:IntKind.u64.wrap (IntKind.u64.wrap (IntKind.u64.wrap (U*4294967296)+V/4294967296)-IntKind.u64.wrap (q1*Y))=R:=by rw [wrap3 (by omega)];omega
   have ka2:KArg (Y/4294967296) (Y%4294967296) R (V%4294967296):=⟨by omega,by omega,by omega,by omega⟩
   have ks2:=k_start ka2
   have kq2:∀ q r,KInv (Y/4294967296) (Y%4294967296) R (V%4294967296) q r→q*Y≤R*4294967296+V%4294967296→q=(R*4294967296+V%4294967296)/Y∧R*4294967296+V%4294967296-q*Y=(R*4294967296+V%4294967296)%Y:=by
    intro q r k he
    have:=k_quo ka2 k (by rw [eY];exact he)
    rw [eY] at this
    exact this
   have hm2:0≤R/(Y/4294967296)*(Y/4294967296)∧R/(Y/4294967296)*(Y/4294967296)≤R:=by have:=ks2.r0;have:=ks2.eq;exact ⟨Int.mul_nonneg ks2.q0 (by omega),by omega⟩
   have hy2:R-R/(Y/4294967296)*(Y/4294967296)<Y/4294967296:=by
    have h2:=Int.emod_add_mul_ediv R (Y/4294967296)
    have h3:=Int.emod_lt_of_pos R (show 0<Y/4294967296 by omega)
    rw [Int.mul_comm] at h2
    omega
   (refine aA<|rgN<|kmv O<|bL O O O dO<|kmv O<|kad O O O<|kmv O<|kmv O<|bL O O O dO<|bA O O hsub1 dO<|kas O<|aB<|aA<|rgN ?_;refine kmv O<|kmv O<|K.quo O O (by omega) (quo_u64 (by omega) (by omega)) dO<|kas O<|aB<|aA<|rgN<|kmv O<|kmv O<|kmv O<|bL O O (wrap_u64 (by omega)) dO<|bA O O (wrap_u64 (by omega)) dO<|kas O<|aB ?_;refine aA<|aG ?_)
   refine LWP.meet (fun σ=>∃ q r:Int,q=(R*4294967296+V%4294967296)/Y∧σ=⟨[(2,Ln .u64 Y),(8,Ln .u64 s),(14,Ln .u64 (V%4294967296)),(15,Ln .u64 q1),(17,Ln .u64 R),(18,Ln .u64 q),(16,Ln .u64 r)],[],X⟩) ?_ ?_
   ·refine cG (fun m σ=>∃ q r:Int,KInv (Y/4294967296) (Y%4294967296) R (V%4294967296) q r∧r<4294967296∧m=q.toNat∧σ=⟨[(2,Ln .u64 Y),(8,Ln .u64 s),(9,Ln .u64 (Y/4294967296)),(10,Ln .u64 (Y%4294967296)),(14,Ln .u64 (V%4294967296)),(15,Ln .u64 q1),(17,Ln .u64 R),(18,Ln .u64 q),(16,Ln .u64 r)],[],X⟩) (R/(Y/4294967296)).toNat
     ⟨_,Le.of (by exact ⟨rfl,rfl,rfl,rfl,rfl,rfl,rfl,rfl,rfl,trivial⟩) (by exact trivial) (by exact rfl) (by exact rfl) (by exact rfl),_,_,ks2,by omega,rfl,rfl⟩ ?_
    rintro m σ ⟨q,r,k,hr,rfl,rfl⟩
    have hq0:=k.q0
    have hr0:=k.r0
    have hqU:q≤R:=by
     have:=k.eq
     have:=Int.mul_le_mul_of_nonneg_left (show (1:Int)≤Y/4294967296 by omega) hq0
     omega
    have next:∀ q' r',KInv (Y/4294967296) (Y%4294967296) R (V%4294967296) q' r'→4294967296≤r'→q'=(R*4294967296+V%4294967296)/Y:=fun q' r' k' h'=>(kq2 q' r' k' (by have:=k_break ka2 k' h';rwa [eY] at this)).1
    by_cases hq:4294967296≤q
    ·have k':=k_big ka2 k hq
     have hrn:=next _ _ k'
     by_cases hr2:4294967296≤r+Y/4294967296
     ·(refine aA<|aA<|rgN<|kmv O<|bD O O (cL (by omega)) dO<|kmv O<|aC O O O<|aC O O O<|aC O O O<|aC O O O<|aC O O O<|aC O O O<|aC O O O<|aC O O O ?_;refine kpt O O<|aB<|aE O ?_;refine aH ?_;refine aG<|aA<|rgN<|kmv O<|bA O O (wrap_u64 (by omega)) dO<|kas O<|aB<|aA<|rgN<|kmv O<|kmv O<|kad O O (wrap_u64 (by omega))<|kas O<|aB ?_;refine aA<|rgN<|kmv O<|bD O O (cL (by omega)) dO<|aB<|aE O ?_;refine aJ ?_)
      exact ⟨_,Le.of (by exact ⟨O,O,O,O,O,O,O,trivial⟩) (by exact trivial) (by exact O) (by exact O) (by exact O),_,_,hrn hr2,O⟩
     ·(refine aA<|aA<|rgN<|kmv O<|bD O O (cL (by omega)) dO<|kmv O<|aC O O O<|aC O O O<|aC O O O<|aC O O O<|aC O O O<|aC O O O<|aC O O O<|aC O O O ?_;refine kpt O O<|aB<|aE O ?_;refine aH ?_;refine aG<|aA<|rgN<|kmv O<|bA O O (wrap_u64 (by omega)) dO<|kas O<|aB<|aA<|rgN<|kmv O<|kmv O<|kad O O (wrap_u64 (by omega))<|kas O<|aB ?_;refine aA<|rgN<|kmv O<|bD O O (cK (by omega)) dO<|aB<|aF O ?_;refine aH ?_)
      exact ⟨_,_,by omega,Le.of (by exact ⟨O,O,O,O,O,O,O,O,O,trivial⟩) (by exact trivial) (by exact O) (by exact O) (by exact O),_,_,k',by omega,O,O⟩
    ·have hqy:=mul_bound (a:=q) (b:=Y%4294967296) (A:=4294967295) (B:=4294967295) ⟨hq0,by omega⟩ ⟨by omega,by omega⟩
     by_cases hb:4294967296*r+V%4294967296<q*(Y%4294967296)
     ·have k':=k_high ka2 k hb
      have hrn:=next _ _ k'
      have hq1:1≤q:=by have:=k'.q0;omega
      by_cases hr2:4294967296≤r+Y/4294967296
      ·(refine aA<|aA<|rgN<|kmv O<|bD O O (cK (by omega)) dO<|kmv O<|gmv O O O<|gmv O O O<|bL O O (wrap_u64 (by omega)) (dP O O) ?_;refine gmv O O O<|bL O O (wrap_u64 (by omega)) (dP O O) ?_;refine gmv O O O<|K.add O O (wrap_u64 (by omega)) (dP O O) ?_;refine aS O O (cL (by omega)) (dP O O) ?_;refine kpf O O<|aB<|aE O ?_;refine aH ?_;refine aG<|aA<|rgN<|kmv O<|bA O O (wrap_u64 (by omega)) dO<|kas O<|aB<|aA<|rgN<|kmv O<|kmv O<|kad O O (wrap_u64 (by omega))<|kas O<|aB ?_;refine aA<|rgN<|kmv O<|bD O O (cL (by omega)) dO<|aB<|aE O ?_;refine aJ ?_)
       exact ⟨_,Le.of (by exact ⟨O,O,O,O,O,O,O,trivial⟩) (by exact trivial) (by exact O) (by exact O) (by exact O),_,_,hrn hr2,O⟩
      ·(refine aA<|aA<|rgN<|kmv O<|bD O O (cK (by omega)) dO<|kmv O<|gmv O O O<|gmv O O O<|bL O O (wrap_u64 (by omega)) (dP O O) ?_;refine gmv O O O<|bL O O (wrap_u64 (by omega)) (dP O O) ?_;refine gmv O O O<|K.add O O (wrap_u64 (by omega)) (dP O O) ?_;refine aS O O (cL (by omega)) (dP O O) ?_;refine kpf O O<|aB<|aE O ?_;refine aH ?_;refine aG<|aA<|rgN<|kmv O<|bA O O (wrap_u64 (by omega)) dO<|kas O<|aB<|aA<|rgN<|kmv O<|kmv O<|kad O O (wrap_u64 (by omega))<|kas O<|aB ?_;refine aA<|rgN<|kmv O<|bD O O (cK (by omega)) dO<|aB<|aF O ?_;refine aH ?_)
       exact ⟨_,_,by omega,Le.of (by exact ⟨O,O,O,O,O,O,O,O,O,trivial⟩) (by exact trivial) (by exact O) (by exact O) (by exact O),_,_,k',by omega,O,O⟩
     ·(refine aA<|aA<|rgN<|kmv O<|bD O O (cK (by omega)) dO<|kmv O<|gmv O O O<|gmv O O O<|bL O O (wrap_u64 (by omega)) (dP O O) ?_;refine gmv O O O<|bL O O (wrap_u64 (by omega)) (dP O O) ?_;refine gmv O O O<|K.add O O (wrap_u64 (by omega)) (dP O O) ?_;refine aS O O (cK (by omega)) (dP O O) ?_;refine kpf O O<|aB<|aF O ?_;refine aJ ?_)
      exact ⟨_,Le.of (by exact ⟨O,O,O,O,O,O,O,trivial⟩) (by exact trivial) (by exact O) (by exact O) (by exact O),_,_,(kq2 q r k (by have:=k_end k (by omega);rwa [eY] at this)).1,O⟩
   ·rintro σ ⟨q2,r2,hq2,rfl⟩
    have hend:=quo_end hYp hq1 hR.symm hq2
    have hq2B:=digit_lt hYp hR1 (show V%4294967296<4294967296 by omega) hq2
    have hq20:0≤q2:=by rw [hq2];exact Int.ediv_nonneg (by omega) (by omega)
    obtain ⟨T,hT⟩:∃ T,(R*4294967296+V%4294967296)%Y=T:=⟨_,rfl⟩
    have hT0:=Int.emod_nonneg (R*4294967296+V%4294967296) (show Y≠0 by omega)
    have hT1:=Int.emod_lt_of_pos (R*4294967296+V%4294967296) hYp
    have hTe:=Int.emod_add_mul_ediv (R*4294967296+V%4294967296) Y
    rw [← hq2,Int.mul_comm Y q2] at hTe
    rw [hT] at hT0 hT1 hTe hend
    have hsub2:IntKind.u64.wrap (IntKind.u64.wrap (IntKind.u64.wrap (R*4294967296)+V%4294967296)-IntKind.u64.wrap (q2*Y))=T:=by rw [wrap3 (by omega)];omega
    (refine aA<|rgN<|kmv O<|bL O O (wrap_u64 (by omega)) dO<|kmv O<|kad O O (wrap_u64 (by omega))<|kmv O<|bL O O O dO<|kmv O<|kad O O O<|kmv O<|kmv O<|bL O O O dO<|bA O O hsub2 dO ?_;refine kmv O<|bN O O (by omega) (shr_s (by omega)) dO<|kas O<|kas O<|aB<|aI ?_)
    rw [← hsc.1,← hsc.2,← hend.1,← hend.2]
    exact ⟨[_,_],⟨O,O,trivial⟩,O⟩
end Go.Proofs.YtopiioklkkiedaaGreatDoor
end
section
namespace Go.Proofs.YtopiioklkkiedaaGreatDoor
open Go Go.Lg Go.Lg.Arith
variable (X:Nat→Option Obj)
theorem LZ_word {g:Int} (h:0≤g∧g<18446744073709551616):LZ g=Lz 0 g:=by
 unfold LZ
 rw [show g/18446744073709551616=0 by omega,show g%18446744073709551616=g by omega]
set_option maxHeartbeats 1000000 in
theorem divideLong_spec (M N:Int) (hM:Lim M) (hN:18446744073709551616≤N∧N<170141183460469231731687303715884105728):
  PSpec Tryz.prog X 233 [LZ M,LZ N] (.tup [SZ (M/N),SZ (M%N)]):=by
 obtain ⟨hM0,hM1⟩:=hM
 obtain ⟨H,hH⟩:∃ H,N/18446744073709551616=H:=⟨_,rfl⟩
 obtain ⟨l,hl⟩:∃ l,N%18446744073709551616=l:=⟨_,rfl⟩
 have hH1:0<H∧H<9223372036854775808:=by omega
 have hl1:0≤l∧l<18446744073709551616:=by omega
 have hlz:=lz_spec X H (by omega)
 obtain ⟨hs,hY1,hY2⟩:=lzOf_spec (y:=H) (by omega)
 generalize lzOf H=s at hlz hs hY1 hY2
 have hs1:1≤s:=by
  rcases Nat.eq_zero_or_pos s with h|h
  ·subst h;simp at hY1;omega
  ·exact h
 have hE:(0:Int)<2^s:=Int.pow_pos (by decide)
 have hF:(0:Int)<2^(64-s):=Int.pow_pos (by decide)
 have hEF:=pow_split (s:=s) (by omega)
 have hF2:(2:Int)≤2^(64-s):=by
  rw [show 64-s=(63-s)+1 by omega,Int.pow_succ]
  have:(0:Int)<2^(63-s):=Int.pow_pos (by decide)
  omega
 have hlo2:0≤l/2^(64-s)∧l/2^(64-s)<2^s:=by
  refine ⟨Int.ediv_nonneg hl1.1 (Int.le_of_lt hF),?_⟩
  rw [Int.ediv_lt_iff_lt_mul hF,hEF];exact hl1.2
 have hH2:0≤H*2^s:=Int.mul_nonneg (by omega) (Int.le_of_lt hE)
 obtain ⟨L,hL⟩:∃ L,H*2^s+l/2^(64-s)=L:=⟨_,rfl⟩
 have hLW:L<18446744073709551616:=by
  have h1:H<2^(64-s):=by
   rcases Int.lt_or_le H (2^(64-s)) with h|h
   ·exact h
   ·have:=Int.mul_le_mul_of_nonneg_right h (Int.le_of_lt hE)
    rw [Int.mul_comm ((2:Int)^(64-s)),hEF] at this
    omega
  have h2:=Int.mul_le_mul_of_nonneg_right (show H≤2^(64-s)-1 by omega) (Int.le_of_lt hE)
  rw [Int.sub_mul,Int.one_mul,Int.mul_comm ((2:Int)^(64-s)),hEF] at h2
  omega
 have hNL:∃ r0,N=L*2^(64-s)+r0∧0≤r0∧r0<2^(64-s):=by
  have h1:=Int.emod_add_mul_ediv l (2^(64-s))
  have h2:=Int.emod_nonneg l (show (2:Int)^(64-s)≠0 by omega)
  have h3:=Int.emod_lt_of_pos l hF
  refine ⟨l%2^(64-s),?_,h2,h3⟩
  have h4:H*2^s*2^(64-s)=H*18446744073709551616:=by rw [Int.mul_assoc,hEF]
  rw [← hL,Int.add_mul,h4,Int.mul_comm (l/2^(64-s))]
  omega
 obtain ⟨r0,hNL,hr0⟩:=hNL
 obtain ⟨g,hg⟩:∃ g,M/(L*2^(64-s))=g:=⟨_,rfl⟩
 obtain ⟨hg0,hgz,hgp⟩:=long_guess (M:=M) (N:=N) ⟨hM0,hM1⟩ (show 9223372036854775808≤L by omega) hF2 hNL hr0 hg.symm
 have hd3:=div3 (M:=M) (L:=L) (P:=2^(64-s)) (s:=s) hs rfl (by omega)
 rw [hg] at hd3
 have hNne:0<N:=by omega
 have hq0:=Int.emod_nonneg M (show N≠0 by omega)
 have hq1:=Int.emod_lt_of_pos M hNne
 have hq2:=Int.emod_add_mul_ediv M N
 have hqq:0≤M/N:=Int.ediv_nonneg hM0 (by omega)
 have hqW:M/N<18446744073709551616:=by
  rw [Int.ediv_lt_iff_lt_mul hNne];omega
 have hgW:g<18446744073709551617:=by
  rcases Int.lt_or_le g 18446744073709551617 with h|h
  ·exact h
  ·have h1:=(hgp (by omega)).1
   have:=Int.mul_le_mul (show (18446744073709551616:Int)≤g-1 by omega) hN.1 (by decide) (by omega)
   omega
 have hLZl:LZ N=Lz H l:=by unfold LZ;rw [hH,hl]
 have hor2:M/18446744073709551616%2*2^63+M%18446744073709551616/2=M/2%18446744073709551616:=by
  show M/18446744073709551616%2*9223372036854775808+M%18446744073709551616/2=_
  omega
 have hdiv:=Div64_spec X (M/18446744073709551616/2) (M/2%18446744073709551616) L (by omega) (by omega) hLW
 rw [show M/18446744073709551616/2*18446744073709551616+M/2%18446744073709551616=M/2 by omega] at hdiv
 have hMz:0≤M/2/L:=Int.ediv_nonneg (by omega) (by omega)
 have hcall:=compare_spec X
 rw [hLZl]
 refine cC Tryz.func233 rfl (by kernel_rfl) rfl rfl ?_
 intro C
 by_cases hg00:g=0
 ·have hMN:=hgz hg00
  subst hg00
  have e1:M/N=0:=Int.ediv_eq_zero_of_lt hM0 hMN
  have e2:M%N=M:=Int.emod_eq_of_lt hM0 hMN
  rw [e1,e2]
  have ht:=times_spec X N 0 ⟨by omega,by omega⟩ ⟨by omega,by omega⟩ (by omega) true (by simp)
  rw [LZ_word (g:=0) (by omega),Int.mul_zero,hLZl] at ht
  have hmi:=minus_spec X M 0 ⟨by omega,by omega⟩ ⟨by omega,by omega⟩ hM0
  rw [Int.sub_zero] at hmi
  have hcm:=compare_spec X M N (-1) (by simp [cmpI,hMN])
  rw [hLZl] at hcm
  ((refine aA<|rgN<|aL O O O dO<|aL O O O dO<|aP O dO ?_;refine aP O dO ?_;refine aB<|aA<|rgN<|kfa O O ?_;refine kl1 O O O<|kca O O (hlz)<|kcv O (by exact wrap_u64 (by omega)) ?_;refine kas O<|aB<|aA<|rgN<|kfa O O ?_;refine kl1 O O O<|kmv O<|K.shl O O (by omega) (shl_s (by omega) O ⟨hH2,hY2⟩) dO<|kfa O O ?_;refine kl1 O O O<|kmv O<|bA O O (wrap_u64 (by omega)) dO<|bN O O (by omega) (shr_64s (by omega)) dO<|K.bitop (by simp) O O (or_apart' (by omega) ⟨by omega,hY2⟩ hlo2 hL) dO<|kas O<|aB<|aA<|rgN<|kfa O O ?_;refine kl1 O O O<|bN O O (by omega) (shr_1 _) dO<|kfa O O ?_;refine kl1 O O O<|K.shl O O (by omega) (shl_63 _) dO<|kfa O O ?_;refine kl1 O O O<|bN O O (by omega) (shr_1 _) dO<|K.bitop (by simp) O O (or_apart' (by decide) (by omega) (by omega) hor2) dO<|kmv O<|kca O O (hdiv)<|kmv O<|kex O O<|kex O O<|kas O<|kas O<|aB<|aA<|rgN<|kmv O ?_;refine kmv O<|bA O O (wrap_u64 (by omega)) dO<|bN O O (by omega) ((shr_63s hs).trans hd3) dO<|kas O<|aB<|aA<|aA<|rgN<|kmv O<|kne O O ((cO (by omega)))<|aB<|aF O ?_;refine aH ?_);(refine aA<|rgN<|aK O O O dO ?_;refine kmv O<|aT O O (by exact O) (by exact nl2 O O O) dO ?_;refine kca O O (ht)<|kmv O<|kex O O<|kex O O<|aP O dO ?_;refine aM O O O O O O dO ?_;refine kas O<|aB<|aA<|rgN<|aK O O O dO ?_;refine aK O O O dO ?_;refine kca O O (hmi)<|aP O dO ?_;refine aM O O O O O O dO ?_;refine aB<|aA<|aA<|rgN<|aK O O O dO ?_;refine aK O O O dO ?_;refine kca O O (hcm)<|bD O O (cK (by omega)) dO<|aB<|aF O ?_;refine aH ?_);(refine aA<|rgD mixed<|kmv O<|aT O O (by exact O) (by exact nl2 O O O) dO ?_;refine aK O O O dO ?_;refine aM O O O O O O dO ?_;refine aM O O O O O O dO ?_;refine aB<|rgA ?_;refine aI ?_))
  exact ⟨[_,_],⟨⟨_,_,O,O,O,.inl ⟨AggT.h,O⟩⟩,⟨_,_,O,O,O,.inl ⟨AggT.h,O⟩⟩,trivial⟩,O⟩
 ·obtain ⟨h1,h2⟩:=hgp hg00
  obtain ⟨G,hG⟩:∃ G,g-1=G:=⟨_,rfl⟩
  rw [hG] at h1 h2
  have hGN:0≤G*N:=Int.mul_nonneg (by omega) (by omega)
  have ht:=times_spec X N G ⟨by omega,by omega⟩ ⟨by omega,by omega⟩ (by omega) true (cL (by rw [Int.mul_comm];omega))
  rw [LZ_word (g:=G) (by omega),Int.mul_comm N G,show G*N%340282366920938463463374607431768211456=G*N by omega,hLZl] at ht
  have hmi:=minus_spec X M (G*N) ⟨by omega,by omega⟩ ⟨by omega,by omega⟩ h1
  have huse:∀ q:Int,q*N≤M→M<q*N+N→M/N=q∧M%N=M-q*N:=by
   intro q a b
   have e:M/N=q:=by rw [Int.ediv_eq_iff_of_pos hNne];exact ⟨a,b⟩
   rw [e,Int.mul_comm] at hq2
   exact ⟨e,by omega⟩
  by_cases hlt:M-G*N<N
  ·obtain ⟨e1,e2⟩:=huse G h1 (by omega)
   rw [e1,e2]
   have hcm:=compare_spec X (M-G*N) N (-1) (by simp [cmpI,hlt])
   rw [hLZl] at hcm
   ((refine aA<|rgN<|aL O O O dO<|aL O O O dO<|aP O dO ?_;refine aP O dO ?_;refine aB<|aA<|rgN<|kfa O O ?_;refine kl1 O O O<|kca O O (hlz)<|kcv O (by exact wrap_u64 (by omega)) ?_;refine kas O<|aB<|aA<|rgN<|kfa O O ?_;refine kl1 O O O<|kmv O<|K.shl O O (by omega) (shl_s (by omega) O ⟨hH2,hY2⟩) dO<|kfa O O ?_;refine kl1 O O O<|kmv O<|bA O O (wrap_u64 (by omega)) dO<|bN O O (by omega) (shr_64s (by omega)) dO<|K.bitop (by simp) O O (or_apart' (by omega) ⟨by omega,hY2⟩ hlo2 hL) dO<|kas O<|aB<|aA<|rgN<|kfa O O ?_;refine kl1 O O O<|bN O O (by omega) (shr_1 _) dO<|kfa O O ?_;refine kl1 O O O<|K.shl O O (by omega) (shl_63 _) dO<|kfa O O ?_;refine kl1 O O O<|bN O O (by omega) (shr_1 _) dO<|K.bitop (by simp) O O (or_apart' (by decide) (by omega) (by omega) hor2) dO<|kmv O<|kca O O (hdiv)<|kmv O<|kex O O<|kex O O<|kas O<|kas O<|aB<|aA<|rgN<|kmv O ?_;refine kmv O<|bA O O (wrap_u64 (by omega)) dO<|bN O O (by omega) ((shr_63s hs).trans hd3) dO<|kas O<|aB<|aA<|aA<|rgN<|kmv O<|kne O O (cP (by omega))<|aB<|aE O ?_;refine rgN<|kmv O<|bA O O ((wrap_u64 (by omega)).trans hG) dO<|kas O<|aB<|aA<|rgN<|aK O O O dO ?_);(refine kmv O<|aT O O (by exact O) (by exact nl2 O O O) dO ?_;refine kca O O (ht)<|kmv O<|kex O O<|kex O O<|aP O dO ?_;refine aM O O O O O O dO ?_;refine kas O<|aB<|aA<|rgN<|aK O O O dO ?_;refine aK O O O dO ?_;refine kca O O (hmi)<|aP O dO ?_;refine aM O O O O O O dO ?_;refine aB<|aA<|aA<|rgN<|aK O O O dO ?_;refine aK O O O dO ?_;refine kca O O (hcm)<|bD O O (cK (by omega)) dO<|aB<|aF O ?_;refine aH ?_;refine aA<|rgD mixed<|kmv O<|aT O O (by exact O) (by exact nl2 O O O) dO ?_);(refine aK O O O dO ?_;refine aM O O O O O O dO ?_;refine aM O O O O O O dO ?_;refine aB<|rgA ?_;refine aI ?_))
   rw [show SZ G = .agg [.val (.int .u64 0),.val (.int .u64 G)] by unfold SZ;rw [show G/18446744073709551616=0 by omega,show G%18446744073709551616=G by omega]]
   exact ⟨[_,_],⟨⟨_,_,O,O,O,.inl ⟨AggT.h,O⟩⟩,⟨_,_,O,O,O,.inl ⟨AggT.h,O⟩⟩,trivial⟩,O⟩
  ·have hG1:(G+1)*N=G*N+N:=by rw [Int.add_mul,Int.one_mul]
   obtain ⟨e1,e2⟩:=huse (G+1) (by omega) (by omega)
   rw [e1] at hqW
   rw [e1,e2,hG1,show M-(G*N+N)=M-G*N-N by omega]
   have hcm:∃ r,(r=0∨r=1)∧cmpI (M-G*N) N=r:=⟨_,by unfold cmpI;(repeat' split)<;>omega,rfl⟩
   obtain ⟨r,hr,hcm⟩:=hcm
   have hcm:=compare_spec X (M-G*N) N r hcm
   have hmi2:=minus_spec X (M-G*N) N ⟨by omega,by omega⟩ ⟨by omega,by omega⟩ (by omega)
   rw [hLZl] at hcm hmi2
   ((refine aA<|rgN<|aL O O O dO<|aL O O O dO<|aP O dO ?_;refine aP O dO ?_;refine aB<|aA<|rgN<|kfa O O ?_;refine kl1 O O O<|kca O O (hlz)<|kcv O (by exact wrap_u64 (by omega)) ?_;refine kas O<|aB<|aA<|rgN<|kfa O O ?_;refine kl1 O O O<|kmv O<|K.shl O O (by omega) (shl_s (by omega) O ⟨hH2,hY2⟩) dO<|kfa O O ?_;refine kl1 O O O<|kmv O<|bA O O (wrap_u64 (by omega)) dO<|bN O O (by omega) (shr_64s (by omega)) dO<|K.bitop (by simp) O O (or_apart' (by omega) ⟨by omega,hY2⟩ hlo2 hL) dO<|kas O<|aB<|aA<|rgN<|kfa O O ?_;refine kl1 O O O<|bN O O (by omega) (shr_1 _) dO<|kfa O O ?_;refine kl1 O O O<|K.shl O O (by omega) (shl_63 _) dO<|kfa O O ?_;refine kl1 O O O<|bN O O (by omega) (shr_1 _) dO<|K.bitop (by simp) O O (or_apart' (by decide) (by omega) (by omega) hor2) dO<|kmv O<|kca O O (hdiv)<|kmv O<|kex O O<|kex O O<|kas O<|kas O<|aB<|aA<|rgN<|kmv O ?_;refine kmv O<|bA O O (wrap_u64 (by omega)) dO<|bN O O (by omega) ((shr_63s hs).trans hd3) dO<|kas O<|aB<|aA<|aA<|rgN<|kmv O<|kne O O (cP (by omega))<|aB<|aE O ?_;refine rgN<|kmv O<|bA O O ((wrap_u64 (by omega)).trans hG) dO<|kas O<|aB<|aA<|rgN<|aK O O O dO ?_);(refine kmv O<|aT O O (by exact O) (by exact nl2 O O O) dO ?_;refine kca O O (ht)<|kmv O<|kex O O<|kex O O<|aP O dO ?_;refine aM O O O O O O dO ?_;refine kas O<|aB<|aA<|rgN<|aK O O O dO ?_;refine aK O O O dO ?_;refine kca O O (hmi)<|aP O dO ?_;refine aM O O O O O O dO ?_;refine aB<|aA<|aA<|rgN<|aK O O O dO ?_;refine aK O O O dO ?_;refine kca O O (hcm)<|bD O O (cL (by omega)) dO<|aB<|aE O ?_;refine aA<|rgN<|kmv O<|kad O O (wrap_u64 (by omega))<|kas O<|aB<|rgN<|aK O O O dO ?_;refine aK O O O dO ?_);(refine kca O O (hmi2)<|aM O O O O O O dO ?_;refine aB<|aA<|rgD mixed<|kmv O<|aT O O (by exact O) (by exact nl2 O O O) dO ?_;refine aK O O O dO ?_;refine aM O O O O O O dO ?_;refine aM O O O O O O dO ?_;refine aB<|rgA ?_;refine aI ?_))
   rw [show SZ (G+1) = .agg [.val (.int .u64 0),.val (.int .u64 (G+1))] by unfold SZ;rw [show (G+1)/18446744073709551616=0 by omega,show (G+1)%18446744073709551616=G+1 by omega]]
   exact ⟨[_,_],⟨⟨_,_,O,O,O,.inl ⟨AggT.h,O⟩⟩,⟨_,_,O,O,O,.inl ⟨AggT.h,O⟩⟩,trivial⟩,O⟩
end Go.Proofs.YtopiioklkkiedaaGreatDoor
end
section
namespace Go.Proofs.YtopiioklkkiedaaGreatDoor
open Go Go.Lg Go.Lg.Arith
variable (X:Nat→Option Obj)
theorem two_word {T d Y:Int} (hY:0<Y) (hd:0≤d∧d<18446744073709551616) (hT:0≤T):
  (T*18446744073709551616+d)/Y=T/Y*18446744073709551616+(T%Y*18446744073709551616+d)/Y∧(T*18446744073709551616+d)%Y=(T%Y*18446744073709551616+d)%Y ∧
  0≤(T%Y*18446744073709551616+d)/Y∧(T%Y*18446744073709551616+d)/Y<18446744073709551616∧0≤T%Y∧T%Y<Y∧0≤T/Y:=by
 have h:=Int.emod_add_mul_ediv T Y
 have h0:=Int.emod_nonneg T (show Y≠0 by omega)
 have h1:=Int.emod_lt_of_pos T hY
 have e:T*18446744073709551616+d=(T%Y*18446744073709551616+d)+Y*(T/Y*18446744073709551616):=by
  rw [← Int.mul_assoc]
  generalize Y*(T/Y)=a at *
  omega
 have hq0:0≤(T%Y*18446744073709551616+d)/Y:=Int.ediv_nonneg (by omega) (by omega)
 have hq1:(T%Y*18446744073709551616+d)/Y<18446744073709551616:=by rw [Int.ediv_lt_iff_lt_mul hY];omega
 refine ⟨?_,?_,hq0,hq1,h0,h1,Int.ediv_nonneg hT (by omega)⟩
 ·rw [e,Int.add_mul_ediv_left _ _ (by omega)];omega
 ·rw [e,Int.add_mul_emod_self_left]
theorem divide_spec (M N:Int) (hM:Lim M) (hN:0<N∧N<170141183460469231731687303715884105728):
  PSpec Tryz.prog X 217 [LZ M,LZ N] (.tup [SZ (M/N),SZ (M%N)]):=by
 obtain ⟨hM0,hM1⟩:=hM
 refine cC Tryz.func217 rfl (by kernel_rfl) rfl rfl ?_
 intro C
 by_cases hl:18446744073709551616≤N
 ·(refine aA<|rgN<|aL O O O dO<|aL O O O dO<|aP O dO ?_;refine aP O dO ?_;refine aB<|aA<|aA<|rgN<|kfa O O ?_;refine kl1 O O O<|kne O O (cP (by omega))<|aB<|aE O ?_;refine aA<|rgN<|aK O O O dO ?_;refine aK O O O dO ?_;refine kca O O (divideLong_spec _ _ _ ⟨hM0,hM1⟩ ⟨hl,hN.2⟩)<|kex O O<|kex O O<|aM O O O O O O dO ?_;refine aM O O O O O O dO ?_;refine aB<|aI ?_)
  exact ⟨[_,_],⟨⟨_,_,O,O,O,.inl ⟨AggT.h,O⟩⟩,⟨_,_,O,O,O,.inl ⟨AggT.h,O⟩⟩,trivial⟩,O⟩
 ·obtain ⟨t1,t2,t3,t4,t5,t6,t7⟩:=two_word (T:=M/18446744073709551616) (d:=M%18446744073709551616) (Y:=N) hN.1 (by omega) (by omega)
  rw [show M/18446744073709551616*18446744073709551616+M%18446744073709551616=M by omega] at t1 t2
  have eN:N%18446744073709551616=N:=by omega
  have hd:=Div64_spec X (M/18446744073709551616%N) (M%18446744073709551616) N ⟨t5,t6⟩ (by omega) (by omega)
  have hr0:=Int.emod_nonneg M (show N≠0 by omega)
  have hr1:=Int.emod_lt_of_pos M hN.1
  rw [← t2] at hd
  rw [← eN] at hd
  rw [LZ_word (g:=N) (by omega)]
  rw [eN] at hd
  have hq:M/18446744073709551616/N<18446744073709551616:=by
   have:=Int.ediv_le_self N (show 0≤M/18446744073709551616 by omega);omega
  (refine aA<|rgN<|aL O O O dO<|aL O O O dO<|aP O dO ?_;refine aP O dO ?_;refine aB<|aA<|aA<|rgN<|kfa O O ?_;refine kl1 O O O<|kne O O ((cO (by omega)))<|aB<|aF O ?_;refine aH ?_;refine aA<|rgD mixed<|kfa O O ?_;refine kl1 O O O<|kfa O O ?_;refine kl1 O O O<|K.quo O O (by omega) (quo_u64 (by omega) (by omega)) dO<|kfa O O ?_;refine kl1 O O O<|kfa O O ?_;refine kl1 O O O<|K.rem O O (by omega) (rem_pos (by omega)) dO<|kas O<|kas O<|aB<|rgA ?_;refine aA<|rgN<|kmv O<|kfa O O ?_;refine kl1 O O O<|kfa O O ?_;refine kl1 O O O<|kca O O (hd)<|kmv O<|kex O O<|kex O O<|kas O<|kas O<|aB<|aA<|rgN<|kmv O<|kmv O<|aT O O (by exact O) (by exact nl2 O O O) dO ?_;refine kmv O<|aT O O (by exact O) (by exact nl2 O O O) dO ?_;refine aM O O O O O O dO ?_;refine aM O O O O O O dO ?_;refine aB<|aI ?_)
  rw [show SZ (M/N) = .agg [.val (.int .u64 (M/18446744073709551616/N)),.val (.int .u64 ((M/18446744073709551616%N*18446744073709551616+M%18446744073709551616)/N))] by
    unfold SZ;rw [show M/N/18446744073709551616=M/18446744073709551616/N by omega,show M/N%18446744073709551616=(M/18446744073709551616%N*18446744073709551616+M%18446744073709551616)/N by omega],
   show SZ (M%N) = .agg [.val (.int .u64 0),.val (.int .u64 (M%N))] by unfold SZ;rw [show M%N/18446744073709551616=0 by omega,show M%N%18446744073709551616=M%N by omega]]
  exact ⟨[_,_],⟨⟨_,_,O,O,O,.inl ⟨AggT.h,O⟩⟩,⟨_,_,O,O,O,.inl ⟨AggT.h,O⟩⟩,trivial⟩,O⟩
theorem divisible_spec (b c:Bool) (M N:Int) (hM:In2 M) (hN:In2 N) (r:Bool) (hr:((formB b M&&formB c N) && !(N==0))=r):PSpec Tryz.prog X 216 [LI b M,LI c N] (Lb r):=by
 subst hr
 refine cC Tryz.func216 rfl (by kernel_rfl) rfl rfl ?_
 intro C
 cases hf:(formB b M&&formB c N)
 ·(refine aA<|rgN<|aL O O O dO<|aL O O O dO<|kas O<|aB<|aA<|rgN<|aK O O O dO ?_;refine aK O O O dO ?_;refine kca O O (bothForm_spec _ _ _ _ _ hM hN _ hf)<|kmv O<|aC O O O<|aC O O O<|aC O O O<|aC O O O<|kpf O O<|kas O<|aB<|aI ?_)
  exact ⟨[_],⟨rfl,trivial⟩,by simp [resOf]⟩
 ·(refine aA<|rgN<|aL O O O dO<|aL O O O dO<|kas O<|aB<|aA<|rgN<|aK O O O dO ?_;refine aK O O O dO ?_;refine kca O O (bothForm_spec _ _ _ _ _ hM hN _ hf)<|kmv O<|aK O O O (dP O O) ?_;refine gca O O (sizeOf_spec _ _ _ _) O O<|gca O O (zero_spec _ _ hN _ O) O O<|aV O O (dP O O) ?_;refine kpt O O<|kas O<|aB<|aI ?_)
  exact ⟨[_],⟨rfl,trivial⟩,by simp [resOf]⟩
theorem Quo_arg (b c:Bool) (M N:Int) (hM:In2 M) (hN:In2 N) (hf:((formB b M&&formB c N) && !(N==0))=false):PSpec Tryz.prog X 186 [LI b M,LI c N] (.tup [S0,Sn .i64 1]):=by
 refine cC Tryz.func186 rfl (by kernel_rfl) rfl rfl ?_
 intro C
 (refine aA<|rgN<|aL O O O dO<|aL O O O dO<|aP O dO ?_;refine kas O<|aB<|aA<|aA<|rgN<|aK O O O dO ?_;refine aK O O O dO ?_;refine kca O O (divisible_spec _ _ _ _ _ hM hN _ hf)<|aV O O dO<|aB<|aE O ?_;refine aA<|rgN<|aT O O (by exact O) (by exact nl3 O O O O) dO ?_;refine aM O O O O O O dO ?_;refine kas O<|aB<|aI ?_)
 exact ⟨[_,_],⟨⟨_,_,O,O,O,.inl ⟨AggT.h,O⟩⟩,O,trivial⟩,O⟩
theorem Rem_arg (b c:Bool) (M N:Int) (hM:In2 M) (hN:In2 N) (hf:((formB b M&&formB c N) && !(N==0))=false):PSpec Tryz.prog X 187 [LI b M,LI c N] (.tup [S0,Sn .i64 1]):=by
 refine cC Tryz.func187 rfl (by kernel_rfl) rfl rfl ?_
 intro C
 (refine aA<|rgN<|aL O O O dO<|aL O O O dO<|aP O dO ?_;refine kas O<|aB<|aA<|aA<|rgN<|aK O O O dO ?_;refine aK O O O dO ?_;refine kca O O (divisible_spec _ _ _ _ _ hM hN _ hf)<|aV O O dO<|aB<|aE O ?_;refine aA<|rgN<|aT O O (by exact O) (by exact nl3 O O O O) dO ?_;refine aM O O O O O O dO ?_;refine kas O<|aB<|aI ?_)
 exact ⟨[_,_],⟨⟨_,_,O,O,O,.inl ⟨AggT.h,O⟩⟩,O,trivial⟩,O⟩
theorem mg_zero {y:Int} (hy:y≠0):0<mg y:=by unfold mg;split<;>omega
theorem zv_quo (x y:Int) (hy:y≠0):zv (decide (x<0) != decide (y<0)) (mg x/mg y)=x.tdiv y∧zv (decide (x<0)) (mg x%mg y)=x.tmod y:=by
 unfold zv mg
 by_cases cx:x<0<;>by_cases cy:y<0
 all_goals simp only [cx,cy,decide_true,decide_false,if_true,if_false,bne_self_eq_false,Bool.false_eq_true,Bool.true_bne,Bool.false_bne,Bool.not_false]
 ·obtain ⟨a,rfl⟩:∃ a,x = -a:=⟨-x,by omega⟩
  obtain ⟨b,rfl⟩:∃ b,y = -b:=⟨-y,by omega⟩
  simp only [Int.neg_neg,Int.neg_tdiv,Int.tdiv_neg,Int.neg_tmod,Int.tmod_neg]
  rw [Int.tdiv_eq_ediv_of_nonneg (by omega),Int.tmod_eq_emod_of_nonneg (by omega)]
  exact ⟨O,O⟩
 ·obtain ⟨a,rfl⟩:∃ a,x = -a:=⟨-x,by omega⟩
  simp only [Int.neg_neg,Int.neg_tdiv,Int.neg_tmod]
  rw [Int.tdiv_eq_ediv_of_nonneg (by omega),Int.tmod_eq_emod_of_nonneg (by omega)]
  exact ⟨O,O⟩
 ·obtain ⟨b,rfl⟩:∃ b,y = -b:=⟨-y,by omega⟩
  simp only [Int.neg_neg,Int.tdiv_neg,Int.tmod_neg]
  rw [Int.tdiv_eq_ediv_of_nonneg (by omega),Int.tmod_eq_emod_of_nonneg (by omega)]
  exact ⟨O,O⟩
 ·rw [Int.tdiv_eq_ediv_of_nonneg (by omega),Int.tmod_eq_emod_of_nonneg (by omega)]
  exact ⟨O,O⟩
theorem mg_zero' {y:Int} (hy:y≠0):(mg y==0)=false:=by
 have:=mg_zero hy
 exact cN (by omega)
theorem Quo_q (x y:Int) (hx:R127 x) (hy:R127 y) (h0:y≠0):PSpec Tryz.prog X 186 [LQ x,LQ y] (.tup [SQ (x.tdiv y),Sn .i64 0]):=by
 have hB:=divisible_spec X _ _ _ _ (mg_in2 hx) (mg_in2 hy) true (by rw [both_q hx hy,mg_zero' h0];rfl)
 have hd:=divide_spec X (mg x) (mg y) ⟨mg_nonneg x,mg_lim hx⟩ ⟨mg_zero h0,mg_lim hy⟩
 have hq0:0≤mg x/mg y:=Int.ediv_nonneg (mg_nonneg x) (mg_nonneg y)
 have hq1:=Int.ediv_le_self (mg y) (mg_nonneg x)
 have hl:=mg_lim hx
 have hn:=number_spec X (decide (x<0) != decide (y<0)) (mg x/mg y) ⟨hq0,by omega⟩ _ rfl
 rw [← tup_q hq0 (zv_quo x y h0).1]
 refine cC Tryz.func186 rfl (by kernel_rfl) rfl rfl ?_
 intro C
 (refine aA<|rgN<|aL O O O dO<|aL O O O dO<|aP O dO ?_;refine kas O<|aB<|aA<|aA<|rgN<|aK O O O dO ?_;refine aK O O O dO ?_;refine kca O O (hB)<|aV O O dO<|aB<|aF O ?_;refine aH ?_;refine aA<|rgD mixed<|aK O O O dO ?_;refine kca O O (sizeOf_spec _ _ _ _)<|aK O O O dO ?_;refine kca O O (sizeOf_spec _ _ _ _)<|kca O O (hd)<|kmv O<|kex O O<|kex O O<|aP O dO ?_;refine aP O dO ?_;refine aM O O O O O O dO ?_;refine aM O O O O O O dO ?_;refine aB<|rgA ?_;refine aA<|rgN<|kfa O O ?_;refine kl1 O O O<|kfa O O ?_;refine kl1 O O O<|K.neqB O O O dO<|aK O O O dO ?_;refine kca O O (hn)<|aM O O O O O O dO ?_;refine kas O<|aB<|aI ?_)
 exact ⟨[_,_],⟨⟨_,_,O,O,O,.inl ⟨AggT.h,O⟩⟩,O,trivial⟩,O⟩
theorem Rem_q (x y:Int) (hx:R127 x) (hy:R127 y) (h0:y≠0):PSpec Tryz.prog X 187 [LQ x,LQ y] (.tup [SQ (x.tmod y),Sn .i64 0]):=by
 have hB:=divisible_spec X _ _ _ _ (mg_in2 hx) (mg_in2 hy) true (by rw [both_q hx hy,mg_zero' h0];rfl)
 have hd:=divide_spec X (mg x) (mg y) ⟨mg_nonneg x,mg_lim hx⟩ ⟨mg_zero h0,mg_lim hy⟩
 have hq0:0≤mg x%mg y:=Int.emod_nonneg _ (by have:=mg_zero h0;omega)
 have hq1:=Int.emod_lt_of_pos (mg x) (mg_zero h0)
 have hl:=mg_lim hy
 have hn:=number_spec X (decide (x<0)) (mg x%mg y) ⟨hq0,by omega⟩ _ rfl
 rw [← tup_q hq0 (zv_quo x y h0).2]
 refine cC Tryz.func187 rfl (by kernel_rfl) rfl rfl ?_
 intro C
 (refine aA<|rgN<|aL O O O dO<|aL O O O dO<|aP O dO ?_;refine kas O<|aB<|aA<|aA<|rgN<|aK O O O dO ?_;refine aK O O O dO ?_;refine kca O O (hB)<|aV O O dO<|aB<|aF O ?_;refine aH ?_;refine aA<|rgD mixed<|aK O O O dO ?_;refine kca O O (sizeOf_spec _ _ _ _)<|aK O O O dO ?_;refine kca O O (sizeOf_spec _ _ _ _)<|kca O O (hd)<|kmv O<|kex O O<|kex O O<|aP O dO ?_;refine aP O dO ?_;refine aM O O O O O O dO ?_;refine aM O O O O O O dO ?_;refine aB<|rgA ?_;refine aA<|rgN<|kfa O O ?_;refine kl1 O O O<|aK O O O dO ?_;refine kca O O (hn)<|aM O O O O O O dO ?_;refine kas O<|aB<|aI ?_)
 exact ⟨[_,_],⟨⟨_,_,O,O,O,.inl ⟨AggT.h,O⟩⟩,O,trivial⟩,O⟩
end Go.Proofs.YtopiioklkkiedaaGreatDoor
end
section
namespace Go.Lg.Dec
open Go Go.Lib
def pad:Nat→Nat→List UInt8
 | 0,_=>[]
 | k+1,u=>pad k (u/10)++[UInt8.ofNat (48+u%10)]
end Go.Lg.Dec
namespace Go.Proofs.YtopiioklkkiedaaGreatDoor
open Go Go.Lg Go.Lg.Arith Go.Lg.Dec Go.RowKit
variable (X:Nat→Option Obj)
end Go.Proofs.YtopiioklkkiedaaGreatDoor
end
section
namespace Go.Proofs.YtopiioklkkiedaaGreatDoor
open Go Go.Lg Go.Lg.Arith Go.Lg.Dec Go.Lg.Dig Go.RowKit
variable (X:Nat→Option Obj)
def part (M N i j:Nat):Nat:=M%256^i*N+dg M i*(N%256^j)*256^i
end Go.Proofs.YtopiioklkkiedaaGreatDoor
end
section
namespace Go.Lg
open Go Go.RowKit Go.Lg.Dig
end Go.Lg
namespace Go.Proofs.YtopiioklkkiedaaGreatDoor
open Go Go.Lg Go.Lg.Arith Go.Lg.Dec Go.Lg.Dig Go.RowKit
variable (X:Nat→Option Obj)
instance:ArrB Tryz.prog 200 (List.replicate 40 (.int .i64 0)) 1:=⟨by kernel_rfl⟩
end Go.Proofs.YtopiioklkkiedaaGreatDoor
end
section
namespace Go.Proofs.YtopiioklkkiedaaGreatDoor
open Go Go.Lg Go.Lg.Arith Go.Lg.Dec Go.Lg.Dig Go.RowKit
variable (X:Nat→Option Obj)
structure Half (M n:Nat) (s:List UInt8):Prop where
 more:s=[]∨n≠0→Lib.decDigits M=Lib.decDigits n++s
 done:s≠[]→n=0→Lib.decDigits M=s
end Go.Proofs.YtopiioklkkiedaaGreatDoor
end
section
namespace Go.Proofs.YtopiioklkkiedaaGreatDoor
open Go Go.Lg Go.Lg.Fml Go.Lg.Fld
structure CodesIn (X:Nat→Option Obj) (ad:Option Addr) (cs:List (List Ins)):Prop where
 at_:∀ (i:Nat) (c:List Ins),cs[i]? = some c→∃ (blk off:Nat) (arr:Array Value) (el:TypeId) (fr:Nat×Nat) (vad:Option Addr) (vcap:Nat),ad=some ⟨blk,off,none⟩∧X blk=some (.cells arr el fr)∧off+i*1+1≤arr.size∧arr[off+i]? = some (.slice vad c.length vcap)∧InsIn X vad c
theorem CodesIn.mono {X Y:Nat→Option Obj} (hXY:∀ b o,X b=some o→Y b=some o) {ad:Option Addr} {cs:List (List Ins)} (h:CodesIn X ad cs):CodesIn Y ad cs:=⟨fun i c hc=>by
 obtain ⟨blk,off,arr,el,fr,vad,vcap,h1,h2,h3,h4,h5⟩:=h.at_ i c hc
 exact ⟨blk,off,arr,el,fr,vad,vcap,h1,hXY _ _ h2,h3,h4,h5.mono hXY⟩⟩
theorem CodesIn.nil {X:Nat→Option Obj} {ad:Option Addr}:CodesIn X ad []:=⟨fun i c h=>by simp at h⟩
def smallR (r:Rl):Prop:=(-9223372036854775808≤r.nw∧r.nw<9223372036854775808)∧(-9223372036854775808≤r.old∧r.old<9223372036854775808)
structure RulesIn (X:Nat→Option Obj) (ad:Option Addr) (rs:List Rl):Prop where
 at_:∀ (i:Nat) (r:Rl),rs[i]? = some r→∃ (blk off:Nat) (arr:Array Value) (el:TypeId) (fr:Nat×Nat) (ead:Option Addr) (ecap:Nat),ad=some ⟨blk,off,none⟩∧X blk=some (.cells arr el fr)∧off+i*3+3≤arr.size∧(arr.toList.drop (off+i*3)).take 3=[.int .i64 r.nw,.int .i64 r.old,.slice ead r.ex.length ecap]∧CodesIn X ead r.ex
 small:∀ r∈rs,smallR r
theorem RulesIn.mono {X Y:Nat→Option Obj} (hXY:∀ b o,X b=some o→Y b=some o) {ad:Option Addr} {rs:List Rl} (h:RulesIn X ad rs):RulesIn Y ad rs:=⟨fun i c hc=>by
 obtain ⟨blk,off,arr,el,fr,vad,vcap,h1,h2,h3,h4,h5⟩:=h.at_ i c hc
 exact ⟨blk,off,arr,el,fr,vad,vcap,h1,hXY _ _ h2,h3,h4,h5.mono hXY⟩,h.small⟩
theorem RulesIn.nil {X:Nat→Option Obj} {ad:Option Addr}:RulesIn X ad []:=⟨fun i c h=>by simp at h,fun r hr=>by cases hr⟩
theorem RulesIn.get {X:Nat→Option Obj} {ad:Option Addr} {rs:List Rl} (h:RulesIn X ad rs) {i:Nat} {r:Rl} (hr:rs[i]? = some r):∃ (blk off:Nat) (arr:Array Value) (el:TypeId) (fr:Nat×Nat) (ead:Option Addr) (ecap:Nat),ad=some ⟨blk,off,none⟩∧X blk=some (.cells arr el fr)∧off+i*3+3≤arr.size ∧
  ((arr.toList.drop (off+i*3)).take 3).map CV.val=[.val (.int .i64 r.nw),.val (.int .i64 r.old),.val (.slice ead r.ex.length ecap)]∧arr[off+i*3]? = some (.int .i64 r.nw)∧arr[off+i*3+1]? = some (.int .i64 r.old)∧arr[off+i*3+2]? = some (.slice ead r.ex.length ecap)∧CodesIn X ead r.ex:=by
 obtain ⟨blk,off,arr,el,fr,ead,ecap,h1,h2,h3,h4,h5⟩:=h.at_ i r hr
 have key:∀ j,j<3→arr[off+i*3+j]? = ([.int .i64 r.nw,.int .i64 r.old,.slice ead r.ex.length ecap]:List Value)[j]? := fun j hj=>by
  rw [← h4,List.getElem?_take,if_pos hj,List.getElem?_drop,Array.getElem?_toList]
 exact ⟨blk,off,arr,el,fr,ead,ecap,h1,h2,h3,by rw [h4];rfl,key 0 (by omega),key 1 (by omega),key 2 (by omega),h5⟩
def sizeR (rs:List Rl):Prop := ∀ r∈rs,r.ex.length<1152921504606846976∧∀ c∈r.ex,c.length<1152921504606846976
end Go.Proofs.YtopiioklkkiedaaGreatDoor
end
section
namespace Go.Proofs.YtopiioklkkiedaaGreatDoor
open Go Go.Lg Go.Lg.Arith Go.Lg.Dec Go.RowKit
theorem parts_facts {x y:Int} (hx:R127 x) (hy:R127 y) (h0:y≠0):
  R127 (x.tdiv y)∧R127 (x.tmod y)∧R127 (x.tdiv y*y)∧x.tdiv y*y+x.tmod y=x∧mg (x.tmod y)<mg y∧(x.tmod y<0→x<0)∧(0<x.tmod y→0<x):=by
 obtain ⟨h1,h2⟩:=zv_quo x y h0
 have hB:=mg_zero h0
 have hA0:=mg_nonneg x
 have hR0:=Int.emod_nonneg (mg x) (show mg y≠0 by omega)
 have hR1:=Int.emod_lt_of_pos (mg x) hB
 have hQ0:=Int.ediv_nonneg hA0 (Int.le_of_lt hB)
 have hQ1:=Int.ediv_le_self (mg y) hA0
 have hE:=Int.emod_add_mul_ediv (mg x) (mg y)
 have hT0:=Int.mul_nonneg hQ0 (Int.le_of_lt hB)
 rw [Int.mul_comm (mg y) (mg x/mg y)] at hE
 rw [← h1,← h2]
 have key:zv (decide (x<0) != decide (y<0)) (mg x/mg y)*y=zv (decide (x<0)) (mg x/mg y*mg y):=by
  by_cases cy:y<0
  ·have hy':mg y = -y:=mg_neg cy
   generalize mg x/mg y=Q
   by_cases cx:x<0<;>simp only [cx,cy,decide_true,decide_false,zv,bne_self_eq_false,Bool.false_bne,if_true,if_false,Bool.false_eq_true]
   ·rw [hy',Int.mul_neg,Int.neg_neg]
   ·rw [hy',Int.mul_neg,Int.neg_mul]
  ·have hy':mg y=y:=mg_pos (by omega)
   generalize mg x/mg y=Q
   by_cases cx:x<0<;>simp only [cx,cy,decide_true,decide_false,zv,bne_self_eq_false,Bool.true_bne,Bool.not_false,if_true,if_false,Bool.false_eq_true]
   ·rw [hy',Int.neg_mul]
   ·rw [hy']
 have zR:∀ (b:Bool) (n:Int),0≤n→n<170141183460469231731687303715884105728→R127 (zv b n):=by
  intro b n h1 h2
  unfold R127 zv
  cases b<;>simp only [if_true,if_false,Bool.false_eq_true]<;>omega
 have hlx:=mg_lim hx
 have hly:=mg_lim hy
 rw [key]
 generalize mg x/mg y*mg y=T at *
 generalize mg x/mg y=Q at *
 generalize mg x%mg y=R at *
 refine ⟨zR _ _ hQ0 (by omega),zR _ _ hR0 (by omega),zR _ _ hT0 (by omega),?_,?_,?_,?_⟩
 ·by_cases cx:x<0
  ·rw [cL cx]
   have:=mg_neg cx
   show -T + -R=x
   omega
  ·rw [cK cx]
   have:=mg_pos (Int.not_lt.1 cx)
   show T+R=x
   omega
 ·by_cases cx:x<0
  ·rw [cL cx]
   show mg (-R)<mg y
   by_cases c:R=0
   ·subst c;exact hB
   ·rw [mg_neg (z := -R) (by omega)];omega
  ·rw [cK cx]
   show mg R<mg y
   rw [mg_pos hR0];exact hR1
 ·intro h
  by_cases cx:x<0
  ·exact cx
  ·rw [cK cx] at h
   have h:R<0:=h
   omega
 ·intro h
  by_cases cx:x<0
  ·rw [cL cx] at h
   have h:0 < -R:=h
   omega
  ·rw [cK cx] at h
   have h:0<R:=h
   have:=mg_pos (Int.not_lt.1 cx)
   omega
end Go.Proofs.YtopiioklkkiedaaGreatDoor
end
section
namespace Go.Proofs.YtopiioklkkiedaaGreatDoor
open Go Go.Lg Go.Lg.Fml Go.Lg.Fld Go.Lg.Arith
set_option maxRecDepth 100000
variable (X:Nat→Option Obj)
def exR:Except Int Nm→LV
 | .ok v=>.tup [SI v.1 v.2,Sn .i64 0]
 | .error e=>.tup [S0,Sn .i64 e]
theorem NumsIn.all {X:Nat→Option Obj} {ad:Option Addr} {ns:List Nm} (h:NumsIn X ad ns) (hpos:0<ns.length):
  ∃ (blk off:Nat) (arr:Array Value) (el:TypeId) (fr:Nat×Nat),ad=some ⟨blk,off,none⟩∧X blk=some (.cells arr el fr)∧∀ i b N,ns[i]? = some (b,N)→In2 N∧off+i*3+3≤arr.size∧((arr.toList.drop (off+i*3)).take 3).map CV.val=cI b N:=by
 obtain ⟨_,blk,off,arr,el,fr,rfl,hX,_,_⟩:=h.at (i:=0) (b:=(ns[0]'hpos).1) (N:=(ns[0]'hpos).2) (cU hpos)
 refine ⟨blk,off,arr,el,fr,O,hX,fun i b N hi => ?_⟩
 obtain ⟨h1,blk',off',arr',el',fr',h2,h3,h4,h5⟩:=h.at hi
 simp only [Option.some.injEq,Addr.mk.injEq] at h2
 obtain ⟨rfl,rfl,_⟩:=h2
 rw [hX] at h3
 simp only [Option.some.injEq,Obj.cells.injEq] at h3
 obtain ⟨rfl,_,_⟩:=h3
 exact ⟨h1,h4,h5⟩
theorem gd_q {u:Nm} (h:gd u=true) (hu:In2 u.2):LI u.1 u.2=LQ (zz u)∧R127 (zz u):=⟨LI_q hu h,(zv_in hu h).1⟩
end Go.Proofs.YtopiioklkkiedaaGreatDoor
end
section
namespace Go.Proofs.YtopiioklkkiedaaGreatDoor
open Go Go.Lg Go.Lg.Fml Go.Lg.Fld Go.Lg.Arith
set_option maxRecDepth 100000
variable (X:Nat→Option Obj)
theorem eqN {b b':Bool} {M N:Int} (hM:In2 M) (hN:In2 N):(b==b'&&(M/18446744073709551616==N/18446744073709551616&&M%18446744073709551616==N%18446744073709551616))=decide (((b,M):Nm)=(b',N)):=by
 by_cases h:b=b'∧M=N
 ·obtain ⟨rfl,rfl⟩:=h
  simp
 ·rw [cK (fun e=>h (by simpa using e))]
  cases hc:(b==b'&&(M/18446744073709551616==N/18446744073709551616&&M%18446744073709551616==N%18446744073709551616)) with
  | false=>rfl
  | true =>
   simp only [Bool.and_eq_true,beq_iff_eq] at hc
   exact absurd ⟨hc.1,by omega⟩ h
theorem eqZ {b:Bool} {M:Int} (hM:In2 M):(b==false&&(M/18446744073709551616==0&&M%18446744073709551616==0))=decide (((b,M):Nm)=(false,0)):=by
 have:=eqN (b:=b) (b':=false) hM (N:=0) (by show 0≤(0:Int)∧(0:Int)<_;omega)
 exact this
theorem cmp_lz {u v:Nm}:decide (cmpI (zz u) (zz v)<0)=decide (zz u<zz v)∧decide (0<cmpI (zz u) (zz v))=decide (zz v<zz u):=by
 unfold cmpI
 by_cases h:zz u<zz v
 ·rw [if_pos h,cL h,cK (show ¬ zz v<zz u by omega)]
  exact ⟨O,O⟩
 ·rw [if_neg h,cK h]
  by_cases h2:zz v<zz u
  ·rw [if_pos h2,cL h2];exact ⟨rfl,rfl⟩
  ·rw [if_neg h2,cK h2];exact ⟨rfl,rfl⟩
end Go.Proofs.YtopiioklkkiedaaGreatDoor
end
section
namespace Go.Proofs.YtopiioklkkiedaaGreatDoor
open Go Go.Lg Go.Lg.Fml Go.Lg.Fld Go.Lg.Arith
set_option maxRecDepth 100000
variable (X:Nat→Option Obj)
def inssV (l:List Ins):List Value:=(l.map insV).flatten
theorem inssV_len (l:List Ins):((inssV l).map CV.val).length=l.length*6:=by
 unfold inssV
 rw [cT]
 induction l with
 | nil=>rfl
 | cons x t ih=>simp only [List.map_cons,List.flatten_cons,cS,dF,ih,insV,dL];omega
theorem inssV_snoc (l:List Ins) (x:Ins) {cs:List CV} (h:cs=(insV x).map CV.val):(inssV l).map CV.val++cs=(inssV (l++[x])).map CV.val:=by
 unfold inssV
 rw [h,dE,List.flatten_append,dE]
 simp
theorem ins_in {Y:Nat→Option Obj} {blk:Nat} {arr:Array Value} {el:TypeId} {fr:Nat×Nat} {l:List Ins} (hY:Y blk=some (.cells arr el fr)) (hi:∀ x∈l,smallI x) (hsp:∃ sp,arr.toList=inssV l++sp):InsIn Y (some ⟨blk,0,none⟩) l:=
 ⟨rows_in hY (fun r hr=>by obtain ⟨x,_,rfl⟩:=List.mem_map.1 hr;rfl) hsp,hi⟩
end Go.Proofs.YtopiioklkkiedaaGreatDoor
end
section
namespace Go.Proofs.YtopiioklkkiedaaGreatDoor
open Go Go.Lg Go.Lg.Fml Go.Lg.Fld Go.Lg.Arith
set_option maxRecDepth 100000
variable (X:Nat→Option Obj)
abbrev LPg (va vb:Int) (ad:Option Addr) (n cap:Nat):LV:=.sv (.agg [.val (.int .i64 va),.val (.int .i64 vb),.val (.slice ad n cap)])
abbrev v3B (t:TypeId) (k:Nat) (a b:Int) (ad:Option Addr) (n cap:Nat):Nat×Option Box:=(k,some ⟨t,[.val (.int .i64 a),.val (.int .i64 b),.val (.slice ad n cap)],false⟩)
def lastR (rs:List Rl):Nat→Int
 | 0=>0
 | j+1=>match rs[j]? with
  | some r=>r.nw
  | none=>0
theorem lastR_at {rs:List Rl} {j:Nat} {r:Rl} (h:rs[j]? = some r):lastR rs (j+1)=r.nw:=by simp only [lastR,h]
theorem chkRs_cons {r:Rl} {last:Int} {t:List Rl}:chkRs last (r::t)=if chkR r last=0 then chkRs r.nw t else chkR r last:=rfl
theorem firstX_cons {c:List Ins} {t:List (List Ins)}:firstX (c::t)=if encErr c=0 then firstX t else encErr c:=rfl
theorem drop_at {α:Type} {l:List α} {i:Nat} {x:α} (h:l[i]? = some x):l.drop i=x::l.drop (i+1):=by
 obtain ⟨hi,e⟩:=List.getElem?_eq_some_iff.1 h
 rw [List.drop_eq_getElem_cons hi,e]
theorem chkP_bad {p:Pg} (h:¬(verOk p.va&&verOk p.vb)=true):chkP p=1:=if_neg h
theorem chkP_good {p:Pg} (h:(verOk p.va&&verOk p.vb)=true):chkP p=chkRs 0 p.rs:=if_pos h
theorem CodesIn.get {X:Nat→Option Obj} {ad:Option Addr} {cs:List (List Ins)} (h:CodesIn X ad cs) {i:Nat} {c:List Ins} (hc:cs[i]? = some c):∃ (blk off:Nat) (arr:Array Value) (el:TypeId) (fr:Nat×Nat) (vad:Option Addr) (vcap:Nat),ad=some ⟨blk,off,none⟩∧X blk=some (.cells arr el fr)∧arr[off+i*1]? = some (.slice vad c.length vcap)∧InsIn X vad c:=by
 obtain ⟨blk,off,arr,el,fr,vad,vcap,h1,h2,h3,h4,h5⟩:=h.at_ i c hc
 exact ⟨blk,off,arr,el,fr,vad,vcap,h1,h2,by rw [Nat.mul_one];exact h4,h5⟩
end Go.Proofs.YtopiioklkkiedaaGreatDoor
end
section
namespace Go.Proofs.YtopiioklkkiedaaGreatDoor
open Go Go.Lg Go.Lg.Fml Go.Lg.Fld Go.Lg.Arith Go.Lg.Sg
set_option maxRecDepth 100000
variable (X:Nat→Option Obj)
def nmsV (a:List Nm):List Value:=(a.map nmV).flatten
theorem nmsV_len (a:List Nm):((nmsV a).map CV.val).length=a.length*3:=by
 unfold nmsV
 rw [cT]
 induction a with
 | nil=>rfl
 | cons x t ih=>simp only [List.map_cons,List.flatten_cons,cS,dF,ih,nmV,dL];omega
theorem nmsV_snoc (a:List Nm) (u:Nm):(nmsV a).map CV.val++[CV.val (.bool u.1),.val (.int .u64 (u.2/18446744073709551616)),.val (.int .u64 (u.2%18446744073709551616))]=(nmsV (a++[u])).map CV.val:=by
 unfold nmsV
 rw [dE,List.flatten_append,dE]
 rfl
theorem nms_in {Y:Nat→Option Obj} {blk:Nat} {arr:Array Value} {el:TypeId} {fr:Nat×Nat} {a:List Nm} (hY:Y blk=some (.cells arr el fr)) (hi:∀ u∈a,In2 u.2) (hsp:∃ sp,arr.toList=nmsV a++sp):NumsIn Y (some ⟨blk,0,none⟩) a:=
 ⟨rows_in hY (fun r hr=>by obtain ⟨x,_,rfl⟩:=List.mem_map.1 hr;rfl) hsp,hi⟩
theorem qn_in2 {z:Int} (h:R127 z):In2 (qn z).2:=mg_in2 h
theorem elem_mem {fs:List (List Nm)} {a b:Int} {v:Nm} (h:elemX fs a b = .ok v):∃ r∈fs,v∈r:=by
 unfold elemX at h
 by_cases h0:a<0∨b<0
 ·rw [if_pos h0] at h;cases h
 ·rw [if_neg h0] at h
  cases hr:fs[a.toNat]? with
  | none=>rw [hr] at h;cases h
  | some r =>
   rw [hr] at h
   simp only at h
   cases hu:r[b.toNat]? with
   | none=>rw [hu] at h;cases h
   | some u =>
    rw [hu] at h
    cases h
    exact ⟨r,cZ hr,cZ hu⟩
theorem leaf_in2 {fs:List (List Nm)} {at_:Int} {x:Ins} {v:Nm} (hf:∀ r∈fs,∀ u∈r,In2 u.2) (hx:In2 x.k.2) (hat:at_<9223372036854775808) (h:leafX fs at_ x = .ok v):In2 v.2:=by
 unfold leafX at h
 by_cases h1:x.op=1
 ·rw [if_pos h1] at h;cases h;exact hx
 ·rw [if_neg h1] at h
  by_cases h4:x.op=4
  ·rw [if_pos h4] at h
   by_cases h0:at_<0
   ·rw [if_pos h0] at h;cases h
   ·rw [if_neg h0] at h
    cases h
    show 0≤at_∧at_<_
    omega
  ·rw [if_neg h4] at h
   obtain ⟨r,hr,hv⟩:=elem_mem h
   exact hf r hr _ hv
theorem truth_in2 (b:Bool):In2 (truth b).2:=by
 unfold truth In2
 cases b<;>decide
theorem do_in2 {op:Int} {x y v:Nm} (h:doX op x y = .ok v):In2 v.2:=by
 unfold doX at h
 split at h
 ·cases h
 ·split at h
  ·cases h
  ·split at h
   ·rename_i hr;cases h;exact qn_in2 hr
   ·cases h
theorem node_in2 {op:Int} {a:List Nm} {v:Nm} (ha:∀ u∈a,In2 u.2) (h:nodeX op a = .ok v):In2 v.2:=by
 match a,ha with
 | [x],ha =>
  simp only [nodeX] at h
  split at h
  ·cases h
  ·split at h
   ·rename_i hg _
    cases h
    have:=(zv_in (ha x (by simp)) (by simpa [gd] using hg)).1
    exact qn_in2 (by unfold R127 at *;show -_ < -(zz x) ∧ -(zz x)<_;unfold zz;omega)
   ·cases h;exact truth_in2 _
 | [x,y],ha =>
  simp only [nodeX] at h
  repeat' (split at h)
  all_goals first
   | (cases h;done)
   | exact do_in2 h
   | (cases h;first|exact truth_in2 _|exact ha _ (by simp)|(split<;>exact ha _ (by simp)))
 | [x,y,z],ha =>
  simp only [nodeX] at h
  split at h
  ·cases h
  ·cases h;split<;>exact ha _ (by simp)
 | [],ha=>cases h
 | _::_::_::_::_,ha=>cases h
theorem one_in2 {fs:List (List Nm)} {at_:Int} {x:Ins} {a:List Nm} {v:Nm} (hf:∀ r∈fs,∀ u∈r,In2 u.2) (hx:In2 x.k.2) (hat:at_<9223372036854775808) (ha:∀ u∈a,In2 u.2) (h:oneX fs at_ x a = .ok v):In2 v.2:=by
 unfold oneX at h
 split at h
 ·exact leaf_in2 hf hx hat h
 ·exact node_in2 ha h
theorem tree_in2 {fs:List (List Nm)} {at_:Int} (hf:∀ r∈fs,∀ u∈r,In2 u.2) (hat:at_<9223372036854775808):∀ {t:Tr} {v:Nm},(∀ x∈t.flat,In2 x.k.2)→t.ev (oneX fs at_) = .ok v→In2 v.2
 | .n0 x,v,hx,h=>one_in2 hf (hx x (by simp [Tr.flat])) hat (a:=[]) (fun u hu=>by cases hu) h
 | .n1 x a,v,hx,h=>by
  simp only [Tr.ev] at h
  cases ha:a.ev (oneX fs at_) with
  | error e=>rw [ha] at h;cases h
  | ok u =>
   rw [ha] at h
   have h1:=tree_in2 hf hat (fun y hy=>hx y (by simp [Tr.flat,hy])) ha
   exact one_in2 hf (hx x (by simp [Tr.flat])) hat (a:=[u]) (fun w hw=>by rw [List.mem_singleton.1 hw];exact h1) h
 | .n2 x a b,v,hx,h=>by
  simp only [Tr.ev] at h
  cases ha:a.ev (oneX fs at_) with
  | error e=>rw [ha] at h;cases h
  | ok u =>
   rw [ha] at h
   simp only at h
   have h1:=tree_in2 hf hat (fun y hy=>hx y (by simp [Tr.flat,hy])) ha
   cases hb:b.ev (oneX fs at_) with
   | error e=>rw [hb] at h;cases h
   | ok w =>
    rw [hb] at h
    have h2:=tree_in2 hf hat (fun y hy=>hx y (by simp [Tr.flat,hy])) hb
    exact one_in2 hf (hx x (by simp [Tr.flat])) hat (a:=[u,w]) (fun q hq=>by
     simp only [List.mem_cons,List.not_mem_nil,or_false] at hq
     rcases hq with rfl|rfl
     ·exact h1
     ·exact h2) h
 | .n3 x a b c,v,hx,h=>by
  simp only [Tr.ev] at h
  cases ha:a.ev (oneX fs at_) with
  | error e=>rw [ha] at h;cases h
  | ok u =>
   rw [ha] at h
   simp only at h
   have h1:=tree_in2 hf hat (fun y hy=>hx y (by simp [Tr.flat,hy])) ha
   cases hb:b.ev (oneX fs at_) with
   | error e=>rw [hb] at h;cases h
   | ok w =>
    rw [hb] at h
    simp only at h
    have h2:=tree_in2 hf hat (fun y hy=>hx y (by simp [Tr.flat,hy])) hb
    cases hc:c.ev (oneX fs at_) with
    | error e=>rw [hc] at h;cases h
    | ok s =>
     rw [hc] at h
     have h3:=tree_in2 hf hat (fun y hy=>hx y (by simp [Tr.flat,hy])) hc
     exact one_in2 hf (hx x (by simp [Tr.flat])) hat (a:=[u,w,s]) (fun q hq=>by
      simp only [List.mem_cons,List.not_mem_nil,or_false] at hq
      rcases hq with rfl|rfl|rfl
      ·exact h1
      ·exact h2
      ·exact h3) h
end Go.Proofs.YtopiioklkkiedaaGreatDoor
end
section
namespace Go.Proofs.YtopiioklkkiedaaGreatDoor
open Go Go.Lg Go.Lg.Fml Go.Lg.Fld Go.Lg.Arith
set_option maxRecDepth 100000
def exV:Except Int Nm→Nm
 | .ok v=>v
 | .error _=>(false,0)
def exE:Except Int Nm→Int
 | .ok _=>0
 | .error e=>e
theorem exR_eq (r:Except Int Nm):exR r = .tup [SI (exV r).1 (exV r).2,Sn .i64 (exE r)]:=by cases r<;>rfl
variable (X:Nat→Option Obj)
theorem addR_ex (z:Int):addR z=exR (if R127 z then Except.ok (qn z) else Except.error 3:Except Int Nm):=by
 by_cases h:R127 z
 ·rw [addR_in h,if_pos h];rfl
 ·rw [addR_out h,if_neg h];rfl
theorem wAdd_do (u v:Nm) (hu:In2 u.2) (hv:In2 v.2):PSpec Tryz.prog X 183 [LI u.1 u.2,LI v.1 v.2] (exR (doX 5 u v)):=by
 cases hg:(gd u&&gd v) with
 | false =>
  rw [doX_bad hg]
  exact Add_arg X u.1 v.1 u.2 v.2 hu hv hg
 | true =>
  obtain ⟨gu,gv⟩:=Bool.and_eq_true_iff.1 hg
  obtain ⟨e1,r1⟩:=gd_q gu hu
  obtain ⟨e2,r2⟩:=gd_q gv hv
  rw [e1,e2]
  unfold doX
  rw [hg,if_neg (by decide),if_neg (by omega),show arith 5 (zz u) (zz v)=zz u+zz v from rfl,← addR_ex]
  exact Add_q X (zz u) (zz v) r1 r2
theorem wSub_do (u v:Nm) (hu:In2 u.2) (hv:In2 v.2):PSpec Tryz.prog X 184 [LI u.1 u.2,LI v.1 v.2] (exR (doX 6 u v)):=by
 cases hg:(gd u&&gd v) with
 | false =>
  rw [doX_bad hg]
  exact Sub_arg X u.1 v.1 u.2 v.2 hu hv hg
 | true =>
  obtain ⟨gu,gv⟩:=Bool.and_eq_true_iff.1 hg
  obtain ⟨e1,r1⟩:=gd_q gu hu
  obtain ⟨e2,r2⟩:=gd_q gv hv
  rw [e1,e2]
  unfold doX
  rw [hg,if_neg (by decide),if_neg (by omega),show arith 6 (zz u) (zz v)=zz u-zz v from rfl,← addR_ex]
  exact Sub_q X (zz u) (zz v) r1 r2
theorem wMul_do (u v:Nm) (hu:In2 u.2) (hv:In2 v.2):PSpec Tryz.prog X 185 [LI u.1 u.2,LI v.1 v.2] (exR (doX 7 u v)):=by
 cases hg:(gd u&&gd v) with
 | false =>
  rw [doX_bad hg]
  exact Mul_arg X u.1 v.1 u.2 v.2 hu hv hg
 | true =>
  obtain ⟨gu,gv⟩:=Bool.and_eq_true_iff.1 hg
  obtain ⟨e1,r1⟩:=gd_q gu hu
  obtain ⟨e2,r2⟩:=gd_q gv hv
  rw [e1,e2]
  unfold doX
  rw [hg,if_neg (by decide),if_neg (by omega),show arith 7 (zz u) (zz v)=zz u*zz v from rfl,← addR_ex]
  exact Mul_q X (zz u) (zz v) r1 r2
theorem wQuo_do (u v:Nm) (hu:In2 u.2) (hv:In2 v.2):PSpec Tryz.prog X 186 [LI u.1 u.2,LI v.1 v.2] (exR (doX 8 u v)):=by
 cases hg:(gd u&&gd v) with
 | false =>
  rw [doX_bad hg]
  exact Quo_arg X u.1 v.1 u.2 v.2 hu hv (by rw [show (formB u.1 u.2&&formB v.1 v.2)=false from hg];rfl)
 | true =>
  obtain ⟨gu,gv⟩:=Bool.and_eq_true_iff.1 hg
  obtain ⟨e1,r1⟩:=gd_q gu hu
  obtain ⟨e2,r2⟩:=gd_q gv hv
  by_cases h0:zz v=0
  ·have hv0:v.2=0:=by
    have h1:zv v.1 v.2=0:=h0
    have h2:=hv
    unfold zv at h1
    unfold In2 at h2
    split at h1<;>omega
   rw [show doX 8 u v = .error 1 by unfold doX;rw [hg,if_neg (by decide),if_pos ⟨by decide,h0⟩]]
   exact Quo_arg X u.1 v.1 u.2 v.2 hu hv (by rw [hv0];simp)
  ·have hq:=(parts_facts r1 r2 h0).1
   rw [e1,e2]
   unfold doX
   rw [hg,if_neg (by decide),if_neg (fun h=>h0 h.2),show arith 8 (zz u) (zz v)=(zz u).tdiv (zz v) from rfl,if_pos hq]
   exact Quo_q X (zz u) (zz v) r1 r2 h0
theorem wRem_do (u v:Nm) (hu:In2 u.2) (hv:In2 v.2):PSpec Tryz.prog X 187 [LI u.1 u.2,LI v.1 v.2] (exR (doX 9 u v)):=by
 cases hg:(gd u&&gd v) with
 | false =>
  rw [doX_bad hg]
  exact Rem_arg X u.1 v.1 u.2 v.2 hu hv (by rw [show (formB u.1 u.2&&formB v.1 v.2)=false from hg];rfl)
 | true =>
  obtain ⟨gu,gv⟩:=Bool.and_eq_true_iff.1 hg
  obtain ⟨e1,r1⟩:=gd_q gu hu
  obtain ⟨e2,r2⟩:=gd_q gv hv
  by_cases h0:zz v=0
  ·have hv0:v.2=0:=by
    have h1:zv v.1 v.2=0:=h0
    have h2:=hv
    unfold zv at h1
    unfold In2 at h2
    split at h1<;>omega
   rw [show doX 9 u v = .error 1 by unfold doX;rw [hg,if_neg (by decide),if_pos ⟨by decide,h0⟩]]
   exact Rem_arg X u.1 v.1 u.2 v.2 hu hv (by rw [hv0];simp)
  ·have hq:=(parts_facts r1 r2 h0).2.1
   rw [e1,e2]
   unfold doX
   rw [hg,if_neg (by decide),if_neg (fun h=>h0 h.2),show arith 9 (zz u) (zz v)=(zz u).tmod (zz v) from rfl,if_pos hq]
   exact Rem_q X (zz u) (zz v) r1 r2 h0
def truX (x y:Nm) (b:Bool):Except Int Nm:=if (gd x&&gd y)=false then .error 1 else .ok (truth b)
def sameX (x y:Nm):Except Int Nm:=truX x y (decide (x=y))
def lessX (x y:Nm):Except Int Nm:=truX x y (decide (zz x<zz y))
def pickX (x y z:Nm):Except Int Nm:=if gd x=false then .error 1 else .ok (if x=(false,0) then z else y)
def needX (x y:Nm):Except Int Nm:=if gd y=false then .error 1 else if y=(false,0) then .error 9 else .ok x
theorem tForm (x:Nm) (hx:In2 x.2) (r:Bool) (h:gd x=r):PSpec Tryz.prog X 106 [LI x.1 x.2] (Lb r):=Form_spec X _ _ hx r h
theorem tTruth (x y:Nm) (hx:In2 x.2) (hy:In2 y.2) (b:Bool):PSpec Tryz.prog X 221 [LI x.1 x.2,LI y.1 y.2,Lb b] (exR (truX x y b)):=by
 cases h1:gd x with
 | false =>
  have f1:=tForm X x hx false h1
  rw [show truX x y b = .error 1 by unfold truX;rw [h1];rfl]
  refine cC Tryz.func221 rfl (by kernel_rfl) rfl rfl ?_
  intro C
  (refine aA<|rgN<|aL O O O dO<|aL O O O dO<|aP O dO ?_;refine kas O<|aB<|aA<|aG<|aA<|rgN<|aK O O O dO ?_;refine kca O O f1<|aV O O dO<|kmv O<|aC O O O<|aC O O O<|aC O O O<|kpt O O<|kas O<|aB<|aE O ?_;refine aA<|rgN<|aT O O (by exact O) (by exact nl3 O O O O) dO ?_;refine aM O O O O O O dO ?_;refine kas O<|aB<|aI ?_)
  exact ⟨[_,_],⟨⟨_,_,O,O,O,.inl ⟨AggT.h,O⟩⟩,O,trivial⟩,O⟩
 | true =>
 have f1:=tForm X x hx true h1
 cases h2:gd y with
 | false =>
  have f2:=tForm X y hy false h2
  rw [show truX x y b = .error 1 by unfold truX;rw [h1,h2];rfl]
  refine cC Tryz.func221 rfl (by kernel_rfl) rfl rfl ?_
  intro C
  (refine aA<|rgN<|aL O O O dO<|aL O O O dO<|aP O dO ?_;refine kas O<|aB<|aA<|aG<|aA<|rgN<|aK O O O dO ?_;refine kca O O f1<|aV O O dO<|kmv O<|aK O O O (dP O O) ?_;refine gca O O f2 O O<|aV O O (dP O O) ?_;refine kpf O O<|kas O<|aB<|aE O ?_;refine aA<|rgN<|aT O O (by exact O) (by exact nl3 O O O O) dO ?_;refine aM O O O O O O dO ?_;refine kas O<|aB<|aI ?_)
  exact ⟨[_,_],⟨⟨_,_,O,O,O,.inl ⟨AggT.h,O⟩⟩,O,trivial⟩,O⟩
 | true =>
 have f2:=tForm X y hy true h2
 rw [show truX x y b = .ok (truth b) by unfold truX;rw [h1,h2];rfl]
 cases b with
 | true =>
  have hO:=Of_spec X 1 (by omega)
  refine cC Tryz.func221 rfl (by kernel_rfl) rfl rfl ?_
  intro C
  (refine aA<|rgN<|aL O O O dO<|aL O O O dO<|aP O dO ?_;refine kas O<|aB<|aA<|aG<|aA<|rgN<|aK O O O dO ?_;refine kca O O f1<|aV O O dO<|kmv O<|aK O O O (dP O O) ?_;refine gca O O f2 O O<|aV O O (dP O O) ?_;refine kpf O O<|kas O<|aB<|aF O ?_;refine aA<|rgN<|kmv O<|kas O<|aB<|aE O ?_;refine aA<|rgN<|kca O O (hO)<|aM O O O O O O dO ?_;refine kas O<|aB<|aI ?_)
  exact ⟨[_,_],⟨⟨_,_,O,O,O,.inl ⟨AggT.h,O⟩⟩,O,trivial⟩,O⟩
 | false =>
  have hO:=Of_spec X 0 (by omega)
  refine cC Tryz.func221 rfl (by kernel_rfl) rfl rfl ?_
  intro C
  (refine aA<|rgN<|aL O O O dO<|aL O O O dO<|aP O dO ?_;refine kas O<|aB<|aA<|aG<|aA<|rgN<|aK O O O dO ?_;refine kca O O f1<|aV O O dO<|kmv O<|aK O O O (dP O O) ?_;refine gca O O f2 O O<|aV O O (dP O O) ?_;refine kpf O O<|kas O<|aB<|aF O ?_;refine aA<|rgN<|kmv O<|kas O<|aB<|aF O ?_;refine aH ?_;refine aA<|rgN<|kca O O (hO)<|aM O O O O O O dO ?_;refine kas O<|aB<|aI ?_)
  exact ⟨[_,_],⟨⟨_,_,O,O,O,.inl ⟨AggT.h,O⟩⟩,O,trivial⟩,O⟩
theorem tSame (x y:Nm) (hx:In2 x.2) (hy:In2 y.2):PSpec Tryz.prog X 193 [LI x.1 x.2,LI y.1 y.2] (exR (sameX x y)):=by
 have q:=eqI (b:=x.1) (b':=y.1) (h:=x.2/18446744073709551616) (h':=y.2/18446744073709551616) (l:=x.2%18446744073709551616) (l':=y.2%18446744073709551616) _ (eqN hx hy)
 unfold sameX
 have hT:=tTruth X x y hx hy (decide (x=y))
 rw [show decide (((x.1,x.2):Nm)=(y.1,y.2))=decide (x=y) from rfl] at q
 generalize decide (x=y)=z at *
 rw [exR_eq] at hT ⊢
 generalize exE (truX x y z)=e at *
 generalize exV (truX x y z)=v at *
 obtain ⟨vb,vN⟩:=v
 refine cC Tryz.func193 rfl (by kernel_rfl) rfl rfl ?_
 intro C
 (refine aA<|rgN<|aL O O O dO<|aL O O O dO<|aP O dO ?_;refine kas O<|aB<|aA<|rgD mixed<|aK O O O dO ?_;refine aK O O O dO ?_;refine aK O O O dO ?_;refine aK O O O dO ?_;refine bQ O O O O (by kernel_rfl) q (.inl ⟨O,O⟩) dO<|kca O O (hT)<|kex O O<|kex O O<|aM O O O O O O dO ?_;refine kas O<|aB<|rgA ?_;refine aI ?_)
 exact ⟨[_,_],⟨⟨_,_,O,O,O,.inl ⟨AggT.h,O⟩⟩,O,trivial⟩,O⟩
theorem tCmp (x y:Nm) (hx:In2 x.2) (hy:In2 y.2):∃ r:Int,PSpec Tryz.prog X 150 [LI x.1 x.2,LI y.1 y.2] (Ln .i64 r)∧((gd x&&gd y)=true→decide (r<0)=decide (zz x<zz y)):=by
 cases h:(gd x&&gd y) with
 | false=>exact ⟨0,Cmp_bad X _ _ _ _ hx hy h,fun h'=>by cases h'⟩
 | true =>
  obtain ⟨gx,gy⟩:=Bool.and_eq_true_iff.1 h
  obtain ⟨e1,r1⟩:=gd_q gx hx
  obtain ⟨e2,r2⟩:=gd_q gy hy
  refine ⟨cmpI (zz x) (zz y),?_,fun _=>(cmp_lz (u:=x) (v:=y)).1⟩
  rw [e1,e2]
  exact Cmp_q X _ _ r1 r2 _ O
theorem tLess (x y:Nm) (hx:In2 x.2) (hy:In2 y.2):PSpec Tryz.prog X 191 [LI x.1 x.2,LI y.1 y.2] (exR (lessX x y)):=by
 obtain ⟨r,hC,hr⟩:=tCmp X x y hx hy
 have hT:=tTruth X x y hx hy (decide (r<0))
 have e:truX x y (decide (r<0))=lessX x y:=by
  unfold lessX
  cases h:(gd x&&gd y) with
  | false=>unfold truX;rw [h];rfl
  | true=>rw [hr h]
 rw [e] at hT
 rw [exR_eq] at hT ⊢
 generalize exE (lessX x y)=e at *
 generalize exV (lessX x y)=v at *
 obtain ⟨vb,vN⟩:=v
 refine cC Tryz.func191 rfl (by kernel_rfl) rfl rfl ?_
 intro C
 (refine aA<|rgN<|aL O O O dO<|aL O O O dO<|aP O dO ?_;refine kas O<|aB<|aA<|rgD mixed<|aK O O O dO ?_;refine aK O O O dO ?_;refine aK O O O dO ?_;refine aK O O O dO ?_;refine kca O O (hC)<|klt O O O<|kca O O (hT)<|kex O O<|kex O O<|aM O O O O O O dO ?_;refine kas O<|aB<|rgA ?_;refine aI ?_)
 exact ⟨[_,_],⟨⟨_,_,O,O,O,.inl ⟨AggT.h,O⟩⟩,O,trivial⟩,O⟩
theorem sgn_qn {x:Nm} (hx:In2 x.2) (g:gd x=true):sgnI (zz x)=0↔x=(false,0):=by
 obtain ⟨e1,r1⟩:=gd_q g hx
 have h:=eqZ (b:=x.1) hx
 obtain ⟨b,N⟩:=x
 unfold In2 at hx
 unfold gd formB at g
 unfold sgnI zz zv at *
 simp only at *
 constructor
 ·intro h0
  have hN:N=0:=by
   cases b<;>simp only [Bool.false_eq_true,if_false,if_true] at h0<;>(repeat' split at h0)<;>omega
  subst hN
  cases b with
  | false=>rfl
  | true=>simp at g
 ·intro e
  cases e
  rfl
theorem tSign (x:Nm) (hx:In2 x.2) (g:gd x=true):∃ s:Int,PSpec Tryz.prog X 224 [LI x.1 x.2] (Ln .i64 s)∧(s=0↔x=(false,0)):=by
 obtain ⟨e1,r1⟩:=gd_q g hx
 exact ⟨sgnI (zz x),by rw [e1];exact Sign_q X _ r1 _ rfl,sgn_qn hx g⟩
theorem tPick (x y z:Nm) (hx:In2 x.2):PSpec Tryz.prog X 195 [LI x.1 x.2,LI y.1 y.2,LI z.1 z.2] (exR (pickX x y z)):=by
 cases h1:gd x with
 | false =>
  have f1:=tForm X x hx false h1
  rw [show pickX x y z = .error 1 by unfold pickX;rw [h1];rfl]
  refine cC Tryz.func195 rfl (by kernel_rfl) rfl rfl ?_
  intro C
  (refine aA<|rgN<|aL O O O dO<|aL O O O dO<|aL O O O dO<|aP O dO ?_;refine kas O<|aB<|aA<|aG<|aA<|rgN<|aK O O O dO ?_;refine kca O O (f1)<|aV O O dO<|kas O<|aB<|aE O ?_;refine aA<|rgN<|aT O O (by exact O) (by exact nl3 O O O O) dO ?_;refine aM O O O O O O dO ?_;refine kas O<|aB<|aI ?_)
  exact ⟨[_,_],⟨⟨_,_,O,O,O,.inl ⟨AggT.h,O⟩⟩,O,trivial⟩,O⟩
 | true =>
 have f1:=tForm X x hx true h1
 obtain ⟨s,hS,hs⟩:=tSign X x hx h1
 by_cases c:x=(false,0)
 ·rw [show pickX x y z = .ok z by unfold pickX;rw [h1,if_neg (by decide),if_pos c]]
  have c:=hs.2 c
  subst c
  refine cC Tryz.func195 rfl (by kernel_rfl) rfl rfl ?_
  intro C
  (refine aA<|rgN<|aL O O O dO<|aL O O O dO<|aL O O O dO<|aP O dO ?_;refine kas O<|aB<|aA<|aG<|aA<|rgN<|aK O O O dO ?_;refine kca O O (f1)<|aV O O dO<|kas O<|aB<|aF O ?_;refine aA<|rgN<|aK O O O dO ?_;refine kca O O (hS)<|kne O O (r:=false) O<|kas O<|aB<|aF O ?_;refine aH ?_;refine aA<|rgN<|aK O O O dO ?_;refine aM O O O O O O dO ?_;refine kas O<|aB<|aI ?_)
  exact ⟨[_,_],⟨⟨_,_,O,O,O,.inl ⟨AggT.h,O⟩⟩,O,trivial⟩,O⟩
 ·rw [show pickX x y z = .ok y by unfold pickX;rw [h1,if_neg (by decide),if_neg c]]
  have c:s≠0:=fun h=>c (hs.1 h)
  refine cC Tryz.func195 rfl (by kernel_rfl) rfl rfl ?_
  intro C
  (refine aA<|rgN<|aL O O O dO<|aL O O O dO<|aL O O O dO<|aP O dO ?_;refine kas O<|aB<|aA<|aG<|aA<|rgN<|aK O O O dO ?_;refine kca O O (f1)<|aV O O dO<|kas O<|aB<|aF O ?_;refine aA<|rgN<|aK O O O dO ?_;refine kca O O (hS)<|kne O O (r:=true) (cP c)<|kas O<|aB<|aE O ?_;refine aA<|rgN<|aK O O O dO ?_;refine aM O O O O O O dO ?_;refine kas O<|aB<|aI ?_)
  exact ⟨[_,_],⟨⟨_,_,O,O,O,.inl ⟨AggT.h,O⟩⟩,O,trivial⟩,O⟩
theorem tNeed (x y:Nm) (hy:In2 y.2):PSpec Tryz.prog X 196 [LI x.1 x.2,LI y.1 y.2] (exR (needX x y)):=by
 cases h1:gd y with
 | false =>
  have f1:=tForm X y hy false h1
  rw [show needX x y = .error 1 by unfold needX;rw [h1];rfl]
  refine cC Tryz.func196 rfl (by kernel_rfl) rfl rfl ?_
  intro C
  (refine aA<|rgN<|aL O O O dO<|aL O O O dO<|aP O dO ?_;refine kas O<|aB<|aA<|aG<|aA<|rgN<|aK O O O dO ?_;refine kca O O (f1)<|aV O O dO<|kas O<|aB<|aE O ?_;refine aA<|rgN<|aT O O (by exact O) (by exact nl3 O O O O) dO ?_;refine aM O O O O O O dO ?_;refine kas O<|aB<|aI ?_)
  exact ⟨[_,_],⟨⟨_,_,O,O,O,.inl ⟨AggT.h,O⟩⟩,O,trivial⟩,O⟩
 | true =>
 have f1:=tForm X y hy true h1
 obtain ⟨s,hS,hs⟩:=tSign X y hy h1
 by_cases c:y=(false,0)
 ·rw [show needX x y = .error 9 by unfold needX;rw [h1,if_neg (by decide),if_pos c]]
  have c:=hs.2 c
  subst c
  refine cC Tryz.func196 rfl (by kernel_rfl) rfl rfl ?_
  intro C
  (refine aA<|rgN<|aL O O O dO<|aL O O O dO<|aP O dO ?_;refine kas O<|aB<|aA<|aG<|aA<|rgN<|aK O O O dO ?_;refine kca O O (f1)<|aV O O dO<|kas O<|aB<|aF O ?_;refine aA<|rgN<|aK O O O dO ?_;refine kca O O (hS)<|keq O O (r:=true) O<|kas O<|aB<|aE O ?_;refine aA<|rgN<|aT O O (by exact O) (by exact nl3 O O O O) dO ?_;refine aM O O O O O O dO ?_;refine kas O<|aB<|aI ?_)
  exact ⟨[_,_],⟨⟨_,_,O,O,O,.inl ⟨AggT.h,O⟩⟩,O,trivial⟩,O⟩
 ·rw [show needX x y = .ok x by unfold needX;rw [h1,if_neg (by decide),if_neg c]]
  have c:s≠0:=fun h=>c (hs.1 h)
  refine cC Tryz.func196 rfl (by kernel_rfl) rfl rfl ?_
  intro C
  (refine aA<|rgN<|aL O O O dO<|aL O O O dO<|aP O dO ?_;refine kas O<|aB<|aA<|aG<|aA<|rgN<|aK O O O dO ?_;refine kca O O (f1)<|aV O O dO<|kas O<|aB<|aF O ?_;refine aA<|rgN<|aK O O O dO ?_;refine kca O O (hS)<|keq O O (r:=false) (cN c)<|kas O<|aB<|aF O ?_;refine aH ?_;refine aA<|rgN<|aK O O O dO ?_;refine aM O O O O O O dO ?_;refine kas O<|aB<|aI ?_)
  exact ⟨[_,_],⟨⟨_,_,O,O,O,.inl ⟨AggT.h,O⟩⟩,O,trivial⟩,O⟩
end Go.Proofs.YtopiioklkkiedaaGreatDoor
end
