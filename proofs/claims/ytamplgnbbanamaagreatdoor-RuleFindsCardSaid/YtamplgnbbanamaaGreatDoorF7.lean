/- A piece of a proof over this program: contracts of its functions, and a logic to prove them by. -/
import Derived.Test.YtamplgnbbanamaaGreatDoorF3
import Derived.Test.YtamplgnbbanamaaGreatDoorF4
import Derived.Test.YtamplgnbbanamaaGreatDoorF5
import Derived.Test.YtamplgnbbanamaaGreatDoorF6
import Derived.Lib.SmallJoins
import Derived.Test.YtamplgnbbanamaaGreatDoorRows
section
namespace Go.Proofs.YtamplgnbbanamaaGreatDoor
open Go Go.Lg Go.Lg.Fml Go.Lg.Fld Go.Lg.Arith
set_option maxRecDepth 100000
def eS:List UInt8×Bool→UInt8×List UInt8×Bool
  | (c::t,false)=>(c,t,false)
  | (l,_)=>(0,l,true)
def eW:List UInt8×Bool→Nat×List UInt8×Bool
  | (l,b)=>if b=false∧8≤l.length then (le (l.take 8),l.drop 8,false) else (0,l,true)
def eN (x:List UInt8×Bool):(Nm×Bool)×List UInt8×Bool:=
  if 1<(eS x).1.toNat then (((false,0),false),(eS x).2)
  else (((decide ((eS x).1.toNat=1),(((eW (eS x).2).1+18446744073709551616*(eW (eW (eS x).2).2).1:Nat):Int)),true),(eW (eW (eS x).2).2).2)
def eI (x:List UInt8×Bool):(Ins×Bool)×List UInt8×Bool:=
  if (eS x).1.toNat=1 then ((⟨1,0,0,(eN (eS x).2).1.1⟩,(eN (eS x).2).1.2),(eN (eS x).2).2)
  else if (eS x).1.toNat=2 then ((⟨2,((eS (eS x).2).1.toNat:Nat),((eS (eS (eS x).2).2).1.toNat:Nat),(false,0)⟩,true),(eS (eS (eS x).2).2).2)
  else if (eS x).1.toNat=3 then ((⟨3,((eS (eS x).2).1.toNat:Nat),0,(false,0)⟩,true),(eS (eS x).2).2)
  else ((⟨((eS x).1.toNat:Nat),0,0,(false,0)⟩,true),(eS x).2)
def eIs (x:List UInt8×Bool):Nat→Option (List Ins×List UInt8×Bool)
  | 0=>some ([],x)
  | n+1=>match eIs x n with
    | none=>none
    | some (q,y)=>if (eI y).1.2=true then some (q++[(eI y).1.1],(eI y).2) else none
def Lss (x y:List UInt8×Bool):Prop:=y.1.length≤x.1.length∧(x.2=true→y.2=true)
theorem Lss.trans {x y z:List UInt8×Bool} (h:Lss x y) (h':Lss y z):Lss x z:=⟨Nat.le_trans h'.1 h.1,fun e=>h'.2 (h.2 e)⟩
theorem eS_less (x:List UInt8×Bool):Lss x (eS x).2:=by
  obtain ⟨l,b⟩:=x
  cases b<;>cases l<;>simp [eS,Lss]
theorem eW_less (x:List UInt8×Bool):Lss x (eW x).2:=by
  obtain ⟨l,b⟩:=x
  unfold eW
  simp only
  by_cases h:b=false∧8≤l.length
  · rw [if_pos h];exact ⟨by simp only [dA];omega,fun e=>(by rw [h.1] at e;cases e)⟩
  · rw [if_neg h];exact ⟨dN _,fun _=>rfl⟩
theorem eW_lt (x:List UInt8×Bool):(eW x).1<18446744073709551616:=by
  obtain ⟨l,b⟩:=x
  unfold eW
  simp only
  split
  · have:=le_lt (l.take 8)
    have hp:(256:Nat)^8=18446744073709551616:=by decide
    have h8:(l.take 8).length=8:=by rw [cZ];omega
    rw [h8] at this
    simp only
    omega
  · show 0<18446744073709551616
    omega
theorem eN_less (x:List UInt8×Bool):Lss x (eN x).2:=by
  unfold eN
  split
  · exact eS_less x
  · exact ((eS_less x).trans (eW_less _)).trans (eW_less _)
theorem eN_in2 (x:List UInt8×Bool):In2 (eN x).1.1.2:=by
  unfold eN In2
  split
  · show 0≤(0:Int)∧(0:Int)<340282366920938463463374607431768211456
    omega
  · have:=eW_lt (eS x).2
    have:=eW_lt (eW (eS x).2).2
    simp only
    omega
theorem eI_less (x:List UInt8×Bool):Lss x (eI x).2:=by
  unfold eI
  split
  · exact (eS_less x).trans (eN_less _)
  · split
    · exact ((eS_less x).trans (eS_less _)).trans (eS_less _)
    · split
      · exact (eS_less x).trans (eS_less _)
      · exact eS_less x
theorem eI_small (x:List UInt8×Bool):smallI (eI x).1.1:=by
  have h1:=(eS x).1.toNat_lt
  have h2:=(eS (eS x).2).1.toNat_lt
  have h3:=(eS (eS (eS x).2).2).1.toNat_lt
  have h4:=eN_in2 (eS x).2
  have h5:In2 (0:Int):=⟨by decide,by decide⟩
  unfold eI smallI
  split
  · exact ⟨by simp only;omega,by simp only;omega,by simp only;omega,h4⟩
  · split
    · exact ⟨by simp only;omega,by simp only;omega,by simp only;omega,h5⟩
    · split
      · exact ⟨by simp only;omega,by simp only;omega,by simp only;omega,h5⟩
      · exact ⟨by simp only;omega,by simp only;omega,by simp only;omega,h5⟩
theorem eIs_len {x:List UInt8×Bool}:∀ {n:Nat} {q:List Ins} {y:List UInt8×Bool},eIs x n=some (q,y)→q.length=n∧Lss x y∧∀ z∈q,smallI z
  | 0,q,y,h=>by
    simp only [eIs,Option.some.injEq,Prod.mk.injEq] at h
    obtain ⟨rfl,rfl⟩:=h
    exact ⟨rfl,⟨dN _,id⟩,fun z hz=>absurd hz (by simp)⟩
  | n+1,q,y,h=>by
    simp only [eIs] at h
    cases hp:eIs x n with
    | none=>rw [hp] at h;cases h
    | some p =>
      obtain ⟨q0,y0⟩:=p
      rw [hp] at h
      simp only at h
      split at h
      · simp only [Option.some.injEq,Prod.mk.injEq] at h
        obtain ⟨rfl,rfl⟩:=h
        obtain ⟨h1,h2,h3⟩:=eIs_len hp
        refine ⟨by rw [cV,h1];rfl,h2.trans (eI_less y0),fun z hz => ?_⟩
        rcases List.mem_append.1 hz with hz|hz
        · exact h3 z hz
        · rw [List.mem_singleton] at hz;subst hz;exact eI_small y0
      · cases h
theorem eIs_none {x:List UInt8×Bool} {i:Nat} (h:eIs x i=none):∀ k,eIs x (i+k)=none
  | 0=>h
  | k+1=>by rw [← Nat.add_assoc];simp only [eIs];rw [eIs_none h k]
theorem eIs_front (x:List UInt8×Bool):∀ n,eIs x (n+1)=if (eI x).1.2=true then (eIs (eI x).2 n).map (fun p=>((eI x).1.1::p.1,p.2)) else none
  | 0=>by simp only [eIs];split<;>rfl
  | n+1=>by
    show (match eIs x (n+1) with|none=>none|some (q,y)=>if (eI y).1.2=true then some (q++[(eI y).1.1],(eI y).2) else none)=_
    rw [eIs_front x n]
    by_cases c:(eI x).1.2=true
    · rw [if_pos c,if_pos c]
      simp only [eIs]
      cases eIs (eI x).2 n with
      | none=>rfl
      | some p =>
        obtain ⟨q,y⟩:=p
        simp only [Option.map_some]
        by_cases d:(eI y).1.2=true
        · rw [if_pos d,if_pos d];rfl
        · rw [if_neg d,if_neg d];rfl
    · rw [if_neg c,if_neg c]
theorem eW_get (r:List UInt8):(8≤r.length→eW (r,false)=(le (r.take 8),r.drop 8,false))∧(¬ 8≤r.length→(eW (r,false)).2.2=true):=⟨fun h=>if_pos ⟨rfl,h⟩,fun h=>by unfold eW;simp only;rw [if_neg (fun c=>h c.2)]⟩
theorem eI_get (l:List UInt8):(∃ x r,getI l=some (x,r)∧eI (l,false)=((x,true),r,false))∨(getI l=none∧((eI (l,false)).1.2=false∨(eI (l,false)).2.2=true)):=by
  cases l with
  | nil=>exact .inr ⟨rfl,.inr rfl⟩
  | cons o r =>
    unfold getI eI
    rw [show eS (o::r,false)=(o,r,false) from rfl]
    simp only
    by_cases e1:o.toNat=1
    · rw [if_pos e1,if_pos e1]
      cases r with
      | nil=>exact .inr ⟨rfl,.inr (by unfold eN;rw [show eS ([],false)=(0,[],true) from rfl];rfl)⟩
      | cons s r =>
        unfold eN
        rw [show eS (s::r,false)=(s,r,false) from rfl]
        simp only
        by_cases hs:1<s.toNat
        · rw [if_pos hs,if_neg (by omega)]
          exact .inr ⟨O,.inl O⟩
        · rw [if_neg hs]
          by_cases h16:16≤r.length
          · rw [if_pos ⟨by omega,h16⟩]
            rw [(eW_get r).1 (by omega)]
            simp only
            rw [(eW_get (r.drop 8)).1 (by rw [dA];omega)]
            refine .inl ⟨_,_,O,?_⟩
            rw [List.drop_drop]
          · rw [if_neg (fun h=>h16 h.2)]
            refine .inr ⟨O,.inr ?_⟩
            simp only
            by_cases h8:8≤r.length
            · rw [(eW_get r).1 h8]
              exact (eW_get (r.drop 8)).2 (by rw [dA];omega)
            · exact (eW_less _).2 ((eW_get r).2 h8)
    · rw [if_neg e1,if_neg e1]
      by_cases e2:o.toNat=2
      · rw [if_pos e2,if_pos e2]
        match r with
        | []=>exact .inr ⟨rfl,.inr rfl⟩
        | [a]=>exact .inr ⟨rfl,.inr rfl⟩
        | a::b::r=>exact .inl ⟨_,_,rfl,rfl⟩
      · rw [if_neg e2,if_neg e2]
        by_cases e3:o.toNat=3
        · rw [if_pos e3,if_pos e3]
          match r with
          | []=>exact .inr ⟨rfl,.inr rfl⟩
          | a::r=>exact .inl ⟨_,_,rfl,rfl⟩
        · rw [if_neg e3,if_neg e3]
          exact .inl ⟨_,_,O,O⟩
theorem eIs_bad {x:List UInt8×Bool} (hb:x.2=true) {n:Nat} {q:List Ins} {y:List UInt8×Bool} (h:eIs x n=some (q,y)):y.2=true:=(eIs_len h).2.1.2 hb
theorem eIs_get:∀ (n:Nat) (l:List UInt8),(∃ q r,getIs n l=some (q,r)∧eIs (l,false) n=some (q,r,false))∨(getIs n l=none∧(eIs (l,false) n=none∨∃ q y,eIs (l,false) n=some (q,y)∧y.2=true))
  | 0,l=>.inl ⟨[],l,rfl,rfl⟩
  | n+1,l=>by
    rw [eIs_front]
    simp only [getIs]
    rcases eI_get l with ⟨x,r,h1,h2⟩|⟨h1,h2⟩
    · rw [h1,h2,if_pos rfl]
      simp only
      rcases eIs_get n r with ⟨q,r2,h3,h4⟩|⟨h3,h4⟩
      · rw [h3,h4]
        exact .inl ⟨_,_,O,O⟩
      · rw [h3]
        rcases h4 with h4|⟨q,y,h4,h5⟩
        · rw [h4];exact .inr ⟨rfl,.inl rfl⟩
        · rw [h4];exact .inr ⟨rfl,.inr ⟨_,_,rfl,h5⟩⟩
    · rw [h1]
      refine .inr ⟨O,?_⟩
      rcases h2 with h2|h2
      · rw [if_neg (by rw [h2];decide)];exact .inl rfl
      · by_cases c:(eI (l,false)).1.2=true
        · rw [if_pos c]
          cases hp:eIs (eI (l,false)).2 n with
          | none=>exact .inl rfl
          | some p =>
            obtain ⟨q,y⟩:=p
            exact .inr ⟨_,_,O,eIs_bad h2 hp⟩
        · rw [if_neg c];exact .inl rfl
theorem decX_e (s:List UInt8):decX s=match eIs (eS (s,false)).2 (eS (s,false)).1.toNat with
    | none=>none
    | some (q,y)=>if (!y.2&&(y.1==[]))=true∧chkX q=0 then some q else none:=by
  cases s with
  | nil=>rfl
  | cons n r =>
    rw [show eS (n::r,false)=(n,r,false) from rfl]
    simp only [decX]
    rcases eIs_get n.toNat r with ⟨q,r2,h3,h4⟩|⟨h3,h4⟩
    · rw [h3,h4]
      cases r2 with
      | nil =>
        simp only
        by_cases c:chkX q=0
        · rw [if_pos c,if_pos ⟨rfl,c⟩]
        · rw [if_neg c,if_neg (fun h=>c h.2)]
      | cons a r2 =>
        simp only
        rw [if_neg (fun h=>by simp at h)]
    · rw [h3]
      rcases h4 with h4|⟨q,y,h4,h5⟩
      · rw [h4]
      · rw [h4]
        simp only
        rw [if_neg (fun h=>by rw [h5] at h;simp at h)]
variable (X:Nat→Option Obj)
theorem eNum1 (l:List UInt8) (b:Bool) (hl:l.length<4611686018427387904):MSpec Tryz.prog X 34 [Lp 1000000,Ln .i64 1] (rd 1000000 l b) (Ln .u64 ((eS (l,b)).1.toNat:Nat)) (rd 1000000 (eS (l,b)).2.1 (eS (l,b)).2.2):=by
  cases b with
  | true=>have h:=Num_no X l true 1 rfl;cases l<;>exact h
  | false=>cases l with
    | nil=>exact Num_no X [] false 1 rfl
    | cons c t =>
      have h1:=Num_ok X (c::t) 1 rfl (by simp) hl
      rw [show ((c::t).take 1)=[c] from rfl,show ((c::t).drop 1)=t from rfl,show le [c]=c.toNat by simp [le]] at h1
      exact h1
theorem eNum8 (l:List UInt8) (b:Bool) (hl:l.length<4611686018427387904):MSpec Tryz.prog X 34 [Lp 1000000,Ln .i64 8] (rd 1000000 l b) (Ln .u64 ((eW (l,b)).1:Nat)) (rd 1000000 (eW (l,b)).2.1 (eW (l,b)).2.2):=by
  by_cases h:b=false∧8≤l.length
  · rw [show eW (l,b)=(le (l.take 8),l.drop 8,false) from if_pos h]
    obtain ⟨rfl,h4⟩:=h
    exact Num_ok X l 8 O h4 hl
  · rw [show eW (l,b)=(0,l,true) from if_neg h]
    refine Num_no X l b 8 ?_
    unfold rawOk
    cases b with
    | true=>rfl
    | false=>rw [cO (by simp only [true_and] at h;omega)];rfl
theorem eTake (l:List UInt8) (b:Bool) (hl:l.length<4611686018427387904):MSpec Tryz.prog X 79 [Lp 1000000] (rd 1000000 l b) (Ln .i64 ((eS (l,b)).1.toNat:Nat)) (rd 1000000 (eS (l,b)).2.1 (eS (l,b)).2.2):=by
  have h:=eNum1 X l b hl
  have hk:=(eS (l,b)).1.toNat_lt
  generalize (eS (l,b)).1.toNat=k at *
  generalize (eS (l,b)).2.1=l2 at *
  generalize (eS (l,b)).2.2=b2 at *
  refine cG Tryz.func79 rfl (by kernel_rfl) rfl rfl rfl rfl rfl ?_
  intro C
  have hw:IntKind.i64.wrap ((k:Nat):Int)=((k:Nat):Int):=cH (by omega)
  (refine aA<|rgN<|kas O<|aB<|aA<|rgN<|kmv O<|aU [] (rd 1000000 l2 b2) (h) O O (by exact (cQ ⟨_,O,O⟩ trivial)) (by exact (bT (bT O (bT O O)) O)) O O O O (by exact (.box O O .nil)) dR<|kcv O hw ?_;refine kas O<|aB<|aI ?_)
  exact ⟨[],⟨[_],⟨O,trivial⟩,O⟩,⟨⟨_,O,O⟩,trivial⟩,O,O⟩
set_option maxHeartbeats 1600000 in
theorem eTakeNum (l:List UInt8) (b:Bool) (hl:l.length<4611686018427387904):MSpec Tryz.prog X 94 [Lp 1000000] (rd 1000000 l b) (.tup [SI (eN (l,b)).1.1.1 (eN (l,b)).1.1.2,Sb (eN (l,b)).1.2]) (rd 1000000 (eN (l,b)).2.1 (eN (l,b)).2.2):=by
  have h1:=eTake X l b hl
  have g1:=(eS_less (l,b)).1
  unfold eN
  rcases hy1:eS (l,b) with ⟨c,l1,b1⟩
  rw [hy1] at h1 g1
  simp only at h1 g1 ⊢
  have hc:=c.toNat_lt
  by_cases c1:1<c.toNat
  · rw [if_pos c1]
    refine cG Tryz.func94 rfl (by kernel_rfl) rfl rfl rfl rfl rfl ?_
    intro C
    (refine aA<|rgN<|aP O dR ?_;refine kas O<|aB<|aA<|rgN<|kmv O<|aU [] (rd 1000000 l1 b1) (h1) O O (by exact (cQ ⟨_,O,O⟩ trivial)) (by exact (bT (bT O (bT O O)) O)) O O O O (by exact (.box O O .nil)) dR<|kas O<|aB<|aA<|aA<|rgN<|kmv O<|aS O O (r:=true) (cP (by omega)) dR<|aB ?_;refine aE O ?_;refine aA<|rgN<|aT O O (by exact O) (by exact nl3 O O O O) dR ?_;refine aM O O O O O O dR ?_;refine kas O<|aB<|aI ?_)
    exact ⟨[],⟨[_,_],⟨⟨_,_,O,O,O,.inl ⟨AggT.h,O⟩⟩,O,trivial⟩,O⟩,⟨⟨_,O,O⟩,trivial⟩,O,O⟩
  · rw [if_neg c1]
    have h2:=eNum8 X l1 b1 (by omega)
    have g2:=(eW_less (l1,b1)).1
    have k2:=eW_lt (l1,b1)
    rcases hy2:eW (l1,b1) with ⟨lo,l2,b2⟩
    rw [hy2] at h2 g2 k2
    simp only at h2 g2 k2 ⊢
    have h3:=eNum8 X l2 b2 (by omega)
    have k3:=eW_lt (l2,b2)
    rcases hy3:eW (l2,b2) with ⟨hi,l3,b3⟩
    rw [hy3] at h3 k3
    simp only at h3 k3 ⊢
    have e1:((lo+18446744073709551616*hi:Nat):Int)/18446744073709551616=((hi:Nat):Int):=by omega
    have e2:((lo+18446744073709551616*hi:Nat):Int)%18446744073709551616=((lo:Nat):Int):=by omega
    unfold SI
    rw [e1,e2]
    have hsg:(((c.toNat:Nat):Int)==1)=decide (c.toNat=1):=by
      by_cases h:c.toNat=1
      · rw [h];rfl
      · rw [cO h];exact cR (by omega)
    generalize decide (c.toNat=1)=sg at *
    refine cG Tryz.func94 rfl (by kernel_rfl) rfl rfl rfl rfl rfl ?_
    intro C
    (refine aA<|rgN<|aP O dR ?_;refine kas O<|aB<|aA<|rgN<|kmv O<|aU [] (rd 1000000 l1 b1) (h1) O O (by exact (cQ ⟨_,O,O⟩ trivial)) (by exact (bT (bT O (bT O O)) O)) O O O O (by exact (.box O O .nil)) dR<|kas O<|aB<|aA<|aA<|rgN<|kmv O<|aS O O (r:=false) (cO (by omega)) dR<|aB ?_;refine aF O ?_;refine aH ?_;refine aA<|rgN<|kmv O<|keq O O hsg<|aT O O (by exact O) (by exact nl3 O O O O) dR ?_;refine aP O dR ?_;refine aM O O O O O O dR ?_;refine aB<|aA<|rgN<|kmv O<|aU [] (rd 1000000 l2 b2) (h2) O O (by exact (cQ ⟨_,O,O⟩ trivial)) (by exact (bT (bT O (bT O O)) O)) O O O O (by exact (.box O O .nil)) dR<|kfa O O ?_;refine bG O O O O O (nl3 O O O O) dR<|aB<|aA<|rgN<|kmv O<|aU [] (rd 1000000 l3 b3) (h3) O O (by exact (cQ ⟨_,O,O⟩ trivial)) (by exact (bT (bT O (bT O O)) O)) O O O O (by exact (.box O O .nil)) dR<|kfa O O ?_;refine bG O O O O O (nl3 O O O O) dR<|aB<|aA<|rgN<|aK O O O dR ?_;refine aM O O O O O O dR ?_;refine kas O<|aB<|aI ?_)
    exact ⟨[],⟨[_,_],⟨⟨_,_,O,O,O,.inl ⟨AggT.h,O⟩⟩,O,trivial⟩,O⟩,⟨⟨_,O,O⟩,trivial⟩,O,O⟩
theorem rowL_no {op:Int} (h1:op≠1) (h2:op≠2) (h3:op≠3):rowL op=[.string ⟨(wordS op).toArray⟩,.int .i64 (takes op:Nat),.bool false,.bool false,.bool false]:=by
  unfold rowL
  rw [cR h1,cR h2,cR h3]
  rfl
set_option maxHeartbeats 3200000 in
theorem eTakeIns (l:List UInt8) (b:Bool) (hl:l.length<4611686018427387904):MSpec Tryz.prog X 80 [Lp 1000000] (rd 1000000 l b) (.tup [.agg ((insV (eI (l,b)).1.1).map .val),Sb (eI (l,b)).1.2]) (rd 1000000 (eI (l,b)).2.1 (eI (l,b)).2.2):=by
  have h1:=eTake X l b hl
  have g1:=(eS_less (l,b)).1
  unfold eI
  rcases hy1:eS (l,b) with ⟨c,l1,b1⟩
  rw [hy1] at h1 g1
  simp only at h1 g1 ⊢
  have hc:=c.toNat_lt
  by_cases c1:c.toNat=1
  · rw [if_pos c1]
    rw [c1] at h1
    have h1:MSpec Tryz.prog X 79 [Lp 1000000] (rd 1000000 l b) (Ln .i64 1) (rd 1000000 l1 b1):=h1
    have h2:=eTakeNum X l1 b1 (by omega)
    rcases hy2:eN (l1,b1) with ⟨⟨⟨kb,kN⟩,is⟩,l2,b2⟩
    rw [hy2] at h2
    simp only at h2 ⊢
    refine cG Tryz.func80 rfl (by kernel_rfl) rfl rfl rfl rfl rfl ?_
    intro C
    (refine aA<|rgN<|aP O dR ?_;refine kas O<|aB<|aA<|rgN<|kmv O<|aU [] (rd 1000000 l1 b1) (h1) O O (by exact (cQ ⟨_,O,O⟩ trivial)) (by exact (bT (bT O (bT O O)) O)) O O O O (by exact (.box O O .nil)) dR<|aT O O (by exact O) (by exact nl6 O O O O O O O) dR ?_;refine aP O dR ?_;refine aM O O O O O O dR ?_;refine kas O<|aB<|aA<|rgN<|kfa O O ?_;refine kl1 O O O<|kca O O (rowOf_1 X)<|K.fieldAgg (m:=3) (l':=[.val (.bool false),.val (.bool false),.val (.bool true)]) O Tryz.underlying137 O (by kernel_rfl) O dR ?_;refine aP O dR ?_;refine aM O O O O O O dR ?_;refine aB<|aA<|aA<|rgN<|kfa O O ?_;refine kl1 O O O<|aB<|aF O ?_;refine aH ?_;refine aA<|aA<|rgN<|kfa O O ?_;refine kl1 O O O<|aB<|aF O ?_;refine aH ?_;refine aA<|aA<|rgN<|kfa O O ?_;refine kl1 O O O<|aB<|aE O ?_;refine rgN<|kmv O<|aU [] (rd 1000000 l2 b2) (h2) O O (by exact (cQ ⟨_,O,O⟩ trivial)) (by exact (bT (bT O (bT O O)) O)) O O O O (by exact (.box O O .nil)) dR<|kmv O<|kex O O<|kex O O<|kfa O O ?_;refine K.store O O O O (by kernel_rfl) (dN 6) O dR<|kas O<|aB<|aA<|rgN<|aK O O O dR ?_;refine kmv O<|aM O O O O O O dR ?_;refine kas O<|aB<|aI ?_)
    exact ⟨[],⟨[_,_],⟨⟨_,_,O,O,O,.inl ⟨AggT.h,O⟩⟩,O,trivial⟩,O⟩,⟨⟨_,O,O⟩,trivial⟩,O,O⟩
  rw [if_neg c1]
  by_cases c2:c.toNat=2
  · rw [if_pos c2]
    rw [c2] at h1
    have h1:MSpec Tryz.prog X 79 [Lp 1000000] (rd 1000000 l b) (Ln .i64 2) (rd 1000000 l1 b1):=h1
    have h2:=eTake X l1 b1 (by omega)
    have g2:=(eS_less (l1,b1)).1
    rcases hy2:eS (l1,b1) with ⟨ca,l2,b2⟩
    rw [hy2] at h2 g2
    simp only at h2 g2 ⊢
    have h3:=eTake X l2 b2 (by omega)
    rcases hy3:eS (l2,b2) with ⟨cb,l3,b3⟩
    rw [hy3] at h3
    simp only at h3 ⊢
    refine cG Tryz.func80 rfl (by kernel_rfl) rfl rfl rfl rfl rfl ?_
    intro C
    (refine aA<|rgN<|aP O dR ?_;refine kas O<|aB<|aA<|rgN<|kmv O<|aU [] (rd 1000000 l1 b1) (h1) O O (by exact (cQ ⟨_,O,O⟩ trivial)) (by exact (bT (bT O (bT O O)) O)) O O O O (by exact (.box O O .nil)) dR<|aT O O (by exact O) (by exact nl6 O O O O O O O) dR ?_;refine aP O dR ?_;refine aM O O O O O O dR ?_;refine kas O<|aB<|aA<|rgN<|kfa O O ?_;refine kl1 O O O<|kca O O (rowOf_2 X)<|K.fieldAgg (m:=3) (l':=[.val (.bool true),.val (.bool true),.val (.bool false)]) O Tryz.underlying137 O (by kernel_rfl) O dR ?_;refine aP O dR ?_;refine aM O O O O O O dR ?_;refine aB<|aA<|aA<|rgN<|kfa O O ?_;refine kl1 O O O<|aB<|aE O ?_;refine rgN<|kmv O<|aU [] (rd 1000000 l2 b2) (h2) O O (by exact (cQ ⟨_,O,O⟩ trivial)) (by exact (bT (bT O (bT O O)) O)) O O O O (by exact (.box O O .nil)) dR<|kfa O O ?_;refine bG O O O O O (nl6 O O O O O O O) dR<|aB<|aA<|aA<|rgN<|kfa O O ?_;refine kl1 O O O<|aB<|aE O ?_;refine rgN<|kmv O<|aU [] (rd 1000000 l3 b3) (h3) O O (by exact (cQ ⟨_,O,O⟩ trivial)) (by exact (bT (bT O (bT O O)) O)) O O O O (by exact (.box O O .nil)) dR<|kfa O O ?_;refine bG O O O O O (nl6 O O O O O O O) dR<|aB<|aA<|aA<|rgN<|kfa O O ?_;refine kl1 O O O<|aB<|aF O ?_;refine aH ?_;refine aA<|rgN<|aK O O O dR ?_;refine kmv O<|aM O O O O O O dR ?_;refine kas O<|aB<|aI ?_)
    exact ⟨[],⟨[_,_],⟨⟨_,_,O,O,O,.inl ⟨AggT.h,O⟩⟩,O,trivial⟩,O⟩,⟨⟨_,O,O⟩,trivial⟩,O,O⟩
  rw [if_neg c2]
  by_cases c3:c.toNat=3
  · rw [if_pos c3]
    rw [c3] at h1
    have h1:MSpec Tryz.prog X 79 [Lp 1000000] (rd 1000000 l b) (Ln .i64 3) (rd 1000000 l1 b1):=h1
    have h2:=eTake X l1 b1 (by omega)
    rcases hy2:eS (l1,b1) with ⟨ca,l2,b2⟩
    rw [hy2] at h2
    simp only at h2 ⊢
    refine cG Tryz.func80 rfl (by kernel_rfl) rfl rfl rfl rfl rfl ?_
    intro C
    (refine aA<|rgN<|aP O dR ?_;refine kas O<|aB<|aA<|rgN<|kmv O<|aU [] (rd 1000000 l1 b1) (h1) O O (by exact (cQ ⟨_,O,O⟩ trivial)) (by exact (bT (bT O (bT O O)) O)) O O O O (by exact (.box O O .nil)) dR<|aT O O (by exact O) (by exact nl6 O O O O O O O) dR ?_;refine aP O dR ?_;refine aM O O O O O O dR ?_;refine kas O<|aB<|aA<|rgN<|kfa O O ?_;refine kl1 O O O<|kca O O (rowOf_3 X)<|K.fieldAgg (m:=3) (l':=[.val (.bool true),.val (.bool false),.val (.bool false)]) O Tryz.underlying137 O (by kernel_rfl) O dR ?_;refine aP O dR ?_;refine aM O O O O O O dR ?_;refine aB<|aA<|aA<|rgN<|kfa O O ?_;refine kl1 O O O<|aB<|aE O ?_;refine rgN<|kmv O<|aU [] (rd 1000000 l2 b2) (h2) O O (by exact (cQ ⟨_,O,O⟩ trivial)) (by exact (bT (bT O (bT O O)) O)) O O O O (by exact (.box O O .nil)) dR<|kfa O O ?_;refine bG O O O O O (nl6 O O O O O O O) dR<|aB<|aA<|aA<|rgN<|kfa O O ?_;refine kl1 O O O<|aB<|aF O ?_;refine aH ?_;refine aA<|aA<|rgN<|kfa O O ?_;refine kl1 O O O<|aB<|aF O ?_;refine aH ?_;refine aA<|rgN<|aK O O O dR ?_;refine kmv O<|aM O O O O O O dR ?_;refine kas O<|aB<|aI ?_)
    exact ⟨[],⟨[_,_],⟨⟨_,_,O,O,O,.inl ⟨AggT.h,O⟩⟩,O,trivial⟩,O⟩,⟨⟨_,O,O⟩,trivial⟩,O,O⟩
  rw [if_neg c3]
  generalize hop:((c.toNat:Nat):Int)=op at *
  have hno:=rowL_no (op:=op) (by omega) (by omega) (by omega)
  by_cases c5:5≤op∧op≤17
  · have hR:=rowOf_fn X op c5
    unfold LRow at hR
    rw [hno] at hR
    refine cG Tryz.func80 rfl (by kernel_rfl) rfl rfl rfl rfl rfl ?_
    intro C
    (refine aA<|rgN<|aP O dR ?_;refine kas O<|aB<|aA<|rgN<|kmv O<|aU [] (rd 1000000 l1 b1) (h1) O O (by exact (cQ ⟨_,O,O⟩ trivial)) (by exact (bT (bT O (bT O O)) O)) O O O O (by exact (.box O O .nil)) dR<|aT O O (by exact O) (by exact nl6 O O O O O O O) dR ?_;refine aP O dR ?_;refine aM O O O O O O dR ?_;refine kas O<|aB<|aA<|rgN<|kfa O O ?_;refine kl1 O O O<|bE [(1000001,600)] (.sv (.agg [.val (.string ⟨(wordS op).toArray⟩),.val (.int .i64 (takes op:Nat)),.val (.bool false),.val (.bool false),.val (.bool false),ptrF (cloF op) 600])) [dB 600 op] (hR) O O (by exact trivial) O O O O O (by exact (.box O O .nil)) dR<|K.fieldAgg (m:=3) (l':=[.val (.bool false),.val (.bool false),.val (.bool false)]) O Tryz.underlying137 O (by kernel_rfl) O dR ?_;refine aP O dR ?_;refine aM O O O O O O dR ?_;refine aB<|aA<|aA<|rgN<|kfa O O ?_;refine kl1 O O O<|aB<|aF O ?_;refine aH ?_;refine aA<|aA<|rgN<|kfa O O ?_;refine kl1 O O O<|aB<|aF O ?_;refine aH ?_;refine aA<|aA<|rgN<|kfa O O ?_;refine kl1 O O O<|aB<|aF O ?_;refine aH ?_;refine aA<|rgN<|aK O O O dR ?_;refine kmv O<|aM O O O O O O dR ?_;refine kas O<|aB<|aI ?_)
    exact ⟨[],⟨[_,_],⟨⟨_,_,O,O,O,.inl ⟨AggT.h,O⟩⟩,O,trivial⟩,O⟩,⟨⟨_,O,O⟩,trivial⟩,O,O⟩
  · have hR:=rowOf_leaf X op (by omega)
    generalize leafV op=v at *
    unfold LRow at hR
    rw [hno] at hR
    refine cG Tryz.func80 rfl (by kernel_rfl) rfl rfl rfl rfl rfl ?_
    intro C
    (refine aA<|rgN<|aP O dR ?_;refine kas O<|aB<|aA<|rgN<|kmv O<|aU [] (rd 1000000 l1 b1) (h1) O O (by exact (cQ ⟨_,O,O⟩ trivial)) (by exact (bT (bT O (bT O O)) O)) O O O O (by exact (.box O O .nil)) dR<|aT O O (by exact O) (by exact nl6 O O O O O O O) dR ?_;refine aP O dR ?_;refine aM O O O O O O dR ?_;refine kas O<|aB<|aA<|rgN<|kfa O O ?_;refine kl1 O O O<|kca O O hR<|K.fieldAgg (m:=3) (l':=[.val (.bool false),.val (.bool false),.val (.bool false)]) O Tryz.underlying137 O (by kernel_rfl) O dR ?_;refine aP O dR ?_;refine aM O O O O O O dR ?_;refine aB<|aA<|aA<|rgN<|kfa O O ?_;refine kl1 O O O<|aB<|aF O ?_;refine aH ?_;refine aA<|aA<|rgN<|kfa O O ?_;refine kl1 O O O<|aB<|aF O ?_;refine aH ?_;refine aA<|aA<|rgN<|kfa O O ?_;refine kl1 O O O<|aB<|aF O ?_;refine aH ?_;refine aA<|rgN<|aK O O O dR ?_;refine kmv O<|aM O O O O O O dR ?_;refine kas O<|aB<|aI ?_)
    exact ⟨[],⟨[_,_],⟨⟨_,_,O,O,O,.inl ⟨AggT.h,O⟩⟩,O,trivial⟩,O⟩,⟨⟨_,O,O⟩,trivial⟩,O,O⟩
def zeI (k:Nat):List Value:=(List.replicate k [Value.int .i64 0,.int .i64 0,.int .i64 0,.bool false,.int .u64 0,.int .u64 0]).flatten
theorem zeI_succ (k:Nat):zeI (k+1)=[Value.int .i64 0,.int .i64 0,.int .i64 0,.bool false,.int .u64 0,.int .u64 0]++zeI k:=by unfold zeI;rw [List.replicate_succ,List.flatten_cons]
theorem zeI_len (k:Nat):(zeI k).length=k*6:=by
  induction k with
  | zero=>rfl
  | succ k ih=>rw [zeI_succ,cV,ih];simp;omega
theorem inssV_snoc2 (q:List Ins) (x:Ins):inssV (q++[x])=inssV q++insV x:=by unfold inssV;rw [dH,List.flatten_append];simp
def gdR (s:List UInt8):LV:=match decX s with|some l=>.tup [.one (.slc 1000001 0 l.length 6),Sn .i64 0]|none=>.tup [Vnil,Sn .i64 4]
def gdBx (s:List UInt8):List (Nat×Option Box):=match decX s with|some l=>[(1000001,some ⟨66,(inssV l).map .val,true⟩)]|none=>[]
theorem gd_none {s:List UInt8} (h:decX s=none):gdR s = .tup [Vnil,Sn .i64 4]∧gdBx s=[]:=by unfold gdR gdBx;rw [h];exact ⟨rfl,rfl⟩
theorem gd_some {s:List UInt8} {l:List Ins} (h:decX s=some l):gdR s = .tup [.one (.slc 1000001 0 l.length 6),Sn .i64 0]∧gdBx s=[(1000001,some ⟨66,(inssV l).map .val,true⟩)]:=by unfold gdR gdBx;rw [h];exact ⟨rfl,rfl⟩
theorem gdBx_use (s:List UInt8):((gdBx s).all fun p=>match p.2 with|some b=>b.cells.all (CV.inUse (gdBx s))|none=>true)=true:=by
  cases h:decX s with
  | none=>rw [(gd_none h).2];rfl
  | some l=>rw [(gd_some h).2];simp only [List.all_cons,List.all_nil,vals_use,Bool.and_true]
theorem gdR_use (s:List UInt8):LV.inUse (gdBx s) (gdR s)=true:=by
  cases h:decX s with
  | none=>rw [(gd_none h).1,(gd_none h).2];rfl
  | some l=>rw [(gd_some h).1,(gd_some h).2];rfl
abbrev deSt (m i:Nat) (l:List UInt8) (b:Bool) (cells:List Value) (Y:Nat→Option Obj):St:=
  ⟨[(4,Lp 700),(5,.sv (.one (.slc 600 0 m 6))),(15,Ln .i64 (m:Nat)),(16,Ln .i64 (i:Nat))],rd 700 l b++[(600,some ⟨66,cells.map .val,false⟩)],Y⟩
set_option maxHeartbeats 6400000 in
theorem gDecodeM (s:List UInt8) (hs:s.length≤1099511627776):MSpec Tryz.prog X 59 [Ls s] [] (gdR s) (gdBx s):=by
  have hD:=decX_e s
  have h1:=eTake X s false (by omega)
  have g1:=(eS_less (s,false)).1
  rcases hy1:eS (s,false) with ⟨c,l1,b1⟩
  rw [hy1] at h1 g1 hD
  simp only at h1 g1 hD
  have hc:=c.toNat_lt
  generalize c.toNat=m at *
  refine cG Tryz.func59 rfl (by kernel_rfl) rfl (gdR_use s) (gdBx_use s) rfl rfl ?_
  intro C
  have hmk:slcBuild Tryz.prog 68 m=some (zeI m,6,66):=slcBuild_many (z := #[.int .i64 0,.int .i64 0,.int .i64 0,.bool false,.int .u64 0,.int .u64 0]) (by kernel_rfl) (by kernel_rfl) rfl (by omega)
  have hR:=Read_spec X s
  (refine aA<|rgN<|kas O<|kas O<|aB<|aA<|rgN<|kmv O<|bE [(1000001,700)] (Lp 700) (rd 700 s false) (hR) O O (by exact trivial) O O O O O (by exact (.box O O .nil)) dR<|kas O<|aB<|aA<|rgN<|kmv O ?_;refine aU [(1000000,700)] (rd 700 l1 b1) (h1) O O (by exact (cQ ⟨_,O,O⟩ trivial)) (by exact (bT (bT O (bT O O)) O)) O O O O (by exact (.box O O .nil)) dR<|K.makeSlc (m:=m) (bytes:=48) O O hmk (by kernel_rfl) (by omega) O O dR<|kas O<|aB<|aA<|aA<|rgN<|kmv O<|K.lenSlc O cC O dR ?_;refine kmv O<|aB<|aG ?_)
  refine cL (fun k σ=>∃ (i:Nat) (q:List Ins) (l:List UInt8) (b:Bool),i≤m∧k=m-i∧eIs (l1,b1) i=some (q,l,b)∧σ=deSt m i l b (inssV q++zeI (m-i)) X) m
    ⟨deSt m 0 l1 b1 (inssV []++zeI (m-0)) X,Le.ofR [(700,700),(600,13)] (by exact ⟨rfl,rfl,rfl,rfl,trivial⟩) (by repeat' (first|exact trivial|refine cQ ⟨_,rfl,?_⟩ ?_|refine cQ ⟨_,rfl⟩ ?_|rfl|exact bX _ _ _ _|exact bY _ _ _ _|exact bZ rfl)) (by exact rfl) (by exact rfl) (by repeat' (first|refine bT ?_ ?_|rfl|exact bV|exact bU|exact bW rfl)) (by exact rfl) (by exact rfl),0,[],l1,b1,Nat.zero_le _,rfl,rfl,rfl⟩ ?_
  rintro k σ ⟨i,q,l,b,hi,rfl,hq,rfl⟩
  obtain ⟨hqn,⟨hll,_⟩,hqs⟩:=eIs_len hq
  simp only at hll
  by_cases hlt:i<m
  · have hT:=eTakeIns X l b (by omega)
    have hnx:eIs (l1,b1) (i+1)=if (eI (l,b)).1.2=true then some (q++[(eI (l,b)).1.1],(eI (l,b)).2) else none:=by simp only [eIs,hq]
    rcases hy:eI (l,b) with ⟨⟨x,is⟩,l2,b2⟩
    rw [hy] at hT hnx
    simp only at hT hnx
    cases is with
    | false =>
      rw [if_neg (by decide)] at hnx
      have:=eIs_none hnx (m-(i+1))
      rw [show i+1+(m-(i+1))=m by omega] at this
      rw [this] at hD
      obtain ⟨q1,q2⟩:=gd_none hD
      rw [q1,q2]
      (refine aA<|rgN<|klt O O (cP (by omega))<|aB<|aA<|aE O ?_;refine aH ?_;refine aA<|aG<|aA<|rgN<|kmv O<|kas O<|aB<|aA<|rgN<|kmv O<|aU [(1000000,700)] (rd 700 l2 b2) (hT) O O (by exact (cQ ⟨_,O,O⟩ trivial)) (by exact (bT (bT O (bT O O)) O)) O O O O (by exact (.box O O .nil)) dR<|kmv O<|kex O O<|kex O O ?_;refine aP O dR ?_;refine aM O O O O O O dR ?_;refine kas O<|aB<|aA<|aA<|rgN<|kmv O<|aV O O dR<|aB<|aE O ?_;refine aA<|rgN<|kas O<|kas O<|aB<|aI ?_)
      exact ⟨[],⟨[_,_],⟨O,O,trivial⟩,O⟩,trivial,O,O⟩
    | true =>
      rw [if_pos rfl] at hnx
      have hix:0+Int.toNat (i:Int)*6=i*6:=by rw [dG];omega
      have hpl:(inssV q).length=i*6:=by have:=inssV_len q;rw [cW] at this;rw [this,hqn]
      have hroom:i*6+6≤((inssV q++zeI (m-i)).map CV.val).length:=by rw [cW,cV,hpl,zeI_len];omega
      have hspl:splice ((inssV q++zeI (m-i)).map CV.val) (i*6) ((insV x).map CV.val)=(inssV (q++[x])++zeI (m-(i+1))).map CV.val:=by
        rw [inssV_snoc2,show m-i=(m-(i+1))+1 by omega,zeI_succ]
        unfold splice
        simp only [dH,dM]
        have hml:((inssV q).map CV.val).length=i*6:=by rw [cW,hpl]
        generalize (inssV q).map CV.val=R at *
        rw [← hml,List.take_left,List.drop_length_add_append]
        simp [insV]
      have hinc:IntKind.i64.wrap (((i:Nat):Int)+1)=((i+1:Nat):Int):=by rw [cH (by omega)];omega
      (refine aA<|rgN<|klt O O (cP (by omega))<|aB<|aA<|aE O ?_;refine aH ?_;refine aA<|aG<|aA<|rgN<|kmv O<|kas O<|aB<|aA<|rgN<|kmv O<|aU [(1000000,700)] (rd 700 l2 b2) (hT) O O (by exact (cQ ⟨_,O,O⟩ trivial)) (by exact (bT (bT O (bT O O)) O)) O O O O (by exact (.box O O .nil)) dR<|kmv O<|kex O O<|kex O O ?_;refine aP O dR ?_;refine aM O O O O O O dR ?_;refine kas O<|aB<|aA<|aA<|rgN<|kmv O<|aV O O dR<|aB<|aF O ?_;refine aH ?_;refine rgN<|kmv O<|kmv O<|aK O O O dR ?_;refine K.indexSlc O O (by omega) hix dR ?_;refine K.store O O O O (by kernel_rfl) hroom hspl dR<|aB<|rgN<|kad O O hinc<|kmv O<|aB ?_)
      exact ⟨m-(i+1),deSt m (i+1) l2 b2 (inssV (q++[x])++zeI (m-(i+1))) X,by omega,Le.of (by exact ⟨O,O,O,O,trivial⟩) (by exact ⟨O,O,trivial⟩) (by exact O) (by exact O) (by repeat' (first|refine bT ?_ ?_|rfl|exact bV|exact bU|exact bW O)),i+1,q++[x],l2,b2,by omega,O,hnx,O⟩
  · have e:i=m:=by omega
    subst e
    rw [hq] at hD
    simp only at hD
    have hz:zeI (i-i)=[]:=by rw [Nat.sub_self];rfl
    rw [hz,dJ]
    rw [← hqn] at *
    clear hqn
    (refine aA<|rgN<|klt O O (cO (by omega))<|aB<|aA<|aF O ?_;refine aJ<|aA<|aA ?_)
    refine LWP.le (σ':=⟨[(5,.sv (.one (.slc 600 0 q.length 6))),(4,Lp 700)],(600,some ⟨66,(inssV q).map .val,false⟩)::rd 700 l b,X⟩) (Le.of (by exact ⟨O,O,trivial⟩) (by exact ⟨O,O,trivial⟩) (by exact O) (by exact O) (by repeat' (first|refine bT ?_ ?_|rfl|exact bV|exact bU|exact bW O))) ?_
    refine LWP.freeze O O O fun sb scap sarr sfr hn hFz hcp hfit hsp => ?_
    have hin:InsIn (withBlock X sb (.cells sarr 66 sfr)) (some ⟨sb,0,none⟩) q:=⟨rows_in (cN _ _ _) (fun r hr=>by obtain ⟨x,_,rfl⟩:=List.mem_map.1 hr;rfl) hsp,hqs⟩
    have hC:=gCheck' _ q (some ⟨sb,0,none⟩) scap hin (by omega)
    have hDn:=Done_spec (withBlock X sb (.cells sarr 66 sfr)) l b _ rfl
    by_cases hd:(!b&&(l==[]))=true
    · rw [hd] at hDn
      by_cases hk:chkX q=0
      · rw [if_pos ⟨hd,hk⟩] at hD
        obtain ⟨q1,q2⟩:=gd_some hD
        rw [q1,q2]
        rw [hk] at hC
        (refine rgN<|kmv O<|aU [(1000000,700)] (rd 700 l b) (hDn) O O (by exact (cQ ⟨_,O,O⟩ trivial)) (by exact (bT (bT O (bT O O)) O)) O O O O (by exact (.box O O .nil)) dR<|aV O O dR<|kmv O<|gmv O O O<|gca O O hC O O<|aX O O (r:=false) O (dS O O) ?_;refine kpf O O<|aB<|aF O ?_;refine aH ?_;refine aA ?_)
        refine LWP.le (σ':=⟨[(5,.sv (.one (.val (.slice (some ⟨sb,0,none⟩) q.length scap))))],[],withBlock X sb (.cells sarr 66 sfr)⟩) (Le.of (by exact ⟨O,trivial⟩) (by exact trivial) (by exact O) (by exact O) (by repeat' (first|refine bT ?_ ?_|rfl|exact bV|exact bU|exact bW O))) ?_
        refine LWP.thaw (k:=600) (sz:=6) (vals:=inssV q) hn hFz hcp hfit hsp O O O (by decide) ?_
        (refine rgN<|kmv O<|kas O<|kas O<|aB<|aI ?_)
        exact ⟨[(1000001,600)],⟨[_,_],⟨rfl,rfl,trivial⟩,rfl⟩,(by repeat' (first|exact trivial|refine cQ ⟨_,rfl,?_⟩ ?_|refine cQ ⟨_,rfl⟩ ?_|rfl|exact bX _ _ _ _|exact bY _ _ _ _|exact bZ rfl)),rfl,rfl⟩
      · rw [if_neg (fun h=>hk h.2)] at hD
        obtain ⟨q1,q2⟩:=gd_none hD
        rw [q1,q2]
        (refine rgN<|kmv O<|aU [(1000000,700)] (rd 700 l b) (hDn) O O (by exact (cQ ⟨_,O,O⟩ trivial)) (by exact (bT (bT O (bT O O)) O)) O O O O (by exact (.box O O .nil)) dR<|aV O O dR<|kmv O<|gmv O O O<|gca O O hC O O<|aX O O (r:=true) (cT hk) (dS O O) ?_;refine kpf O O<|aB<|aE O ?_;refine aA<|rgN<|kas O<|kas O<|aB<|aI ?_)
        exact ⟨[],⟨[_,_],⟨O,O,trivial⟩,O⟩,trivial,O,O⟩
    · rw [if_neg (fun h=>hd h.1)] at hD
      obtain ⟨q1,q2⟩:=gd_none hD
      rw [q1,q2]
      rw [Bool.not_eq_true] at hd
      rw [hd] at hDn
      (refine rgN<|kmv O<|aU [(1000000,700)] (rd 700 l b) (hDn) O O (by exact (cQ ⟨_,O,O⟩ trivial)) (by exact (bT (bT O (bT O O)) O)) O O O O (by exact (.box O O .nil)) dR<|aV O O dR<|kmv O<|aC O O O<|aC O O O<|aC O O O<|kpt O O<|aB<|aE O ?_;refine aA<|rgN<|kas O<|kas O<|aB<|aI ?_)
      exact ⟨[],⟨[_,_],⟨O,O,trivial⟩,O⟩,trivial,O,O⟩
end Go.Proofs.YtamplgnbbanamaaGreatDoor
end
section
namespace Go.Proofs.YtamplgnbbanamaaGreatDoor
open Go Go.Lg Go.Lg.Fml Go.Lg.Fld Go.Lg.Arith
set_option maxRecDepth 100000
theorem eqT_expr {o a b o' a' b':Int} {s s':Bool} {h l h' l':Int} (r:Bool) (hr:(o==o'&&(a==a'&&(b==b'&&(s==s'&&(h==h'&&l==l')))))=r) (w:World):
    (Op.equalIn 10000 66 (.agg [.int .i64 o,.int .i64 a,.int .i64 b,.bool s,.int .u64 h,.int .u64 l].toArray) (.agg [.int .i64 o',.int .i64 a',.int .i64 b',.bool s',.int .u64 h',.int .u64 l'].toArray)).run Tryz.prog w = .ok r w:=by
  subst hr
  rw [show (10000:Nat)=9999+1 from rfl,run_equalIn_agg w 9999 66 _ _ (by kernel_rfl) (by kernel_rfl)]
  simp only [Program.fieldsOf,Tryz.underlying66]
  go_simp
  by_cases e1:o=o'
  · by_cases e2:a=a'
    · by_cases e3:b=b'
      · by_cases e4:s=s'
        · by_cases e5:h=h'
          · by_cases e6:l=l'<;>simp [e1,e2,e3,e4,e5,e6]
          · simp [e1,e2,e3,e4,e5]
        · simp [e1,e2,e3,e4]
      · simp [e1,e2,e3]
    · simp [e1,e2]
  · simp [e1]
theorem eqT_retrofitref11 {o a b o' a' b':Int} {s s':Bool} {h l h' l':Int} (r:Bool) (hr:(o==o'&&(a==a'&&(b==b'&&(s==s'&&(h==h'&&l==l')))))=r) (w:World):
    (Op.equalIn 10000 70 (.agg [.int .i64 o,.int .i64 a,.int .i64 b,.bool s,.int .u64 h,.int .u64 l].toArray) (.agg [.int .i64 o',.int .i64 a',.int .i64 b',.bool s',.int .u64 h',.int .u64 l'].toArray)).run Tryz.prog w = .ok r w:=by
  subst hr
  rw [show (10000:Nat)=9999+1 from rfl,run_equalIn_agg w 9999 70 _ _ (by kernel_rfl) (by kernel_rfl)]
  simp only [Program.fieldsOf,Tryz.underlying70]
  go_simp
  by_cases e1:o=o'
  · by_cases e2:a=a'
    · by_cases e3:b=b'
      · by_cases e4:s=s'
        · by_cases e5:h=h'
          · by_cases e6:l=l'<;>simp [e1,e2,e3,e4,e5,e6]
          · simp [e1,e2,e3,e4,e5]
        · simp [e1,e2,e3,e4]
      · simp [e1,e2,e3]
    · simp [e1,e2]
  · simp [e1]
theorem insEq {x y:Ins} (hx:In2 x.k.2) (hy:In2 y.k.2):(x.op==y.op&&(x.a==y.a&&(x.b==y.b&&(x.k.1==y.k.1&&(x.k.2/18446744073709551616==y.k.2/18446744073709551616&&x.k.2%18446744073709551616==y.k.2%18446744073709551616)))))=decide (x=y):=by
  obtain ⟨o,a,b,k,m⟩:=x
  obtain ⟨o',a',b',k',m'⟩:=y
  have h:=eqN (b:=k) (b':=k') hx hy
  rw [show (k==k'&&(m/18446744073709551616==m'/18446744073709551616&&m%18446744073709551616==m'%18446744073709551616))=decide (((k,m):Nm)=(k',m')) from h]
  by_cases e1:o=o'
  · by_cases e2:a=a'
    · by_cases e3:b=b'
      · by_cases e4:((k,m):Nm)=(k',m')
        · rw [e1,e2,e3,e4];simp
        · rw [cO e4,cO (fun e=>e4 (congrArg Ins.k e))];simp
      · rw [cO (fun e=>e3 (congrArg Ins.b e)),show (b==b')=false from cR e3];simp
    · rw [cO (fun e=>e2 (congrArg Ins.a e)),show (a==a')=false from cR e2];simp
  · rw [cO (fun e=>e1 (congrArg Ins.op e)),show (o==o')=false from cR e1];simp
variable (X:Nat→Option Obj)
theorem gShow (hT:XTab X) (l:List Ins) (ad:Option Addr) (cap:Nat) (hin:InsIn X ad l) (hl:l.length<1152921504606846976):PSpec Tryz.prog X 71 [Lx ad l.length cap] (Ls (showX l)):=by
  exact gShow' X hT l ad cap hin hl
theorem gDecode_no (s:List UInt8) (hs:s.length≤1099511627776) (h:decX s=none):PSpec Tryz.prog X 59 [Ls s] (.tup [Vnil,Sn .i64 4]):=by
  have hM:=gDecodeM X s hs
  obtain ⟨q1,q2⟩:=gd_none h
  rw [q1,q2] at hM
  exact hM.plain
theorem gDecode_ok (s:List UInt8) (hs:s.length≤1099511627776) {l:List Ins} (h:decX s=some l):MSpec Tryz.prog X 59 [Ls s] [] (.tup [.one (.slc 1000001 0 l.length 6),Sn .i64 0]) [(1000001,some ⟨66,(inssV l).map .val,true⟩)]:=by
  have hM:=gDecodeM X s hs
  obtain ⟨q1,q2⟩:=gd_some h
  rw [q1,q2] at hM
  exact hM
end Go.Proofs.YtamplgnbbanamaaGreatDoor
end
section
namespace Go.Proofs.YtamplgnbbanamaaGreatDoor
open Go Go.Lg Go.Lg.Fml Go.Lg.Fld Go.Lg.Arith
set_option maxRecDepth 100000
variable (X:Nat→Option Obj)
def sizeB (rs:List Rl):Prop := ∀ r∈rs,r.ex.length<9223372036854775808∧∀ c∈r.ex,c.length<9223372036854775808
def grtR (r:Rl):Bool:=decide (12<r.ex.length)||r.ex.any fun c=>decide (80<c.length)
def grtP (rs:List Rl):Bool:=decide (30<rs.length)||rs.any grtR
theorem grtP_false {rs:List Rl} (h:grtP rs=false):rs.length≤30∧∀ r∈rs,r.ex.length≤12∧∀ c∈r.ex,c.length≤80:=by
  unfold grtP at h
  rw [Bool.or_eq_false_iff,decide_eq_false_iff_not] at h
  refine ⟨by omega,fun r hr => ?_⟩
  have h1:grtR r=false:=by have:=List.any_eq_false.1 h.2 r hr;simpa using this
  unfold grtR at h1
  rw [Bool.or_eq_false_iff,decide_eq_false_iff_not] at h1
  refine ⟨by omega,fun c hc => ?_⟩
  have:=List.any_eq_false.1 h1.2 c hc
  simpa using this
set_option maxHeartbeats 3200000 in
theorem great12_spec (p:Pg) (ad:Option Addr) (cap:Nat) (hin:RulesIn X ad p.rs) (hbig:p.rs.length<9223372036854775808) (hsz:sizeB p.rs):
    PSpec Tryz.prog X 8 [LPg p.va p.vb ad p.rs.length cap] (Lb (grtP p.rs)):=by
  obtain ⟨va,vb,rs⟩:=p
  simp only at hin hbig hsz ⊢
  refine cF Tryz.func8 rfl (by kernel_rfl) rfl rfl ?_
  intro C
  unfold grtP
  by_cases h1:30<rs.length
  · rw [cP h1]
    (refine aA<|rgN<|aL O O O dR<|kas O<|aB<|aA<|aA<|rgN<|kfa O O ?_;refine kl1 O O O<|aQ O cC O dR ?_;refine aS O O (cP (by omega)) dR<|aB<|aE O ?_;refine aA<|rgN<|kas O<|aB<|aI ?_)
    exact ⟨[_],⟨O,trivial⟩,O⟩
  rw [cO h1,Bool.false_or]
  (refine aA<|rgN<|aL O O O dR<|kas O<|aB<|aA<|aA<|rgN<|kfa O O ?_;refine kl1 O O O<|aQ O cC O dR ?_;refine aS O O (cO (by omega)) dR<|aB<|aF O ?_;refine aH ?_;refine aA<|aA<|rgN<|kas O<|aB<|aG ?_)
  refine cL (fun m σ=>∃ i:Nat,i≤rs.length∧m=rs.length-i∧(rs.take i).any grtR=false∧σ=⟨[(1,Lp 1),(3,Ln .i64 (i:Nat))],[v3B 24 1 va vb ad rs.length cap],X⟩) rs.length
    ⟨_,Le.of (by exact ⟨rfl,rfl,trivial⟩) (by exact ⟨rfl,trivial⟩) (by exact rfl) (by exact rfl) (by repeat' (first|refine bT ?_ ?_|rfl|exact bV|exact bU|exact bW rfl)),0,by omega,by omega,rfl,rfl⟩ ?_
  rintro m σ ⟨i,hi,rfl,hany,rfl⟩
  by_cases hlt:i<rs.length
  case neg =>
    have e:i=rs.length:=by omega
    subst e
    rw [dF] at hany
    rw [hany]
    (refine aA<|aA<|rgN<|kmv O<|kfa O O ?_;refine kl1 O O O<|aQ O cC O dR ?_;refine klt O O (cO (by omega))<|aB<|aF O ?_;refine aJ<|aA<|rgN<|kas O<|aB<|aI ?_)
    exact ⟨[_],⟨O,trivial⟩,O⟩
  obtain ⟨r,hr⟩:∃ r,rs[i]? = some r:=⟨_,cX hlt⟩
  obtain ⟨blk,off,arr,el,fr,ead,ecap,rfl,hX,hsiz,hcs,g1,g2,g3,hE⟩:=hin.get hr
  have hio:off+Int.toNat (i:Int)*3=off+i*3:=by simp
  obtain ⟨hel,hcl⟩:=hsz r (dD hr)
  have hyes:grtR r=true→rs.any grtR=true:=fun h=>List.any_eq_true.2 ⟨r,dD hr,h⟩
  by_cases h12:12<r.ex.length
  · rw [hyes (by unfold grtR;rw [cP h12];rfl)]
    (refine aA<|aA<|rgN<|kmv O<|kfa O O ?_;refine kl1 O O O<|aQ O cC O dR ?_;refine klt O O (cP (by omega))<|aB<|aE O ?_;refine aH ?_;refine aA<|aG<|aA<|aA<|rgN<|kfa O O ?_;refine kl1 O O O<|kmv O<|aR O O cC (by omega) hio dR<|bH O O dR ?_;refine aW O hX O g3 dR<|aQ O cC O dR ?_;refine aS O O (cP (by omega)) dR<|aB<|aE O ?_;refine aA<|rgN<|kas O<|aB<|aI ?_)
    exact ⟨[_],⟨O,trivial⟩,O⟩
  (refine aA<|aA<|rgN<|kmv O<|kfa O O ?_;refine kl1 O O O<|aQ O cC O dR ?_;refine klt O O (cP (by omega))<|aB<|aE O ?_;refine aH ?_;refine aA<|aG<|aA<|aA<|rgN<|kfa O O ?_;refine kl1 O O O<|kmv O<|aR O O cC (by omega) hio dR<|bH O O dR ?_;refine aW O hX O g3 dR<|aQ O cC O dR ?_;refine aS O O (cO (by omega)) dR<|aB<|aF O ?_;refine aH ?_;refine aA<|rgN<|kas O<|aB<|aG ?_)
  refine cL (fun m σ=>∃ k:Nat,k≤r.ex.length∧m=r.ex.length-k∧(r.ex.take k).any (fun c=>decide (80<c.length))=false∧σ=⟨[(1,Lp 1),(3,Ln .i64 (i:Nat)),(4,Ln .i64 (k:Nat))],[v3B 24 1 va vb (some ⟨blk,off,none⟩) rs.length cap],X⟩) r.ex.length
    ⟨_,Le.of (by exact ⟨rfl,rfl,rfl,trivial⟩) (by exact ⟨rfl,trivial⟩) (by exact rfl) (by exact rfl) (by repeat' (first|refine bT ?_ ?_|rfl|exact bV|exact bU|exact bW rfl)),0,by omega,by omega,rfl,rfl⟩ ?_
  rintro m σ ⟨k,hk,rfl,hany2,rfl⟩
  by_cases hkl:k<r.ex.length
  case neg =>
    have e:k=r.ex.length:=by omega
    subst e
    rw [dF] at hany2
    have hno:grtR r=false:=by unfold grtR;rw [cO h12,hany2];rfl
    have hnx:(rs.take (i+1)).any grtR=false:=by rw [take_snoc hr,List.any_append,hany];simp [hno]
    have hadd:IntKind.i64.wrap ((i:Int)+1)=((i+1:Nat):Int):=by rw [cH (by omega)];omega
    (refine aA<|aA<|rgN<|kmv O<|kfa O O ?_;refine kl1 O O O<|kmv O<|aR O O cC (by omega) hio dR<|bH O O dR ?_;refine aW O hX O g3 dR<|aQ O cC O dR ?_;refine klt O O (cO (by omega))<|aB<|aF O ?_;refine aJ<|rgN<|kmv O<|kad O O hadd<|kas O<|aB ?_)
    exact ⟨_,⟨[(1,Lp 1),(3,Ln .i64 (i+1:Nat))],[v3B 24 1 va vb (some ⟨blk,off,none⟩) rs.length cap],X⟩,by omega,Le.of (by exact ⟨O,O,trivial⟩) (by exact ⟨O,trivial⟩) (by exact O) (by exact O) (by repeat' (first|refine bT ?_ ?_|rfl|exact bV|exact bU|exact bW O)),i+1,by omega,O,hnx,O⟩
  obtain ⟨c,hc⟩:∃ c,r.ex[k]? = some c:=⟨_,cX hkl⟩
  obtain ⟨eb,eo,earr,eel,efr,vad,vcap,rfl,hEX,hec,hI⟩:=hE.get hc
  have hio3:eo+Int.toNat (k:Int)*1=eo+k*1:=by simp
  by_cases h80:80<c.length
  · rw [hyes (by unfold grtR;rw [cO h12,Bool.false_or];exact List.any_eq_true.2 ⟨c,dD hc,cP h80⟩)]
    (refine aA<|aA<|rgN<|kmv O<|kfa O O ?_;refine kl1 O O O<|kmv O<|aR O O cC (by omega) hio dR<|bH O O dR ?_;refine aW O hX O g3 dR<|aQ O cC O dR ?_;refine klt O O (cP (by omega))<|aB<|aE O ?_;refine aH ?_;refine aA<|aG<|aA<|rgN<|kfa O O ?_;refine kl1 O O O<|kmv O<|aR O O cC (by omega) hio dR<|bH O O dR ?_;refine aW O hX O g3 dR<|kmv O<|aR O O cC (by omega) hio3 dR<|aW O hEX O hec dR<|aQ O cC O dR ?_;refine aS O O (cP (by omega)) dR<|aB<|aE O ?_;refine aA<|rgN<|kas O<|aB<|aI ?_)
    exact ⟨[_],⟨O,trivial⟩,O⟩
  have hnx:(r.ex.take (k+1)).any (fun c=>decide (80<c.length))=false:=by rw [take_snoc hc,List.any_append,hany2];simp;omega
  have hadd:IntKind.i64.wrap ((k:Int)+1)=((k+1:Nat):Int):=by rw [cH (by omega)];omega
  (refine aA<|aA<|rgN<|kmv O<|kfa O O ?_;refine kl1 O O O<|kmv O<|aR O O cC (by omega) hio dR<|bH O O dR ?_;refine aW O hX O g3 dR<|aQ O cC O dR ?_;refine klt O O (cP (by omega))<|aB<|aE O ?_;refine aH ?_;refine aA<|aG<|aA<|rgN<|kfa O O ?_;refine kl1 O O O<|kmv O<|aR O O cC (by omega) hio dR<|bH O O dR ?_;refine aW O hX O g3 dR<|kmv O<|aR O O cC (by omega) hio3 dR<|aW O hEX O hec dR<|aQ O cC O dR ?_;refine aS O O (cO (by omega)) dR<|aB<|aF O ?_;refine aH ?_;refine rgN<|kmv O<|kad O O hadd<|kas O<|aB ?_)
  exact ⟨_,⟨[(1,Lp 1),(3,Ln .i64 (i:Nat)),(4,Ln .i64 (k+1:Nat))],[v3B 24 1 va vb (some ⟨blk,off,none⟩) rs.length cap],X⟩,by omega,Le.of (by exact ⟨O,O,O,trivial⟩) (by exact ⟨O,trivial⟩) (by exact O) (by exact O) (by repeat' (first|refine bT ?_ ?_|rfl|exact bV|exact bU|exact bW O)),k+1,by omega,O,hnx,O⟩
theorem at_ne {α:Type} {l m:List α} {i:Nat} {x y:α} (hx:l[i]? = some x) (hy:m[i]? = some y) (h:x≠y):l≠m:=fun e=>by
  rw [e,hy] at hx
  exact h (Option.some.inj hx).symm
set_option maxHeartbeats 12800000 in
theorem same12_spec (p p2:Pg) (ad:Option Addr) (cap:Nat) (hin:RulesIn X ad p.rs) (hbig:p.rs.length<4611686018427387904) (hsz:sizeR p.rs) (bd:Option Addr) (cap2:Nat) (hin2:RulesIn X bd p2.rs) (hbig2:p2.rs.length<4611686018427387904) (hsz2:sizeR p2.rs):
    PSpec Tryz.prog X 16 [LPg p.va p.vb ad p.rs.length cap,LPg p2.va p2.vb bd p2.rs.length cap2] (Lb (decide (p=p2))):=by
  obtain ⟨va,vb,rs⟩:=p
  obtain ⟨va2,vb2,qs⟩:=p2
  simp only at hin hbig hsz hin2 hbig2 hsz2 ⊢
  refine cF Tryz.func16 rfl (by kernel_rfl) rfl rfl ?_
  intro C
  by_cases d1:va=va2
  case neg =>
    rw [cO (fun e=>d1 (congrArg Pg.va e))]
    (refine aA<|rgN<|aL O O O dR<|aL O O O dR<|kas O<|aB<|aA<|aA<|rgN<|kfa O O ?_;refine kl1 O O O<|kfa O O ?_;refine kl1 O O O<|kne O O (cT (by omega))<|kmv O<|aC O O O<|aC O O O<|aC O O O<|aC O O O<|aC O O O<|kpt O O<|kmv O<|aC O O O<|aC O O O<|aC O O O<|aC O O O ?_;refine aC O O O<|aC O O O<|aC O O O<|kpt O O<|aB<|aE O ?_;refine aA<|rgN<|kas O<|aB<|aI ?_)
    exact ⟨[_],⟨O,trivial⟩,O⟩
  by_cases d2:vb=vb2
  case neg =>
    rw [cO (fun e=>d2 (congrArg Pg.vb e))]
    (refine aA<|rgN<|aL O O O dR<|aL O O O dR<|kas O<|aB<|aA<|aA<|rgN<|kfa O O ?_;refine kl1 O O O<|kfa O O ?_;refine kl1 O O O<|kne O O (cS (by omega))<|kmv O<|aN O O (dS O O) ?_;refine aO O O O (dS O O) ?_;refine aN O O (dS O O) ?_;refine aO O O O (dS O O) ?_;refine aX O O (cT (by omega)) (dS O O) ?_;refine kpf O O<|kmv O<|aC O O O<|aC O O O<|aC O O O<|aC O O O<|aC O O O<|aC O O O<|aC O O O<|kpt O O<|aB<|aE O ?_;refine aA<|rgN<|kas O<|aB<|aI ?_)
    exact ⟨[_],⟨O,trivial⟩,O⟩
  by_cases d3:rs.length=qs.length
  case neg =>
    rw [cO (fun e=>d3 (congrArg (fun p:Pg=>p.rs.length) e))]
    (refine aA<|rgN<|aL O O O dR<|aL O O O dR<|kas O<|aB<|aA<|aA<|rgN<|kfa O O ?_;refine kl1 O O O<|kfa O O ?_;refine kl1 O O O<|kne O O (cS (by omega))<|kmv O<|aN O O (dS O O) ?_;refine aO O O O (dS O O) ?_;refine aN O O (dS O O) ?_;refine aO O O O (dS O O) ?_;refine aX O O (cS (by omega)) (dS O O) ?_;refine kpf O O<|kmv O<|aN O O (dS O O) ?_;refine aO O O O (dS O O) ?_;refine aQ O cC O (dS O O) ?_;refine aN O O (dS O O) ?_;refine aO O O O (dS O O) ?_;refine aQ O cC O (dS O O) ?_;refine aX O O (cT (by omega)) (dS O O) ?_;refine kpf O O<|aB<|aE O ?_;refine aA<|rgN<|kas O<|aB<|aI ?_)
    exact ⟨[_],⟨O,trivial⟩,O⟩
  have hno:rs≠qs→decide ((⟨va,vb,rs⟩:Pg)=⟨va2,vb2,qs⟩)=false:=fun h=>cO (fun e=>h (congrArg Pg.rs e))
  have hyes:rs=qs→decide ((⟨va,vb,rs⟩:Pg)=⟨va2,vb2,qs⟩)=true:=fun h=>cP (by rw [d1,d2,h])
  (refine aA<|rgN<|aL O O O dR<|aL O O O dR<|kas O<|aB<|aA<|aA<|rgN<|kfa O O ?_;refine kl1 O O O<|kfa O O ?_;refine kl1 O O O<|kne O O (cS (by omega))<|kmv O<|aN O O (dS O O) ?_;refine aO O O O (dS O O) ?_;refine aN O O (dS O O) ?_;refine aO O O O (dS O O) ?_;refine aX O O (cS (by omega)) (dS O O) ?_;refine kpf O O<|kmv O<|aN O O (dS O O) ?_;refine aO O O O (dS O O) ?_;refine aQ O cC O (dS O O) ?_;refine aN O O (dS O O) ?_;refine aO O O O (dS O O) ?_;refine aQ O cC O (dS O O) ?_;refine aX O O (cS (by omega)) (dS O O) ?_;refine kpf O O<|aB<|aF O ?_;refine aH ?_;refine aA<|aA<|rgN<|kas O<|aB<|aG ?_)
  refine cL (fun m σ=>∃ i:Nat,i≤rs.length∧m=rs.length-i∧rs.take i=qs.take i∧σ=⟨[(2,Lp 2),(3,Lp 3),(5,Ln .i64 (i:Nat))],[v3B 29 2 va vb ad rs.length cap,v3B 29 3 va2 vb2 bd qs.length cap2],X⟩) rs.length
    ⟨_,Le.of (by exact ⟨rfl,rfl,rfl,trivial⟩) (by exact ⟨rfl,rfl,trivial⟩) (by exact rfl) (by exact rfl) (by repeat' (first|refine bT ?_ ?_|rfl|exact bV|exact bU|exact bW rfl)),0,by omega,by omega,rfl,rfl⟩ ?_
  rintro m σ ⟨i,hi,rfl,heq,rfl⟩
  by_cases hlt:i<rs.length
  case neg =>
    have e:i=rs.length:=by omega
    rw [e,dF,d3,dF] at heq
    rw [hyes heq]
    (refine aA<|aA<|rgN<|kmv O<|kfa O O ?_;refine kl1 O O O<|aQ O cC O dR ?_;refine klt O O (cO (by omega))<|aB<|aF O ?_;refine aJ<|aA<|rgN<|kas O<|aB<|aI ?_)
    exact ⟨[_],⟨O,trivial⟩,O⟩
  obtain ⟨r,hr⟩:∃ r,rs[i]? = some r:=⟨_,cX hlt⟩
  obtain ⟨q,hq⟩:∃ q,qs[i]? = some q:=⟨_,cX (by omega)⟩
  obtain ⟨blk,off,arr,el,fr,ead,ecap,rfl,hX,hsiz,hcs,g1,g2,g3,hE⟩:=hin.get hr
  obtain ⟨qblk,qoff,qarr,qel,qfr,qead,qcap,rfl,hqX,hqsiz,hqcs,_,_,_,hF⟩:=hin2.get hq
  have hio:off+Int.toNat (i:Int)*3=off+i*3:=by simp
  have hqio:qoff+Int.toNat (i:Int)*3=qoff+i*3:=by simp
  obtain ⟨hel,hcl⟩:=hsz r (dD hr)
  obtain ⟨hql,hdl⟩:=hsz2 q (dD hq)
  have hno2:=fun h:r≠q=>hno (at_ne hr hq h)
  (refine aA<|aA<|rgN<|kmv O<|kfa O O ?_;refine kl1 O O O<|aQ O cC O dR ?_;refine klt O O (cP (by omega))<|aB<|aE O ?_;refine aH ?_;refine aA<|aG<|aA<|rgN<|kfa O O ?_;refine kl1 O O O<|kmv O<|aR O O cC (by omega) hio dR<|aY O hX (by kernel_rfl) hsiz hcs dR<|aP O dR ?_;refine aM O O O O O O dR ?_;refine aB<|aA<|rgN<|kfa O O ?_;refine kl1 O O O<|kmv O<|aR O O cC (by omega) hqio dR<|aY O hqX (by kernel_rfl) hqsiz hqcs dR<|aP O dR ?_;refine aM O O O O O O dR ?_;refine aB<|aA<|aA ?_)
  refine LWP.le (σ':=⟨[(2,Lp 2),(3,Lp 3),(5,Ln .i64 (i:Nat)),(6,Lp 6),(7,Lp 7)],[v3B 51 7 q.nw q.old qead q.ex.length qcap,v3B 51 6 r.nw r.old ead r.ex.length ecap,v3B 29 2 va vb (some ⟨blk,off,none⟩) rs.length cap,v3B 29 3 va2 vb2 (some ⟨qblk,qoff,none⟩) qs.length cap2],X⟩) (Le.of (by exact ⟨O,O,O,O,O,trivial⟩) (by exact ⟨O,O,O,O,trivial⟩) (by exact O) (by exact O) (by repeat' (first|refine bT ?_ ?_|rfl|exact bV|exact bU|exact bW O))) ?_
  by_cases f1:r.nw=q.nw
  case neg =>
    rw [hno2 (fun e=>f1 (congrArg Rl.nw e))]
    (refine rgN<|kfa O O ?_;refine kl1 O O O<|kfa O O ?_;refine kl1 O O O<|kne O O (cT (by omega))<|kmv O<|aC O O O<|aC O O O<|aC O O O<|aC O O O<|aC O O O<|kpt O O<|kmv O<|aC O O O<|aC O O O<|aC O O O<|aC O O O ?_;refine aC O O O<|aC O O O<|aC O O O<|kpt O O<|aB<|aE O ?_;refine aA<|rgN<|kas O<|aB<|aI ?_)
    exact ⟨[_],⟨O,trivial⟩,O⟩
  by_cases f2:r.old=q.old
  case neg =>
    rw [hno2 (fun e=>f2 (congrArg Rl.old e))]
    (refine rgN<|kfa O O ?_;refine kl1 O O O<|kfa O O ?_;refine kl1 O O O<|kne O O (cS (by omega))<|kmv O<|aN O O (dS O O) ?_;refine aO O O O (dS O O) ?_;refine aN O O (dS O O) ?_;refine aO O O O (dS O O) ?_;refine aX O O (cT (by omega)) (dS O O) ?_;refine kpf O O<|kmv O<|aC O O O<|aC O O O<|aC O O O<|aC O O O<|aC O O O<|aC O O O<|aC O O O<|kpt O O<|aB<|aE O ?_;refine aA<|rgN<|kas O<|aB<|aI ?_)
    exact ⟨[_],⟨O,trivial⟩,O⟩
  by_cases f3:r.ex.length=q.ex.length
  case neg =>
    rw [hno2 (fun e=>f3 (congrArg (fun p:Rl=>p.ex.length) e))]
    (refine rgN<|kfa O O ?_;refine kl1 O O O<|kfa O O ?_;refine kl1 O O O<|kne O O (cS (by omega))<|kmv O<|aN O O (dS O O) ?_;refine aO O O O (dS O O) ?_;refine aN O O (dS O O) ?_;refine aO O O O (dS O O) ?_;refine aX O O (cS (by omega)) (dS O O) ?_;refine kpf O O<|kmv O<|aN O O (dS O O) ?_;refine aO O O O (dS O O) ?_;refine aQ O cC O (dS O O) ?_;refine aN O O (dS O O) ?_;refine aO O O O (dS O O) ?_;refine aQ O cC O (dS O O) ?_;refine aX O O (cT (by omega)) (dS O O) ?_;refine kpf O O<|aB<|aE O ?_;refine aA<|rgN<|kas O<|aB<|aI ?_)
    exact ⟨[_],⟨O,trivial⟩,O⟩
  have hno3:=fun h:r.ex≠q.ex=>hno2 (fun e=>h (congrArg Rl.ex e))
  (refine rgN<|kfa O O ?_;refine kl1 O O O<|kfa O O ?_;refine kl1 O O O<|kne O O (cS (by omega))<|kmv O<|aN O O (dS O O) ?_;refine aO O O O (dS O O) ?_;refine aN O O (dS O O) ?_;refine aO O O O (dS O O) ?_;refine aX O O (cS (by omega)) (dS O O) ?_;refine kpf O O<|kmv O<|aN O O (dS O O) ?_;refine aO O O O (dS O O) ?_;refine aQ O cC O (dS O O) ?_;refine aN O O (dS O O) ?_;refine aO O O O (dS O O) ?_;refine aQ O cC O (dS O O) ?_;refine aX O O (cS (by omega)) (dS O O) ?_;refine kpf O O<|aB<|aF O ?_;refine aH ?_;refine aA<|rgN<|kas O<|aB<|aG ?_)
  refine cL (fun m σ=>∃ k:Nat,k≤r.ex.length∧m=r.ex.length-k∧r.ex.take k=q.ex.take k∧σ=⟨[(2,Lp 2),(3,Lp 3),(5,Ln .i64 (i:Nat)),(6,Lp 6),(7,Lp 7),(8,Ln .i64 (k:Nat))],[v3B 51 7 q.nw q.old qead q.ex.length qcap,v3B 51 6 r.nw r.old ead r.ex.length ecap,v3B 29 2 va vb (some ⟨blk,off,none⟩) rs.length cap,v3B 29 3 va2 vb2 (some ⟨qblk,qoff,none⟩) qs.length cap2],X⟩) r.ex.length
    ⟨_,Le.of (by exact ⟨rfl,rfl,rfl,rfl,rfl,rfl,trivial⟩) (by exact ⟨rfl,rfl,rfl,rfl,trivial⟩) (by exact rfl) (by exact rfl) (by repeat' (first|refine bT ?_ ?_|rfl|exact bV|exact bU|exact bW rfl)),0,by omega,by omega,rfl,rfl⟩ ?_
  rintro m σ ⟨k,hk,rfl,hek,rfl⟩
  by_cases hkl:k<r.ex.length
  case neg =>
    have e:k=r.ex.length:=by omega
    rw [e,dF,f3,dF] at hek
    have hrq:r=q:=by
      obtain ⟨n1,o1,x1⟩:=r
      obtain ⟨n2,o2,x2⟩:=q
      simp only at f1 f2 hek
      rw [f1,f2,hek]
    have hnx:rs.take (i+1)=qs.take (i+1):=by rw [take_snoc hr,take_snoc hq,heq,hrq]
    have hadd:IntKind.i64.wrap ((i:Int)+1)=((i+1:Nat):Int):=by rw [cH (by omega)];omega
    (refine aA<|aA<|rgN<|kmv O<|kfa O O ?_;refine kl1 O O O<|aQ O cC O dR ?_;refine klt O O (cO (by omega))<|aB<|aF O ?_;refine aJ<|rgN<|kmv O<|kad O O hadd<|kas O<|aB ?_)
    exact ⟨_,⟨[(2,Lp 2),(3,Lp 3),(5,Ln .i64 (i+1:Nat))],[v3B 29 2 va vb (some ⟨blk,off,none⟩) rs.length cap,v3B 29 3 va2 vb2 (some ⟨qblk,qoff,none⟩) qs.length cap2],X⟩,by omega,Le.of (by exact ⟨O,O,O,trivial⟩) (by exact ⟨O,O,trivial⟩) (by exact O) (by exact O) (by repeat' (first|refine bT ?_ ?_|rfl|exact bV|exact bU|exact bW O)),i+1,by omega,O,hnx,O⟩
  obtain ⟨c,hc⟩:∃ c,r.ex[k]? = some c:=⟨_,cX hkl⟩
  obtain ⟨d,hd⟩:∃ d,q.ex[k]? = some d:=⟨_,cX (by omega)⟩
  obtain ⟨eb,eo,earr,eel,efr,vad,vcap,rfl,hEX,hec,hI⟩:=hE.get hc
  obtain ⟨fb,fo,farr,fel,ffr,wad,wcap,rfl,hFX,hfc,hJ⟩:=hF.get hd
  have hio3:eo+Int.toNat (k:Int)*1=eo+k*1:=by simp
  have hfio:fo+Int.toNat (k:Int)*1=fo+k*1:=by simp
  have hcb:=hcl c (dD hc)
  have hno4:=fun h:c≠d=>hno3 (at_ne hc hd h)
  by_cases f4:c.length=d.length
  case neg =>
    rw [hno4 (fun e=>f4 (congrArg List.length e))]
    (refine aA<|aA<|rgN<|kmv O<|kfa O O ?_;refine kl1 O O O<|aQ O cC O dR ?_;refine klt O O (cP (by omega))<|aB<|aE O ?_;refine aH ?_;refine aA<|aG<|aA<|aA<|rgD mixed<|kfa O O ?_;refine kl1 O O O<|kmv O<|aR O O cC (by omega) hio3 dR<|aW O hEX O hec dR<|aQ O cC O dR ?_;refine kfa O O ?_;refine kl1 O O O<|kmv O<|aR O O cC (by omega) hfio dR<|aW O hFX O hfc dR<|aQ O cC O dR ?_;refine kne O O (cT (by omega))<|aB<|rgA ?_;refine aE O ?_;refine aA<|rgN<|kas O<|aB<|aI ?_)
    exact ⟨[_],⟨O,trivial⟩,O⟩
  (refine aA<|aA<|rgN<|kmv O<|kfa O O ?_;refine kl1 O O O<|aQ O cC O dR ?_;refine klt O O (cP (by omega))<|aB<|aE O ?_;refine aH ?_;refine aA<|aG<|aA<|aA<|rgD mixed<|kfa O O ?_;refine kl1 O O O<|kmv O<|aR O O cC (by omega) hio3 dR<|aW O hEX O hec dR<|aQ O cC O dR ?_;refine kfa O O ?_;refine kl1 O O O<|kmv O<|aR O O cC (by omega) hfio dR<|aW O hFX O hfc dR<|aQ O cC O dR ?_;refine kne O O (cS (by omega))<|aB<|rgA ?_;refine aF O ?_;refine aH ?_;refine aA<|rgN<|kas O<|aB<|aG ?_)
  refine cL (fun m σ=>∃ n:Nat,n≤c.length∧m=c.length-n∧c.take n=d.take n∧σ=⟨[(2,Lp 2),(3,Lp 3),(5,Ln .i64 (i:Nat)),(6,Lp 6),(7,Lp 7),(8,Ln .i64 (k:Nat)),(9,Ln .i64 (n:Nat))],[v3B 51 7 q.nw q.old (some ⟨fb,fo,none⟩) q.ex.length qcap,v3B 51 6 r.nw r.old (some ⟨eb,eo,none⟩) r.ex.length ecap,v3B 29 2 va vb (some ⟨blk,off,none⟩) rs.length cap,v3B 29 3 va2 vb2 (some ⟨qblk,qoff,none⟩) qs.length cap2],X⟩) c.length
    ⟨_,Le.of (by exact ⟨rfl,rfl,rfl,rfl,rfl,rfl,rfl,trivial⟩) (by exact ⟨rfl,rfl,rfl,rfl,trivial⟩) (by exact rfl) (by exact rfl) (by repeat' (first|refine bT ?_ ?_|rfl|exact bV|exact bU|exact bW rfl)),0,by omega,by omega,rfl,rfl⟩ ?_
  rintro m σ ⟨n,hn,rfl,hen,rfl⟩
  by_cases hnl:n<c.length
  case neg =>
    have e:n=c.length:=by omega
    rw [e,dF,f4,dF] at hen
    have hnx:r.ex.take (k+1)=q.ex.take (k+1):=by rw [take_snoc hc,take_snoc hd,hek,hen]
    have hadd:IntKind.i64.wrap ((k:Int)+1)=((k+1:Nat):Int):=by rw [cH (by omega)];omega
    (refine aA<|aA<|rgN<|kmv O<|kfa O O ?_;refine kl1 O O O<|kmv O<|aR O O cC (by omega) hio3 dR<|aW O hEX O hec dR<|aQ O cC O dR ?_;refine klt O O (cO (by omega))<|aB<|aF O ?_;refine aJ<|rgN<|kmv O<|kad O O hadd<|kas O<|aB ?_)
    exact ⟨_,⟨[(2,Lp 2),(3,Lp 3),(5,Ln .i64 (i:Nat)),(6,Lp 6),(7,Lp 7),(8,Ln .i64 (k+1:Nat))],[v3B 51 7 q.nw q.old (some ⟨fb,fo,none⟩) q.ex.length qcap,v3B 51 6 r.nw r.old (some ⟨eb,eo,none⟩) r.ex.length ecap,v3B 29 2 va vb (some ⟨blk,off,none⟩) rs.length cap,v3B 29 3 va2 vb2 (some ⟨qblk,qoff,none⟩) qs.length cap2],X⟩,by omega,Le.of (by exact ⟨O,O,O,O,O,O,trivial⟩) (by exact ⟨O,O,O,O,trivial⟩) (by exact O) (by exact O) (by repeat' (first|refine bT ?_ ?_|rfl|exact bV|exact bU|exact bW O)),k+1,by omega,O,hnx,O⟩
  obtain ⟨x,hx⟩:∃ x,c[n]? = some x:=⟨_,cX hnl⟩
  obtain ⟨y,hy⟩:∃ y,d[n]? = some y:=⟨_,cX (by omega)⟩
  obtain ⟨xb,xo,xarr,xel,xfr,rfl,hxX,hxz,hxc,_⟩:=hI.at hx
  obtain ⟨yb,yo,yarr,yel,yfr,rfl,hyX,hyz,hyc,_⟩:=hJ.at hy
  have hxo:xo+Int.toNat (n:Int)*6=xo+n*6:=by simp
  have hyo:yo+Int.toNat (n:Int)*6=yo+n*6:=by simp
  have qe:=insEq (x:=x) (y:=y) (hI.small x (dD hx)).2.2.2 (hJ.small y (dD hy)).2.2.2
  by_cases f5:x=y
  case neg =>
    rw [hno4 (at_ne hx hy f5)]
    rw [cO f5] at qe
    have qx:=eqT_retrofitref11 (o:=x.op) (o':=y.op) (a:=x.a) (a':=y.a) (b:=x.b) (b':=y.b) (s:=x.k.1) (s':=y.k.1) (h:=x.k.2/18446744073709551616) (h':=y.k.2/18446744073709551616) (l:=x.k.2%18446744073709551616) (l':=y.k.2%18446744073709551616) false qe
    (refine aA<|aA<|rgN<|kmv O<|kfa O O ?_;refine kl1 O O O<|kmv O<|aR O O cC (by omega) hio3 dR<|aW O hEX O hec dR<|aQ O cC O dR ?_;refine klt O O (cP (by omega))<|aB<|aE O ?_;refine aH ?_;refine aA<|aG<|aA<|rgD mixed<|kfa O O ?_;refine kl1 O O O<|kmv O<|aR O O cC (by omega) hio3 dR<|aW O hEX O hec dR<|kmv O<|aR O O cC (by omega) hxo dR<|aY O hxX (by kernel_rfl) hxz hxc dR<|kfa O O ?_;refine kl1 O O O<|kmv O<|aR O O cC (by omega) hfio dR<|aW O hFX O hfc dR<|kmv O<|aR O O cC (by omega) hyo dR<|aY O hyX (by kernel_rfl) hyz hyc dR<|bR (c:=true) O O O O (by kernel_rfl) qx (.inr ⟨O,O⟩) dR<|aB<|rgA ?_;refine aE O ?_;refine aA<|rgN<|kas O<|aB<|aI ?_)
    exact ⟨[_],⟨O,trivial⟩,O⟩
  rw [cP f5] at qe
  have qx:=eqT_retrofitref11 (o:=x.op) (o':=y.op) (a:=x.a) (a':=y.a) (b:=x.b) (b':=y.b) (s:=x.k.1) (s':=y.k.1) (h:=x.k.2/18446744073709551616) (h':=y.k.2/18446744073709551616) (l:=x.k.2%18446744073709551616) (l':=y.k.2%18446744073709551616) true qe
  have hnx:c.take (n+1)=d.take (n+1):=by rw [take_snoc hx,take_snoc hy,hen,f5]
  have hadd:IntKind.i64.wrap ((n:Int)+1)=((n+1:Nat):Int):=by rw [cH (by omega)];omega
  (refine aA<|aA<|rgN<|kmv O<|kfa O O ?_;refine kl1 O O O<|kmv O<|aR O O cC (by omega) hio3 dR<|aW O hEX O hec dR<|aQ O cC O dR ?_;refine klt O O (cP (by omega))<|aB<|aE O ?_;refine aH ?_;refine aA<|aG<|aA<|rgD mixed<|kfa O O ?_;refine kl1 O O O<|kmv O<|aR O O cC (by omega) hio3 dR<|aW O hEX O hec dR<|kmv O<|aR O O cC (by omega) hxo dR<|aY O hxX (by kernel_rfl) hxz hxc dR<|kfa O O ?_;refine kl1 O O O<|kmv O<|aR O O cC (by omega) hfio dR<|aW O hFX O hfc dR<|kmv O<|aR O O cC (by omega) hyo dR<|aY O hyX (by kernel_rfl) hyz hyc dR<|bR (c:=false) O O O O (by kernel_rfl) qx (.inr ⟨O,O⟩) dR<|aB<|rgA ?_;refine aF O ?_;refine aH ?_;refine rgN<|kmv O<|kad O O hadd<|kas O<|aB ?_)
  exact ⟨_,⟨[(2,Lp 2),(3,Lp 3),(5,Ln .i64 (i:Nat)),(6,Lp 6),(7,Lp 7),(8,Ln .i64 (k:Nat)),(9,Ln .i64 (n+1:Nat))],[v3B 51 7 q.nw q.old (some ⟨fb,fo,none⟩) q.ex.length qcap,v3B 51 6 r.nw r.old (some ⟨eb,eo,none⟩) r.ex.length ecap,v3B 29 2 va vb (some ⟨blk,off,none⟩) rs.length cap,v3B 29 3 va2 vb2 (some ⟨qblk,qoff,none⟩) qs.length cap2],X⟩,by omega,Le.of (by exact ⟨O,O,O,O,O,O,O,trivial⟩) (by exact ⟨O,O,O,O,trivial⟩) (by exact O) (by exact O) (by repeat' (first|refine bT ?_ ?_|rfl|exact bV|exact bU|exact bW O)),n+1,by omega,O,hnx,O⟩
end Go.Proofs.YtamplgnbbanamaaGreatDoor
end
section
namespace Go.Proofs.YtamplgnbbanamaaGreatDoor
open Go Go.Lg Go.Lg.Fml Go.Lg.Fld Go.RowKit Go.ChangeShapes Go.WideShapes Go.Joins
set_option maxRecDepth 100000
section
variable {H:Type} {enc:TypeId×Value→H} {w:World}
theorem open_inss_l {fuel:Nat} {lv:List Value} {xx:DataW H×List MemPlace} (h:DataW.trod enc Tryz.prog w 0 (fun _=>true) true fuel 68 lv=some xx):
    ∃ (ad:Option Addr) (cap:Nat) (l:List Ins),lv=[.slice ad l.length cap]∧l.length<9223372036854775808∧InsIn (fun b=>w.heap[b]?) ad l:=by
  obtain ⟨ad,cap,rows,rfl,h1,h2,h3,h4⟩:=open_rows_l (e:=66) (sz:=6) (by kernel_rfl) (by kernel_rfl) (by decide) h
  obtain ⟨l,rfl,h5⟩:=map_of (f:=insV) (q:=smallI) (vs:=rows) (fun u hu=>by
    obtain ⟨hlen,n,x,hx⟩:=h4 u hu
    obtain ⟨y0,y1,y2,y3,n',_,_,g0,g1,g2,g3⟩:=trod_struct4 (t:=66) Tryz.underlying66 hx
    obtain ⟨c0,c1,c2,c3,c4,c5,rfl⟩:∃ c0 c1 c2 c3 c4 c5,u=[c0,c1,c2,c3,c4,c5]:=by
      match u,hlen with
      | [c0,c1,c2,c3,c4,c5],_=>exact ⟨c0,c1,c2,c3,c4,c5,rfl⟩
    obtain ⟨k0,e0,_,wa0⟩:=DataW.trod_int (k:=.i64) (by kernel_rfl) g0
    obtain ⟨k1,e1,_,wa1⟩:=DataW.trod_int (k:=.i64) (by kernel_rfl) g1
    obtain ⟨k2,e2,_,wa2⟩:=DataW.trod_int (k:=.i64) (by kernel_rfl) g2
    obtain ⟨z0,z1,z2,m',_,_,j0,j1,j2⟩:=Deep.trod_struct3 (t:=64) Tryz.underlying64 g3
    obtain ⟨b,e3,_⟩:=DataW.trod_bool (by kernel_rfl) j0
    obtain ⟨x,e4,_,wa4⟩:=DataW.trod_int (k:=.u64) (by kernel_rfl) j1
    obtain ⟨y,e5,_,wa5⟩:=DataW.trod_int (k:=.u64) (by kernel_rfl) j2
    have q0:c0 = .int .i64 k0:=by simpa using (show ([c0,c1,c2,c3,c4,c5].drop 0).take 1=[.int .i64 k0] from e0)
    have q1:c1 = .int .i64 k1:=by simpa using (show ([c0,c1,c2,c3,c4,c5].drop 1).take 1=[.int .i64 k1] from e1)
    have q2:c2 = .int .i64 k2:=by simpa using (show ([c0,c1,c2,c3,c4,c5].drop 2).take 1=[.int .i64 k2] from e2)
    have q3:c3 = .bool b:=by simpa using (show ((([c0,c1,c2,c3,c4,c5].drop 3).take 3).drop 0).take 1=[.bool b] from e3)
    have q4:c4 = .int .u64 x:=by simpa using (show ((([c0,c1,c2,c3,c4,c5].drop 3).take 3).drop 1).take 1=[.int .u64 x] from e4)
    have q5:c5 = .int .u64 y:=by simpa using (show ((([c0,c1,c2,c3,c4,c5].drop 3).take 3).drop 2).take 1=[.int .u64 y] from e5)
    subst q0 q1 q2 q3 q4 q5
    have b0:=bounds_i64 wa0
    have b1:=bounds_i64 wa1
    have b2:=bounds_i64 wa2
    have b4:=bounds_u64 wa4
    have b5:=bounds_u64 wa5
    refine ⟨⟨k0,k1,k2,(b,x*18446744073709551616+y)⟩,?_,by show -9223372036854775808≤k0∧k0<9223372036854775808;omega,by show -9223372036854775808≤k1∧k1<9223372036854775808;omega,by show -9223372036854775808≤k2∧k2<9223372036854775808;omega,by show 0≤x*18446744073709551616+y;omega,by show x*18446744073709551616+y<_;omega⟩
    unfold insV
    show _=[Value.int .i64 k0,.int .i64 k1,.int .i64 k2,.bool b,.int .u64 ((x*18446744073709551616+y)/18446744073709551616),.int .u64 ((x*18446744073709551616+y)%18446744073709551616)]
    rw [show (x*18446744073709551616+y)/18446744073709551616=x by omega,show (x*18446744073709551616+y)%18446744073709551616=y by omega])
  exact ⟨ad,cap,l,by rw [cW],by rw [cW] at h1;unfold maxLen at h2;omega,⟨h3,h5⟩⟩
theorem open_codes_l {fuel:Nat} {lv:List Value} {xx:DataW H×List MemPlace} (h:DataW.trod enc Tryz.prog w 0 (fun _=>true) true fuel 44 lv=some xx):
    ∃ (ad:Option Addr) (cap:Nat) (cs:List (List Ins)),lv=[.slice ad cs.length cap]∧cs.length<9223372036854775808∧CodesIn (fun b=>w.heap[b]?) ad cs∧∀ c∈cs,c.length<9223372036854775808:=by
  obtain ⟨ad,cap,rows,rfl,h1,h2,h3,h4⟩:=open_rows_l (e:=68) (sz:=1) (by kernel_rfl) (by kernel_rfl) (by decide) h
  obtain ⟨ts,rfl,h5⟩:=map_of (f:=fun t:List Ins×Option Addr×Nat=>[Value.slice t.2.1 t.1.length t.2.2]) (q:=fun t=>InsIn (fun b=>w.heap[b]?) t.2.1 t.1∧t.1.length<9223372036854775808) (vs:=rows) (fun u hu=>by
    obtain ⟨hlen,n,x,hx⟩:=h4 u hu
    obtain ⟨vad,vcap,ns,e1,k1,hF⟩:=open_inss_l hx
    exact ⟨(ns,vad,vcap),e1,hF,k1⟩)
  refine ⟨ad,cap,ts.map (·.1),by rw [cW,cW],by rw [cW] at h1 ⊢;unfold maxLen at h2;omega,⟨fun i r hr => ?_⟩,fun r hr => ?_⟩
  · rw [dL] at hr
    cases ht:ts[i]? with
    | none=>rw [ht] at hr;cases hr
    | some t =>
      rw [ht] at hr
      simp only [Option.map_some,Option.some.injEq] at hr
      subst hr
      obtain ⟨blk,off,arr,el,fr,g1,g2,g3,g4⟩:=h3 i _ (by rw [dL,ht];rfl)
      have g5:arr[off+i]? = some (.slice t.2.1 t.1.length t.2.2):=by
        have:=congrArg (fun l:List Value=>l[0]?) g4
        simpa [List.getElem?_take,List.getElem?_drop] using this
      exact ⟨blk,off,arr,el,fr,t.2.1,t.2.2,g1,g2,g3,g5,(h5 t (dD ht)).1⟩
  · obtain ⟨t,ht,rfl⟩:=List.mem_map.1 hr
    exact (h5 t ht).2
theorem open_rules_l {fuel:Nat} {lv:List Value} {xx:DataW H×List MemPlace} (h:DataW.trod enc Tryz.prog w 0 (fun _=>true) true fuel 22 lv=some xx):
    ∃ (ad:Option Addr) (cap:Nat) (rs:List Rl),lv=[.slice ad rs.length cap]∧rs.length<9223372036854775808∧RulesIn (fun b=>w.heap[b]?) ad rs∧sizeB rs:=by
  obtain ⟨ad,cap,rows,rfl,h1,h2,h3,h4⟩:=open_rows_l (e:=46) (sz:=3) (by kernel_rfl) (by kernel_rfl) (by decide) h
  obtain ⟨ts,rfl,h5⟩:=map_of (f:=fun t:Rl×Option Addr×Nat=>[.int .i64 t.1.nw,.int .i64 t.1.old,.slice t.2.1 t.1.ex.length t.2.2]) (q:=fun t=>(CodesIn (fun b=>w.heap[b]?) t.2.1 t.1.ex∧smallR t.1)∧t.1.ex.length<9223372036854775808∧∀ c∈t.1.ex,c.length<9223372036854775808) (vs:=rows) (fun u hu=>by
    obtain ⟨hlen,n,x,hx⟩:=h4 u hu
    obtain ⟨y0,y1,y2,n',_,_,g0,g1,g2⟩:=Deep.trod_struct3 (t:=46) Tryz.underlying46 hx
    obtain ⟨e0',e1',e2',rfl⟩:∃ c0 c1 c2,u=[c0,c1,c2]:=by
      match u,hlen with
      | [c0,c1,c2],_=>exact ⟨c0,c1,c2,rfl⟩
    obtain ⟨k,e0,_,wa0⟩:=DataW.trod_int (k:=.i64) (by kernel_rfl) g0
    obtain ⟨o,e1,_,wa1⟩:=DataW.trod_int (k:=.i64) (by kernel_rfl) g1
    obtain ⟨ead,ecap,cs,e2,hl,hF,hFl⟩:=open_codes_l g2
    have q0:e0' = .int .i64 k:=by simpa using (show ([e0',e1',e2'].drop 0).take 1=[.int .i64 k] from e0)
    have q1:e1' = .int .i64 o:=by simpa using (show ([e0',e1',e2'].drop 1).take 1=[.int .i64 o] from e1)
    have q2:e2' = .slice ead cs.length ecap:=by simpa using (show ([e0',e1',e2'].drop 2).take 1=[.slice ead cs.length ecap] from e2)
    subst q0 q1 q2
    have b0:=bounds_i64 wa0
    have b1:=bounds_i64 wa1
    exact ⟨(⟨k,o,cs⟩,ead,ecap),O,⟨hF,(show -9223372036854775808≤k∧k<9223372036854775808 by omega),(show -9223372036854775808≤o∧o<9223372036854775808 by omega)⟩,hl,hFl⟩)
  refine ⟨ad,cap,ts.map (·.1),by rw [cW,cW],by rw [cW] at h1 ⊢;unfold maxLen at h2;omega,⟨fun i c hc => ?_,fun c hc => ?_⟩,fun c hc => ?_⟩
  · rw [dL] at hc
    cases ht:ts[i]? with
    | none=>rw [ht] at hc;cases hc
    | some t =>
      rw [ht] at hc
      simp only [Option.map_some,Option.some.injEq] at hc
      subst hc
      obtain ⟨blk,off,arr,el,fr,g1,g2,g3,g4⟩:=h3 i _ (by rw [dL,ht];rfl)
      exact ⟨blk,off,arr,el,fr,t.2.1,t.2.2,g1,g2,g3,g4,(h5 t (dD ht)).1.1⟩
  · obtain ⟨t,ht,rfl⟩:=List.mem_map.1 hc
    exact (h5 t ht).1.2
  · obtain ⟨t,ht,rfl⟩:=List.mem_map.1 hc
    exact (h5 t ht).2
theorem cellsPg:Tryz.prog.cellsOf 24=3:=by kernel_rfl
theorem open_prog {r:Reach} {b0:Nat} {v:Value} {d:DataW H} {p:List MemPlace} (hv:Value.okWide Tryz.prog w r b0 24 v) (h:DataW.Trod enc Tryz.prog w 0 (fun _=>true) true 24 v d p):
    ∃ (va vb:Int) (ad:Option Addr) (cap:Nat) (rs:List Rl),v = .agg #[.int .i64 va,.int .i64 vb,.slice ad rs.length cap]∧((-9223372036854775808≤va∧va<9223372036854775808) ∧ -9223372036854775808≤vb∧vb<9223372036854775808)∧rs.length<9223372036854775808∧RulesIn (fun b=>w.heap[b]?) ad rs∧sizeB rs:=by
  obtain ⟨v0,v1,v2,y0,y1,y2,m,rfl,rfl,rfl,hy0,hy1,hy2⟩:=open_agg3 Tryz.underlying24 (by kernel_rfl) cellsPg hv h
  obtain ⟨x,e0,rfl,wa0⟩:=DataW.trod_int (k:=.i64) (by kernel_rfl) hy0
  obtain ⟨y,e1,rfl,wa1⟩:=DataW.trod_int (k:=.i64) (by kernel_rfl) hy1
  obtain ⟨ad,cap,rs,e2,h1,h2,h3⟩:=open_rules_l hy2
  simp at e0 e1 e2
  subst e0 e1 e2
  have b0:=bounds_i64 wa0
  have b1:=bounds_i64 wa1
  exact ⟨x,y,ad,cap,rs,O,by omega,h1,h2,h3⟩
end
end Go.Proofs.YtamplgnbbanamaaGreatDoor
end
section
namespace Go.Proofs.YtamplgnbbanamaaGreatDoor
open Go Go.Lg Go.Lg.Fml Go.Lg.Fld Go.Lg.Arith
set_option maxRecDepth 100000
def rwZ:List Rl→List Value→List Value
  | r::rs,v::vs=>.int .i64 r.nw :: .int .i64 r.old::v::rwZ rs vs
  | _,_=>[]
theorem rwZ_len:∀ {rs:List Rl} {ws:List Value},ws.length=rs.length→(rwZ rs ws).length=rs.length*3
  | [],[],_=>rfl
  | c::cs,v::vs,h=>by
    simp only [rwZ,dI] at h ⊢
    rw [rwZ_len (rs:=cs) (ws:=vs) (by omega)];omega
  | [],_::_,h=>by simp at h
  | _::_,[],h=>by simp at h
theorem rwZ_add:∀ {rs:List Rl} {ws:List Value} {r:Rl} {v:Value},ws.length=rs.length→rwZ (rs++[r]) (ws++[v])=rwZ rs ws++[.int .i64 r.nw,.int .i64 r.old,v]
  | [],[],_,_,_=>rfl
  | c::cs,w::ws,r,v,h=>by
    simp only [dI] at h
    simp only [List.cons_append,rwZ]
    rw [rwZ_add (rs:=cs) (ws:=ws) (by omega)]
  | [],_::_,_,_,h=>by simp at h
  | _::_,[],_,_,h=>by simp at h
theorem rwZ_at:∀ {i:Nat} {rs:List Rl} {ws sp:List Value} {r:Rl} {w:Value},rs[i]? = some r→ws[i]? = some w→((rwZ rs ws++sp).drop (i*3)).take 3=[.int .i64 r.nw,.int .i64 r.old,w]
  | 0,c::cs,v::vs,sp,r,w,h1,h2=>by
    simp only [List.getElem?_cons_zero,Option.some.injEq] at h1 h2
    subst h1 h2
    rfl
  | i+1,c::cs,v::vs,sp,r,w,h1,h2=>by
    simp only [List.getElem?_cons_succ] at h1 h2
    have:=rwZ_at (sp:=sp) h1 h2
    rw [show (i+1)*3=i*3+3 by omega]
    exact this
  | _,[],_,_,_,_,h,_=>by simp at h
  | _,_::_,[],_,_,_,_,h=>by simp at h
theorem snoc_get {α:Type} {l:List α} {a x:α} {i:Nat} (h:(l++[a])[i]? = some x):(i<l.length∧l[i]? = some x)∨(i=l.length∧x=a):=by
  by_cases e:i<l.length
  · rw [dQ e] at h;exact .inl ⟨e,h⟩
  · have h1:=(List.getElem?_eq_some_iff.1 h).1
    rw [cV] at h1
    simp only [cY] at h1
    have e2:i=l.length:=by omega
    subst e2
    rw [List.getElem?_append_right (dN _),Nat.sub_self] at h
    simp only [List.getElem?_cons_zero,Option.some.injEq] at h
    exact .inr ⟨O,h.symm⟩
structure FormsH (H:Nat→Option Obj) (vs:List Value) (cs:List (List Ins)):Prop where
  len:vs.length=cs.length
  at_:∀ (i:Nat) (v:Value) (c:List Ins),vs[i]? = some v→cs[i]? = some c→∃ (vad:Option Addr) (vcap:Nat),v = .slice vad c.length vcap∧InsIn H vad c
theorem FormsH.nil {H:Nat→Option Obj}:FormsH H [] []:=⟨rfl,fun i v c h=>by simp at h⟩
theorem FormsH.mono {H H':Nat→Option Obj} (hH:∀ b o,H b=some o→H' b=some o) {vs:List Value} {cs:List (List Ins)} (G:FormsH H vs cs):FormsH H' vs cs:=⟨G.len,fun i v c hv hc=>by
  obtain ⟨vad,vcap,h1,h2⟩:=G.at_ i v c hv hc
  exact ⟨vad,vcap,h1,h2.mono hH⟩⟩
theorem FormsH.push {H:Nat→Option Obj} {vs:List Value} {cs:List (List Ins)} (G:FormsH H vs cs) {v:Value} {c:List Ins} (hv:∃ (vad:Option Addr) (vcap:Nat),v = .slice vad c.length vcap∧InsIn H vad c):FormsH H (vs++[v]) (cs++[c]):=⟨by rw [cV,cV,G.len];rfl,fun i w d hw hd=>by
  have hl:=G.len
  rcases snoc_get hw with ⟨h1,h2⟩|⟨h1,rfl⟩
  · rcases snoc_get hd with ⟨h3,h4⟩|⟨h3,_⟩
    · exact G.at_ i w d h2 h4
    · omega
  · rcases snoc_get hd with ⟨h3,_⟩|⟨_,rfl⟩
    · omega
    · exact hv⟩
structure RulesH (H:Nat→Option Obj) (ws:List Value) (rs:List Rl):Prop where
  len:ws.length=rs.length
  at_:∀ (i:Nat) (w:Value) (r:Rl),ws[i]? = some w→rs[i]? = some r→∃ (ead:Option Addr) (ecap:Nat),w = .slice ead r.ex.length ecap∧CodesIn H ead r.ex
theorem RulesH.nil {H:Nat→Option Obj}:RulesH H [] []:=⟨rfl,fun i v c h=>by simp at h⟩
theorem RulesH.mono {H H':Nat→Option Obj} (hH:∀ b o,H b=some o→H' b=some o) {vs:List Value} {cs:List Rl} (G:RulesH H vs cs):RulesH H' vs cs:=⟨G.len,fun i v c hv hc=>by
  obtain ⟨vad,vcap,h1,h2⟩:=G.at_ i v c hv hc
  exact ⟨vad,vcap,h1,h2.mono hH⟩⟩
theorem RulesH.push {H:Nat→Option Obj} {vs:List Value} {cs:List Rl} (G:RulesH H vs cs) {v:Value} {c:Rl} (hv:∃ (vad:Option Addr) (vcap:Nat),v = .slice vad c.ex.length vcap∧CodesIn H vad c.ex):RulesH H (vs++[v]) (cs++[c]):=⟨by rw [cV,cV,G.len];rfl,fun i w d hw hd=>by
  have hl:=G.len
  rcases snoc_get hw with ⟨h1,h2⟩|⟨h1,rfl⟩
  · rcases snoc_get hd with ⟨h3,h4⟩|⟨h3,_⟩
    · exact G.at_ i w d h2 h4
    · omega
  · rcases snoc_get hd with ⟨h3,_⟩|⟨_,rfl⟩
    · omega
    · exact hv⟩
theorem forms_block {Y:Nat→Option Obj} {blk:Nat} {arr:Array Value} {el:TypeId} {fr:Nat×Nat} {vs sp:List Value} {cs:List (List Ins)} (hY:Y blk=some (.cells arr el fr)) (h:arr.toList=vs++sp) (G:FormsH Y vs cs):CodesIn Y (some ⟨blk,0,none⟩) cs:=⟨fun i c hc=>by
  have hi:=(List.getElem?_eq_some_iff.1 hc).1
  have hl:=G.len
  obtain ⟨v,hv⟩:∃ v,vs[i]? = some v:=⟨_,cX (by omega)⟩
  obtain ⟨vad,vcap,h1,h2⟩:=G.at_ i v c hv hc
  have hsz:arr.size=vs.length+sp.length:=by rw [← Array.length_toList,h,cV]
  refine ⟨blk,0,arr,el,fr,vad,vcap,O,hY,by omega,?_,h2⟩
  rw [← Array.getElem?_toList,h,Nat.zero_add,dQ (by omega),hv,h1]⟩
theorem rules_block {Y:Nat→Option Obj} {blk:Nat} {arr:Array Value} {el:TypeId} {fr:Nat×Nat} {ws sp:List Value} {rs:List Rl} (hY:Y blk=some (.cells arr el fr)) (h:arr.toList=rwZ rs ws++sp) (G:RulesH Y ws rs) (hs:∀ r∈rs,smallR r):RulesIn Y (some ⟨blk,0,none⟩) rs:=⟨fun i r hr=>by
  have hi:=(List.getElem?_eq_some_iff.1 hr).1
  have hl:=G.len
  obtain ⟨v,hv⟩:∃ v,ws[i]? = some v:=⟨_,cX (by omega)⟩
  obtain ⟨ead,ecap,h1,h2⟩:=G.at_ i v r hv hr
  have hsz:arr.size=rs.length*3+sp.length:=by rw [← Array.length_toList,h,cV,rwZ_len hl]
  refine ⟨blk,0,arr,el,fr,ead,ecap,O,hY,by omega,?_,h2⟩
  rw [h,Nat.zero_add,rwZ_at hr hv,h1],hs⟩
def rlR (t:TypeId) (rs:List Rl):Rsc:=⟨fun ρ H=>(∃ (arr:Array Value) (fr:Nat×Nat),H ρ.1=some (.cells arr t fr)∧arr.size=ρ.2)∧RulesIn H (some ⟨ρ.1,0,none⟩) rs⟩
abbrev rlB (t:TypeId) (k:Nat) (rs:List Rl):Nat×Option Box:=(k,some ⟨0,[],.res (rlR t rs)⟩)
section
variable {n:Nat} {C:Ctx} {X:Nat→Option Obj} {s:List (Nat×LV)} {bx:List (Nat×Option Box)} {k:Nat}
theorem rl_shut {Mid:St→Prop} {t:TypeId} {rs:List Rl} {H:Nat→Option Obj} {ws sp:List Value} (hO:OwnedM C X H) (G:RulesH H ws rs) (hs:∀ r∈rs,smallR r)
    (h:Leads n C Mid ⟨s,rlB t k rs::bx,X⟩):Leads n C Mid ⟨s,(k,some ⟨t,(rwZ rs ws++sp).map .val,false⟩)::bx,joinM X H⟩:=by
  refine Leads.closeRes (vals:=rwZ rs ws++sp) hO (fun ρ fr h1 h2 h3 => ?_) h
  refine ⟨⟨_,fr,cN _ _ _,by rw [h3];simp⟩,?_⟩
  exact rules_block (cN _ _ _) (by simp;rfl) (G.mono (cJ h1)) hs
end
theorem ins_leads {H:Nat→Option Obj} {b:Nat} {v:Value} {el:TypeId} {c:List Ins} (h:LeadsTo H b v el 6 (inssV c)) (hs:∀ x∈c,smallI x):∃ (vad:Option Addr) (vcap:Nat),v = .slice vad c.length vcap∧InsIn H vad c:=by
  obtain ⟨len,cap,arr,fr,h1,h2,_,_,h5,h6⟩:=h
  have hl:=inssV_len c
  rw [cW] at hl
  have e:len=c.length:=by omega
  subst e
  exact ⟨_,cap,h1,ins_in h5 hs h6⟩
theorem codes_leads {H:Nat→Option Obj} {b:Nat} {v:Value} {el:TypeId} {vs:List Value} {cs:List (List Ins)} (h:LeadsTo H b v el 1 vs) (G:FormsH H vs cs):∃ (ead:Option Addr) (ecap:Nat),v = .slice ead cs.length ecap∧CodesIn H ead cs:=by
  obtain ⟨len,cap,arr,fr,h1,h2,_,_,h5,sp,h6⟩:=h
  have hl:=G.len
  have e:len=cs.length:=by omega
  subst e
  exact ⟨_,cap,h1,forms_block h5 h6 G⟩
theorem CodesIn.nilIn {H:Nat→Option Obj}:∃ (ead:Option Addr) (ecap:Nat),Value.slice none 0 0 = .slice ead ([]:List (List Ins)).length ecap∧CodesIn H ead []:=⟨none,0,rfl,CodesIn.nil⟩
variable (X:Nat→Option Obj)
theorem form12_nil (va vb:Int) (ad:Option Addr) (cap:Nat):MSpec Tryz.prog X 9 [LPg va vb ad 0 cap] [] (.sv (.agg [.val (.int .i64 va),.val (.int .i64 vb),.val (.slice none 0 0)])) []:=by
  refine cG Tryz.func9 rfl (by kernel_rfl) rfl (by exact (by repeat' (first|refine bT ?_ ?_|rfl|exact bV|exact bU|exact bW rfl))) (by exact (by repeat' (first|refine bT ?_ ?_|rfl|exact bV|exact bU|exact bW rfl))) rfl rfl ?_
  intro C
  refine LWP.ends ?_
  (refine aA<|rgN<|aL O O O dR<|aP O dR ?_;refine aB<|aA<|rgN<|kfa O O ?_;refine kl1 O O O<|kfa O O ?_;refine kl1 O O O<|aT O O (by exact O) (by exact nl3 O O O O) dR ?_;refine aP O dR ?_;refine aM O O O O O O dR ?_;refine aB<|aA<|aA<|rgN<|kas O<|aB<|aG ?_)
  refine cL (fun m σ=>m=0∧σ=⟨[(1,Lp 1),(2,Lp 2),(3,Lp 3),(4,Ln .i64 0)],[v3B 29 3 va vb none 0 0,v3B 29 2 0 0 none 0 0,v3B 24 1 va vb ad 0 cap],X⟩) 0
    ⟨_,Le.of (by exact ⟨rfl,rfl,rfl,rfl,trivial⟩) (by exact ⟨rfl,rfl,rfl,trivial⟩) (by exact rfl) (by exact rfl) (by repeat' (first|refine bT ?_ ?_|rfl|exact bV|exact bU|exact bW rfl)),rfl,rfl⟩ ?_
  rintro m σ ⟨rfl,rfl⟩
  (refine aA<|aA<|rgN<|kmv O<|kfa O O ?_;refine kl1 O O O<|aQ O cC O dR ?_;refine klt O O (r:=false) O<|aB<|aF O ?_;refine aJ<|aA<|rgN<|aK O O O dR ?_;refine aM O O O O O O dR ?_;refine aB<|aI ?_)
  exact cD ⟨[],⟨[_],⟨⟨_,_,rfl,rfl,rfl,.inl ⟨AggT.h,rfl⟩⟩,trivial⟩,rfl⟩,(by repeat' (first|exact trivial|refine cQ ⟨_,rfl,?_⟩ ?_|refine cQ ⟨_,rfl⟩ ?_|rfl|exact bX _ _ _ _|exact bY _ _ _ _|exact bZ rfl)),rfl,rfl⟩
set_option maxHeartbeats 25600000 in
theorem form12_some (va vb:Int) (rs:List Rl) (ad:Option Addr) (cap:Nat) (hin:RulesIn X ad rs) (h0:0<rs.length) (hg:rs.length≤30∧∀ r∈rs,r.ex.length≤12∧∀ c∈r.ex,c.length≤80):
    MSpec Tryz.prog X 9 [LPg va vb ad rs.length cap] [] (.sv (.agg [.val (.int .i64 va),.val (.int .i64 vb),.slc 1000001 0 rs.length 3])) [rlB 51 1000001 rs]:=by
  have hsm:=hin.small
  have hl30:=hg.1
  refine cG Tryz.func9 rfl (by kernel_rfl) rfl (by exact (by repeat' (first|refine bT ?_ ?_|rfl|exact bV|exact bU|exact bW rfl))) (by exact (by repeat' (first|refine bT ?_ ?_|rfl|exact bV|exact bU|exact bW rfl))) rfl rfl ?_
  intro C
  refine LWP.ends ?_
  (refine aA<|rgN<|aL O O O dR<|aP O dR ?_;refine aB<|aA<|rgN<|kfa O O ?_;refine kl1 O O O<|kfa O O ?_;refine kl1 O O O<|aT O O (by exact O) (by exact nl3 O O O O) dR ?_;refine aP O dR ?_;refine aM O O O O O O dR ?_;refine aB<|aA<|aA<|rgN<|kas O<|aB<|aG ?_)
  refine cM (fun m σ=>∃ (i:Nat) (ws:List Value) (H:Nat→Option Obj),i≤rs.length∧m=rs.length-i∧OwnedM C X H∧RulesH H ws (rs.take i)∧((i=0∧σ=⟨[(1,Lp 1),(2,Lp 2),(3,Lp 3),(4,Ln .i64 (i:Nat))],[v3B 29 3 va vb none 0 0,v3B 29 2 0 0 none 0 0,v3B 24 1 va vb ad rs.length cap],joinM X H⟩)∨(0<i∧σ=⟨[(1,Lp 1),(2,Lp 2),(3,Lp 3),(4,Ln .i64 (i:Nat))],[(600,some ⟨51,(rwZ (rs.take i) ws).map .val,true⟩),(3,some ⟨29,[.val (.int .i64 va),.val (.int .i64 vb),.slc 600 0 (i) 3],false⟩),v3B 29 2 0 0 none 0 0,v3B 24 1 va vb ad rs.length cap],joinM X H⟩))) rs.length
    (cE (σ':=⟨[(1,Lp 1),(2,Lp 2),(3,Lp 3),(4,Ln .i64 (0:Nat))],[v3B 29 3 va vb none 0 0,v3B 29 2 0 0 none 0 0,v3B 24 1 va vb ad rs.length cap],X⟩) (Le.of (by exact ⟨rfl,rfl,rfl,rfl,trivial⟩) (by exact ⟨rfl,rfl,rfl,trivial⟩) (by exact rfl) (by exact rfl) (by repeat' (first|refine bT ?_ ?_|rfl|exact bV|exact bU|exact bW rfl))) (cD ⟨0,[],fun _=>none,by omega,by omega,OwnedM.nil C X,RulesH.nil,.inl ⟨rfl,by rw [joinM_nil]⟩⟩)) ?_
  rintro m σ ⟨i,ws,H,hi,rfl,hO,GR,hst⟩
  rcases hst with ⟨hi0,rfl⟩|⟨hi0,rfl⟩
  · as_aux_lemma =>
      by_cases hlt:i<rs.length
      case neg =>
        have hie:i=rs.length:=by omega
        subst hi0
        exact absurd hie (by omega)
      obtain ⟨r,hr⟩:∃ r,rs[i]? = some r:=⟨_,cX hlt⟩
      obtain ⟨blk,off,arr,el,fr,ead,ecap,rfl,hX,hsiz,hcs,g1,g2,g3,hE⟩:=hin.get hr
      have hXJ:=joinM_has hO hX
      have hio:off+Int.toNat (i:Int)*3=off+i*3:=by simp
      have h12:=hg.2 r (dD hr)
      (refine aA<|aA<|rgN<|kmv O<|kfa O O ?_;refine kl1 O O O<|aQ O cC O dR ?_;refine klt O O (cP (by omega))<|aB<|aE O ?_;refine aH ?_;refine aA<|aG<|aA<|rgD mixed<|kfa O O ?_;refine kl1 O O O<|kmv O<|aR O O cC (by omega) hio dR<|bH O O dR ?_;refine aW O hXJ O g1 dR<|kfa O O ?_;refine kl1 O O O<|kmv O<|aR O O cC (by omega) hio dR<|bH O O dR ?_;refine aW O hXJ O g2 dR<|aT O O (by exact O) (by exact nl3 O O O O) dR ?_;refine aP O dR ?_;refine aM O O O O O O dR ?_;refine aB<|rgA ?_;refine aA<|aA<|rgN<|kas O<|aB<|aG ?_)
      refine cM (fun m σ=>∃ (k:Nat) (vs:List Value) (H:Nat→Option Obj),k≤r.ex.length∧m=r.ex.length-k∧OwnedM C X H∧RulesH H ws (rs.take i)∧FormsH H vs (r.ex.take k)∧((k=0∧σ=⟨[(1,Lp 1),(2,Lp 2),(3,Lp 3),(4,Ln .i64 (i:Nat)),(5,Lp 5),(6,Ln .i64 (k:Nat))],[v3B 51 5 r.nw r.old none 0 0,v3B 29 3 va vb none 0 0,v3B 29 2 0 0 none 0 0,v3B 24 1 va vb (some ⟨blk,off,none⟩) rs.length cap],joinM X H⟩)∨(0<k∧σ=⟨[(1,Lp 1),(2,Lp 2),(3,Lp 3),(4,Ln .i64 (i:Nat)),(5,Lp 5),(6,Ln .i64 (k:Nat))],[(601,some ⟨69,(vs).map .val,true⟩),(5,some ⟨51,[.val (.int .i64 r.nw),.val (.int .i64 r.old),.slc 601 0 (k) 1],false⟩),v3B 29 3 va vb none 0 0,v3B 29 2 0 0 none 0 0,v3B 24 1 va vb (some ⟨blk,off,none⟩) rs.length cap],joinM X H⟩))) r.ex.length
        (cE (σ':=⟨[(1,Lp 1),(2,Lp 2),(3,Lp 3),(4,Ln .i64 (i:Nat)),(5,Lp 5),(6,Ln .i64 (0:Nat))],[v3B 51 5 r.nw r.old none 0 0,v3B 29 3 va vb none 0 0,v3B 29 2 0 0 none 0 0,v3B 24 1 va vb (some ⟨blk,off,none⟩) rs.length cap],joinM X H⟩) (Le.of (by exact ⟨rfl,rfl,rfl,rfl,rfl,rfl,trivial⟩) (by exact ⟨rfl,rfl,rfl,rfl,trivial⟩) (by exact rfl) (by exact rfl) (by repeat' (first|refine bT ?_ ?_|rfl|exact bV|exact bU|exact bW rfl))) (cD ⟨0,[],H,by omega,by omega,hO,GR,FormsH.nil,.inl ⟨rfl,rfl⟩⟩)) ?_
      clear hXJ hO GR
      clear H
      rintro m σ ⟨k,vs,H,hk,rfl,hO,GR,GF,hst⟩
      have hXJ:=joinM_has hO hX
      rcases hst with ⟨hk0,rfl⟩|⟨hk0,rfl⟩
      · as_aux_lemma =>
          by_cases hkl:k<r.ex.length
          case neg =>
            have hke:k=r.ex.length:=by omega
            subst hke
            rw [dF] at GF
            have hwl:=GR.len
            have hrl:((rwZ (rs.take i) ws).map CV.val).length=i*3:=by rw [cW,rwZ_len hwl,cZ];omega
            have hadd:IntKind.i64.wrap ((i:Int)+1)=((i+1:Nat):Int):=by rw [cH (by omega)];omega
            have hnc3:(rwZ (rs.take i) ws).map CV.val++[.val (.int .i64 r.nw),.val (.int .i64 r.old),.val (.slice none 0 0)]=(rwZ (rs.take i++[r]) (ws++[.slice none 0 0])).map .val:=by
              rw [rwZ_add hwl];simp
            (refine aA<|aA<|rgN<|kmv O<|kfa O O ?_;refine kl1 O O O<|kmv O<|aR O O cC (by omega) hio dR<|bH O O dR ?_;refine aW O hXJ O g3 dR<|aQ O cC O dR ?_;refine klt O O (cO (by omega))<|aB<|aF O ?_;refine aJ<|rgN<|kfa O O ?_;refine kl1 O O O<|aK O O O dR ?_;refine aZ (zs:=[.int .i64 0,.int .i64 0,.slice none 0 0]) (sz:=3) (e:=51) (cs':=[.val (.int .i64 r.nw),.val (.int .i64 r.old),.val (.slice none 0 0)]) (by kernel_rfl) O O O O O O dR<|K.appendNil (by_:=40) (e:=51) (e2:=51) (l2:=[.val (.int .i64 r.nw),.val (.int .i64 r.old),.val (.slice none 0 0)]) O O O (dN _) O O (by decide) (by kernel_rfl) (by kernel_rfl) (by omega) (by omega) O dR ?_;refine kfa O O ?_;refine bG O O O O O (nl3 O O O O) dR<|aB<|rgN<|kmv O<|kad O O hadd<|kas O<|aB ?_)
            refine cE (σ':=⟨[(1,Lp 1),(2,Lp 2),(3,Lp 3),(4,Ln .i64 (i+1:Nat))],[(600,some ⟨51,(rwZ (rs.take (i+1)) (ws++[.slice none 0 0])).map .val,true⟩),(3,some ⟨29,[.val (.int .i64 va),.val (.int .i64 vb),.slc 600 0 (i+1) 3],false⟩),v3B 29 2 0 0 none 0 0,v3B 24 1 va vb (some ⟨blk,off,none⟩) rs.length cap],joinM X H⟩) ?_ (cD ⟨rs.length-(i+1),by omega,i+1,ws++[.slice none 0 0],H,by omega,O,hO,?_,.inr ⟨by omega,O⟩⟩)
            · rw [take_snoc hr]
              subst hi0
              rw [show rs.take 0=[] from rfl,show ws=[] from List.eq_nil_of_length_eq_zero (by have:=GR.len;rw [cZ] at this;omega)]
              exact Le.ofR [(600,95)] (by exact ⟨rfl,rfl,rfl,rfl,trivial⟩) (by repeat' (first|exact trivial|refine cQ ⟨_,rfl,?_⟩ ?_|refine cQ ⟨_,rfl⟩ ?_|rfl|exact bX _ _ _ _|exact bY _ _ _ _|exact bZ rfl)) (by exact rfl) (by exact rfl) (by repeat' (first|refine bT ?_ ?_|rfl|exact bV|exact bU|exact bW rfl)) (by exact rfl) (by exact rfl)
            · rw [take_snoc hr]
              exact GR.push (by rw [show r.ex=[] from List.eq_nil_of_length_eq_zero (by omega)];exact CodesIn.nilIn)
          obtain ⟨c,hc⟩:∃ c,r.ex[k]? = some c:=⟨_,cX hkl⟩
          obtain ⟨eb,eo,earr,eel,efr,vad,vcap,rfl,hEX,hec,hI⟩:=hE.get hc
          have hEJ:=joinM_has hO hEX
          have hio3:eo+Int.toNat (k:Int)*1=eo+k*1:=by simp
          have h80:=h12.2 c (dD hc)
          have hvk:=GF.len
          rw [cZ] at hvk
          have hvl:(vs.map CV.val).length=k*1:=by rw [cW];omega
          subst hk0
          (refine aA<|aA<|rgN<|kmv O<|kfa O O ?_;refine kl1 O O O<|kmv O<|aR O O cC (by omega) hio dR<|bH O O dR ?_;refine aW O hXJ O g3 dR<|aQ O cC O dR ?_;refine klt O O (cP (by omega))<|aB<|aE O ?_;refine aH ?_;refine aA<|aG<|aA<|rgN<|aZ (zs:=[]) (sz:=6) (e:=70) (by kernel_rfl) O O O O O O dR<|kas O<|aB<|aA<|aA<|rgN<|kas O<|aB<|aG ?_)
          refine cL (fun m σ=>∃ n:Nat,n≤c.length∧m=c.length-n∧σ=⟨[(1,Lp 1),(2,Lp 2),(3,Lp 3),(4,Ln .i64 (i:Nat)),(5,Lp 5),(6,Ln .i64 (0:Nat)),(7,.sv (.one (.slc 500 0 (n) 6))),(8,Ln .i64 (n:Nat))],[(500,some ⟨70,(inssV (c.take (n))).map .val,Nat.blt 0 (n)⟩),v3B 51 5 r.nw r.old none 0 0,v3B 29 3 va vb none 0 0,v3B 29 2 0 0 none 0 0,v3B 24 1 va vb (some ⟨blk,off,none⟩) rs.length cap],joinM X H⟩) c.length
            ⟨⟨[(1,Lp 1),(2,Lp 2),(3,Lp 3),(4,Ln .i64 (i:Nat)),(5,Lp 5),(6,Ln .i64 (0:Nat)),(7,.sv (.one (.slc 500 0 (0) 6))),(8,Ln .i64 (0:Nat))],[(500,some ⟨70,(inssV (c.take (0))).map .val,Nat.blt 0 (0)⟩),v3B 51 5 r.nw r.old none 0 0,v3B 29 3 va vb none 0 0,v3B 29 2 0 0 none 0 0,v3B 24 1 va vb (some ⟨blk,off,none⟩) rs.length cap],joinM X H⟩,Le.ofR [(500,46)] (by exact ⟨rfl,rfl,rfl,rfl,rfl,rfl,rfl,rfl,trivial⟩) (by repeat' (first|exact trivial|refine cQ ⟨_,rfl,?_⟩ ?_|refine cQ ⟨_,rfl⟩ ?_|rfl|exact bX _ _ _ _|exact bY _ _ _ _|exact bZ rfl)) (by exact rfl) (by exact rfl) (by repeat' (first|refine bT ?_ ?_|rfl|exact bV|exact bU|exact bW rfl)) (by exact rfl) (by exact rfl),0,by omega,by omega,rfl⟩ ?_
          rintro m σ ⟨n,hn,rfl,rfl⟩
          by_cases hnl:n<c.length
          case neg =>
            have e:n=c.length:=by omega
            subst e
            have hadd:IntKind.i64.wrap (((0:Nat):Int)+1)=((0+1:Nat):Int):=rfl
            (refine aA<|aA<|rgN<|kmv O<|kfa O O ?_;refine kl1 O O O<|kmv O<|aR O O cC (by omega) hio dR<|bH O O dR ?_;refine aW O hXJ O g3 dR<|kmv O<|aR O O cC (by omega) hio3 dR<|aW O hEJ O hec dR<|aQ O cC O dR ?_;refine klt O O (cO (by omega))<|aB<|aF O ?_;refine aJ<|rgN<|kfa O O ?_;refine kl1 O O O<|kmv O<|aZ (zs:=[.slice none 0 0]) (sz:=1) (e:=69) (cs':=[.slc 500 0 c.length 6]) (by kernel_rfl) O O O O O O dR<|K.appendNil (by_:=24) (e:=69) (e2:=69) (l2:=[.slc 500 0 c.length 6]) O O O (dN _) O O (by decide) (by kernel_rfl) (by kernel_rfl) (by omega) (by omega) O dR ?_;refine kfa O O ?_;refine bG O O O O O (nl3 O O O O) dR<|aB<|rgN<|kmv O<|kad O O hadd<|kas O<|aB ?_)
            refine cE (σ':=⟨[(1,Lp 1),(2,Lp 2),(3,Lp 3),(4,Ln .i64 (i:Nat)),(5,Lp 5),(6,Ln .i64 (0+1:Nat))],[(601,some ⟨69,vs.map .val ++ .slc 500 0 c.length 6::([]:List Value).map .val,true⟩),(500,some ⟨70,(inssV c).map .val,Nat.blt 0 c.length⟩),(5,some ⟨51,[.val (.int .i64 r.nw),.val (.int .i64 r.old),.slc 601 0 (0+1) 1],false⟩),v3B 29 3 va vb none 0 0,v3B 29 2 0 0 none 0 0,v3B 24 1 va vb (some ⟨blk,off,none⟩) rs.length cap],joinM X H⟩) ?_ ?_
            · rw [dF]
              rw [show vs=[] from List.eq_nil_of_length_eq_zero (by omega)]
              exact Le.ofR [(601,89)] (by exact ⟨rfl,rfl,rfl,rfl,rfl,rfl,trivial⟩) (by repeat' (first|exact trivial|refine cQ ⟨_,rfl,?_⟩ ?_|refine cQ ⟨_,rfl⟩ ?_|rfl|exact bX _ _ _ _|exact bY _ _ _ _|exact bZ rfl)) (by exact rfl) (by exact rfl) (by repeat' (first|refine bT ?_ ?_|rfl|exact bV|exact bU|exact bW rfl)) (by exact rfl) (by exact rfl)
            refine Leads.closeCell hO (by have:=inssV_len c;rw [cW] at this;exact this) rfl bU rfl (by repeat' (first|refine bT ?_ ?_|rfl|exact bU)) rfl rfl fun b o v g1 _ hO3 hv=>cD ⟨r.ex.length-(0+1),by omega,0+1,vs++[v],withBlock H b o,by omega,rfl,hO3,GR.mono (cJ g1),?_,.inr ⟨by omega,?_⟩⟩
            · rw [take_snoc hc]
              exact (GF.mono (cJ g1)).push (ins_leads hv hI.small)
            · rw [dH]
              rfl
          obtain ⟨x,hx⟩:∃ x,c[n]? = some x:=⟨_,cX hnl⟩
          obtain ⟨xb,xo,xarr,xel,xfr,rfl,hxX,hxz,hxc,_⟩:=hI.at hx
          have hxJ:=joinM_has hO hxX
          have hxo:xo+Int.toNat (n:Int)*6=xo+n*6:=by simp
          have hadd:IntKind.i64.wrap ((n:Int)+1)=((n+1:Nat):Int):=by rw [cH (by omega)];omega
          have hcl:=inssV_len (c.take n)
          rw [cZ,Nat.min_eq_left hn] at hcl
          have hnc:=inssV_snoc (c.take n) x (cs:=[.val (.int .i64 x.op),.val (.int .i64 x.a),.val (.int .i64 x.b),.val (.bool x.k.1),.val (.int .u64 (x.k.2/18446744073709551616)),.val (.int .u64 (x.k.2%18446744073709551616))]) rfl
          rw [← take_snoc hx] at hnc
          (refine aA<|aA<|rgN<|kmv O<|kfa O O ?_;refine kl1 O O O<|kmv O<|aR O O cC (by omega) hio dR<|bH O O dR ?_;refine aW O hXJ O g3 dR<|kmv O<|aR O O cC (by omega) hio3 dR<|aW O hEJ O hec dR<|aQ O cC O dR ?_;refine klt O O (cP (by omega))<|aB<|aE O ?_;refine aH ?_;refine aA<|aG<|aA<|rgN<|kfa O O ?_;refine kl1 O O O<|kmv O<|aR O O cC (by omega) hio dR<|bH O O dR ?_;refine aW O hXJ O g3 dR<|kmv O<|aR O O cC (by omega) hio3 dR<|aW O hEJ O hec dR<|kmv O<|aR O O cC (by omega) hxo dR<|aY O hxJ (by kernel_rfl) hxz hxc dR<|aP O dR ?_;refine aM O O O O O O dR ?_;refine aB<|rgN<|kmv O<|kfa O O ?_;refine kl1 O O O<|kfa O O ?_;refine kl1 O O O<|kfa O O ?_;refine kl1 O O O<|kfa O O ?_;refine bJ O O O (by exact nl3 O O O O) dR ?_;refine aT O O (by exact O) (by exact nl6 O O O O O O O) dR ?_;refine aZ (zs:=[.int .i64 0,.int .i64 0,.int .i64 0,.bool false,.int .u64 0,.int .u64 0]) (sz:=6) (e:=70) (cs':=[.val (.int .i64 x.op),.val (.int .i64 x.a),.val (.int .i64 x.b),.val (.bool x.k.1),.val (.int .u64 (x.k.2/18446744073709551616)),.val (.int .u64 (x.k.2%18446744073709551616))]) (by kernel_rfl) O O O O O O dR<|bQ (by_:=48) (e2:=70) (l2:=[.val (.int .i64 x.op),.val (.int .i64 x.a),.val (.int .i64 x.b),.val (.bool x.k.1),.val (.int .u64 (x.k.2/18446744073709551616)),.val (.int .u64 (x.k.2%18446744073709551616))]) (nl:=n+1) (nc:=(inssV (c.take (n+1))).map .val) O O hcl O O (dN _) O O (by kernel_rfl) (by kernel_rfl) (by omega) (by omega) O O hnc dR<|kas O<|aB<|rgN<|kmv O<|kad O O hadd<|kas O<|aB ?_)
          exact ⟨_,⟨[(1,Lp 1),(2,Lp 2),(3,Lp 3),(4,Ln .i64 (i:Nat)),(5,Lp 5),(6,Ln .i64 (0:Nat)),(7,.sv (.one (.slc 500 0 (n+1) 6))),(8,Ln .i64 (n+1:Nat))],[(500,some ⟨70,(inssV (c.take (n+1))).map .val,Nat.blt 0 (n+1)⟩),v3B 51 5 r.nw r.old none 0 0,v3B 29 3 va vb none 0 0,v3B 29 2 0 0 none 0 0,v3B 24 1 va vb (some ⟨blk,off,none⟩) rs.length cap],joinM X H⟩,by omega,Le.ofR [(500,84)] (by exact ⟨rfl,rfl,rfl,rfl,rfl,rfl,rfl,rfl,trivial⟩) (by repeat' (first|exact trivial|refine cQ ⟨_,rfl,?_⟩ ?_|refine cQ ⟨_,rfl⟩ ?_|rfl|exact bX _ _ _ _|exact bY _ _ _ _|exact bZ rfl)) (by exact rfl) (by exact rfl) (by repeat' (first|refine bT ?_ ?_|rfl|exact bV|exact bU|exact bW rfl)) (by exact rfl) (by exact rfl),n+1,by omega,rfl,rfl⟩
      · as_aux_lemma =>
          by_cases hkl:k<r.ex.length
          case neg =>
            have hke:k=r.ex.length:=by omega
            subst hke
            rw [dF] at GF
            have hwl:=GR.len
            have hrl:((rwZ (rs.take i) ws).map CV.val).length=i*3:=by rw [cW,rwZ_len hwl,cZ];omega
            have hadd:IntKind.i64.wrap ((i:Int)+1)=((i+1:Nat):Int):=by rw [cH (by omega)];omega
            have hnc3:(rwZ (rs.take i) ws).map CV.val++[.val (.int .i64 r.nw),.val (.int .i64 r.old),.slc 601 0 r.ex.length 1]=(rwZ (rs.take i) ws++[Value.int .i64 r.nw,Value.int .i64 r.old]).map .val ++ .slc 601 0 r.ex.length 1::([]:List Value).map .val:=by
              simp
            (refine aA<|aA<|rgN<|kmv O<|kfa O O ?_;refine kl1 O O O<|kmv O<|aR O O cC (by omega) hio dR<|bH O O dR ?_;refine aW O hXJ O g3 dR<|aQ O cC O dR ?_;refine klt O O (cO (by omega))<|aB<|aF O ?_;refine aJ<|rgN<|kfa O O ?_;refine kl1 O O O<|aK O O O dR ?_;refine aZ (zs:=[.int .i64 0,.int .i64 0,.slice none 0 0]) (sz:=3) (e:=51) (cs':=[.val (.int .i64 r.nw),.val (.int .i64 r.old),.slc 601 0 r.ex.length 1]) (by kernel_rfl) O O O O O O dR<|K.appendNil (by_:=40) (e:=51) (e2:=51) (l2:=[.val (.int .i64 r.nw),.val (.int .i64 r.old),.slc 601 0 r.ex.length 1]) O O O (dN _) O O (by decide) (by kernel_rfl) (by kernel_rfl) (by omega) (by omega) O dR ?_;refine kfa O O ?_;refine bG O O O O O (nl3 O O O O) dR<|aB<|rgN<|kmv O<|kad O O hadd<|kas O<|aB ?_)
            refine cE (σ':=⟨[(1,Lp 1),(2,Lp 2),(3,Lp 3),(4,Ln .i64 (i+1:Nat))],[(600,some ⟨51,(rwZ (rs.take i) ws++[Value.int .i64 r.nw,Value.int .i64 r.old]).map .val ++ .slc 601 0 r.ex.length 1::([]:List Value).map .val,true⟩),(601,some ⟨69,vs.map .val,true⟩),(3,some ⟨29,[.val (.int .i64 va),.val (.int .i64 vb),.slc 600 0 (i+1) 3],false⟩),v3B 29 2 0 0 none 0 0,v3B 24 1 va vb (some ⟨blk,off,none⟩) rs.length cap],joinM X H⟩) ?_ ?_
            · subst hi0
              rw [show rs.take 0=[] from rfl,show ws=[] from List.eq_nil_of_length_eq_zero (by have:=GR.len;rw [cZ] at this;omega)]
              exact Le.ofR [(600,95)] (by exact ⟨rfl,rfl,rfl,rfl,trivial⟩) (by repeat' (first|exact trivial|refine cQ ⟨_,rfl,?_⟩ ?_|refine cQ ⟨_,rfl⟩ ?_|rfl|exact bX _ _ _ _|exact bY _ _ _ _|exact bZ rfl)) (by exact rfl) (by exact rfl) (by repeat' (first|refine bT ?_ ?_|rfl|exact bV|exact bU|exact bW rfl)) (by exact rfl) (by exact rfl)
            refine Leads.closeCell hO (by have:=GF.len;omega) O bU O (by repeat' (first|refine bT ?_ ?_|rfl|exact bU)) O O fun b o v g1 _ hO3 hv=>cD ⟨rs.length-(i+1),by omega,i+1,ws++[v],withBlock H b o,by omega,O,hO3,?_,.inr ⟨by omega,?_⟩⟩
            · rw [take_snoc hr]
              exact (GR.mono (cJ g1)).push (codes_leads hv (GF.mono (cJ g1)))
            · rw [take_snoc hr,rwZ_add hwl]
              simp
          obtain ⟨c,hc⟩:∃ c,r.ex[k]? = some c:=⟨_,cX hkl⟩
          obtain ⟨eb,eo,earr,eel,efr,vad,vcap,rfl,hEX,hec,hI⟩:=hE.get hc
          have hEJ:=joinM_has hO hEX
          have hio3:eo+Int.toNat (k:Int)*1=eo+k*1:=by simp
          have h80:=h12.2 c (dD hc)
          have hvk:=GF.len
          rw [cZ] at hvk
          have hvl:(vs.map CV.val).length=k*1:=by rw [cW];omega
          (refine aA<|aA<|rgN<|kmv O<|kfa O O ?_;refine kl1 O O O<|kmv O<|aR O O cC (by omega) hio dR<|bH O O dR ?_;refine aW O hXJ O g3 dR<|aQ O cC O dR ?_;refine klt O O (cP (by omega))<|aB<|aE O ?_;refine aH ?_;refine aA<|aG<|aA<|rgN<|aZ (zs:=[]) (sz:=6) (e:=70) (by kernel_rfl) O O O O O O dR<|kas O<|aB<|aA<|aA<|rgN<|kas O<|aB<|aG ?_)
          refine cL (fun m σ=>∃ n:Nat,n≤c.length∧m=c.length-n∧σ=⟨[(1,Lp 1),(2,Lp 2),(3,Lp 3),(4,Ln .i64 (i:Nat)),(5,Lp 5),(6,Ln .i64 (k:Nat)),(7,.sv (.one (.slc 500 0 (n) 6))),(8,Ln .i64 (n:Nat))],[(500,some ⟨70,(inssV (c.take (n))).map .val,Nat.blt 0 (n)⟩),(601,some ⟨69,(vs).map .val,true⟩),(5,some ⟨51,[.val (.int .i64 r.nw),.val (.int .i64 r.old),.slc 601 0 (k) 1],false⟩),v3B 29 3 va vb none 0 0,v3B 29 2 0 0 none 0 0,v3B 24 1 va vb (some ⟨blk,off,none⟩) rs.length cap],joinM X H⟩) c.length
            ⟨⟨[(1,Lp 1),(2,Lp 2),(3,Lp 3),(4,Ln .i64 (i:Nat)),(5,Lp 5),(6,Ln .i64 (k:Nat)),(7,.sv (.one (.slc 500 0 (0) 6))),(8,Ln .i64 (0:Nat))],[(500,some ⟨70,(inssV (c.take (0))).map .val,Nat.blt 0 (0)⟩),(601,some ⟨69,(vs).map .val,true⟩),(5,some ⟨51,[.val (.int .i64 r.nw),.val (.int .i64 r.old),.slc 601 0 (k) 1],false⟩),v3B 29 3 va vb none 0 0,v3B 29 2 0 0 none 0 0,v3B 24 1 va vb (some ⟨blk,off,none⟩) rs.length cap],joinM X H⟩,Le.ofR [(500,46)] (by exact ⟨rfl,rfl,rfl,rfl,rfl,rfl,rfl,rfl,trivial⟩) (by repeat' (first|exact trivial|refine cQ ⟨_,rfl,?_⟩ ?_|refine cQ ⟨_,rfl⟩ ?_|rfl|exact bX _ _ _ _|exact bY _ _ _ _|exact bZ rfl)) (by exact rfl) (by exact rfl) (by repeat' (first|refine bT ?_ ?_|rfl|exact bV|exact bU|exact bW rfl)) (by exact rfl) (by exact rfl),0,by omega,by omega,rfl⟩ ?_
          rintro m σ ⟨n,hn,rfl,rfl⟩
          by_cases hnl:n<c.length
          case neg =>
            have e:n=c.length:=by omega
            subst e
            have hadd:IntKind.i64.wrap ((k:Int)+1)=((k+1:Nat):Int):=by rw [cH (by omega)];omega
            (refine aA<|aA<|rgN<|kmv O<|kfa O O ?_;refine kl1 O O O<|kmv O<|aR O O cC (by omega) hio dR<|bH O O dR ?_;refine aW O hXJ O g3 dR<|kmv O<|aR O O cC (by omega) hio3 dR<|aW O hEJ O hec dR<|aQ O cC O dR ?_;refine klt O O (cO (by omega))<|aB<|aF O ?_;refine aJ<|rgN<|kfa O O ?_;refine kl1 O O O<|kmv O<|aZ (zs:=[.slice none 0 0]) (sz:=1) (e:=69) (cs':=[.slc 500 0 c.length 6]) (by kernel_rfl) O O O O O O dR<|bQ (by_:=24) (e2:=69) (l2:=[.slc 500 0 c.length 6]) (nl:=k+1) (nc:=vs.map .val++[.slc 500 0 c.length 6]) O O hvl O O (dN _) O O (by kernel_rfl) (by kernel_rfl) (by omega) (by omega) O O O dR<|kfa O O ?_;refine bG O O O O O (nl3 O O O O) dR<|aB<|rgN<|kmv O<|kad O O hadd<|kas O<|aB ?_)
            refine cE (σ':=⟨[(1,Lp 1),(2,Lp 2),(3,Lp 3),(4,Ln .i64 (i:Nat)),(5,Lp 5),(6,Ln .i64 (k+1:Nat))],[(601,some ⟨69,vs.map .val ++ .slc 500 0 c.length 6::([]:List Value).map .val,true⟩),(500,some ⟨70,(inssV c).map .val,Nat.blt 0 c.length⟩),(5,some ⟨51,[.val (.int .i64 r.nw),.val (.int .i64 r.old),.slc 601 0 (k+1) 1],false⟩),v3B 29 3 va vb none 0 0,v3B 29 2 0 0 none 0 0,v3B 24 1 va vb (some ⟨blk,off,none⟩) rs.length cap],joinM X H⟩) ?_ ?_
            · rw [dF]
              exact Le.ofR [(601,89)] (by exact ⟨rfl,rfl,rfl,rfl,rfl,rfl,trivial⟩) (by repeat' (first|exact trivial|refine cQ ⟨_,rfl,?_⟩ ?_|refine cQ ⟨_,rfl⟩ ?_|rfl|exact bX _ _ _ _|exact bY _ _ _ _|exact bZ rfl)) (by exact rfl) (by exact rfl) (by repeat' (first|refine bT ?_ ?_|rfl|exact bV|exact bU|exact bW rfl)) (by exact rfl) (by exact rfl)
            refine Leads.closeCell hO (by have:=inssV_len c;rw [cW] at this;exact this) rfl bU rfl (by repeat' (first|refine bT ?_ ?_|rfl|exact bU)) rfl rfl fun b o v g1 _ hO3 hv=>cD ⟨r.ex.length-(k+1),by omega,k+1,vs++[v],withBlock H b o,by omega,rfl,hO3,GR.mono (cJ g1),?_,.inr ⟨by omega,?_⟩⟩
            · rw [take_snoc hc]
              exact (GF.mono (cJ g1)).push (ins_leads hv hI.small)
            · rw [dH]
              rfl
          obtain ⟨x,hx⟩:∃ x,c[n]? = some x:=⟨_,cX hnl⟩
          obtain ⟨xb,xo,xarr,xel,xfr,rfl,hxX,hxz,hxc,_⟩:=hI.at hx
          have hxJ:=joinM_has hO hxX
          have hxo:xo+Int.toNat (n:Int)*6=xo+n*6:=by simp
          have hadd:IntKind.i64.wrap ((n:Int)+1)=((n+1:Nat):Int):=by rw [cH (by omega)];omega
          have hcl:=inssV_len (c.take n)
          rw [cZ,Nat.min_eq_left hn] at hcl
          have hnc:=inssV_snoc (c.take n) x (cs:=[.val (.int .i64 x.op),.val (.int .i64 x.a),.val (.int .i64 x.b),.val (.bool x.k.1),.val (.int .u64 (x.k.2/18446744073709551616)),.val (.int .u64 (x.k.2%18446744073709551616))]) rfl
          rw [← take_snoc hx] at hnc
          (refine aA<|aA<|rgN<|kmv O<|kfa O O ?_;refine kl1 O O O<|kmv O<|aR O O cC (by omega) hio dR<|bH O O dR ?_;refine aW O hXJ O g3 dR<|kmv O<|aR O O cC (by omega) hio3 dR<|aW O hEJ O hec dR<|aQ O cC O dR ?_;refine klt O O (cP (by omega))<|aB<|aE O ?_;refine aH ?_;refine aA<|aG<|aA<|rgN<|kfa O O ?_;refine kl1 O O O<|kmv O<|aR O O cC (by omega) hio dR<|bH O O dR ?_;refine aW O hXJ O g3 dR<|kmv O<|aR O O cC (by omega) hio3 dR<|aW O hEJ O hec dR<|kmv O<|aR O O cC (by omega) hxo dR<|aY O hxJ (by kernel_rfl) hxz hxc dR<|aP O dR ?_;refine aM O O O O O O dR ?_;refine aB<|rgN<|kmv O<|kfa O O ?_;refine kl1 O O O<|kfa O O ?_;refine kl1 O O O<|kfa O O ?_;refine kl1 O O O<|kfa O O ?_;refine bJ O O O (by exact nl3 O O O O) dR ?_;refine aT O O (by exact O) (by exact nl6 O O O O O O O) dR ?_;refine aZ (zs:=[.int .i64 0,.int .i64 0,.int .i64 0,.bool false,.int .u64 0,.int .u64 0]) (sz:=6) (e:=70) (cs':=[.val (.int .i64 x.op),.val (.int .i64 x.a),.val (.int .i64 x.b),.val (.bool x.k.1),.val (.int .u64 (x.k.2/18446744073709551616)),.val (.int .u64 (x.k.2%18446744073709551616))]) (by kernel_rfl) O O O O O O dR<|bQ (by_:=48) (e2:=70) (l2:=[.val (.int .i64 x.op),.val (.int .i64 x.a),.val (.int .i64 x.b),.val (.bool x.k.1),.val (.int .u64 (x.k.2/18446744073709551616)),.val (.int .u64 (x.k.2%18446744073709551616))]) (nl:=n+1) (nc:=(inssV (c.take (n+1))).map .val) O O hcl O O (dN _) O O (by kernel_rfl) (by kernel_rfl) (by omega) (by omega) O O hnc dR<|kas O<|aB<|rgN<|kmv O<|kad O O hadd<|kas O<|aB ?_)
          exact ⟨_,⟨[(1,Lp 1),(2,Lp 2),(3,Lp 3),(4,Ln .i64 (i:Nat)),(5,Lp 5),(6,Ln .i64 (k:Nat)),(7,.sv (.one (.slc 500 0 (n+1) 6))),(8,Ln .i64 (n+1:Nat))],[(500,some ⟨70,(inssV (c.take (n+1))).map .val,Nat.blt 0 (n+1)⟩),(601,some ⟨69,(vs).map .val,true⟩),(5,some ⟨51,[.val (.int .i64 r.nw),.val (.int .i64 r.old),.slc 601 0 (k) 1],false⟩),v3B 29 3 va vb none 0 0,v3B 29 2 0 0 none 0 0,v3B 24 1 va vb (some ⟨blk,off,none⟩) rs.length cap],joinM X H⟩,by omega,Le.ofR [(500,84)] (by exact ⟨rfl,rfl,rfl,rfl,rfl,rfl,rfl,rfl,trivial⟩) (by repeat' (first|exact trivial|refine cQ ⟨_,rfl,?_⟩ ?_|refine cQ ⟨_,rfl⟩ ?_|rfl|exact bX _ _ _ _|exact bY _ _ _ _|exact bZ rfl)) (by exact rfl) (by exact rfl) (by repeat' (first|refine bT ?_ ?_|rfl|exact bV|exact bU|exact bW rfl)) (by exact rfl) (by exact rfl),n+1,by omega,rfl,rfl⟩
  · as_aux_lemma =>
      by_cases hlt:i<rs.length
      case neg =>
        have hie:i=rs.length:=by omega
        subst hie
        rw [dF] at GR ⊢
        (refine aA<|aA<|rgN<|kmv O<|kfa O O ?_;refine kl1 O O O<|aQ O cC O dR ?_;refine klt O O (cO (by omega))<|aB<|aF O ?_;refine aJ<|aA<|rgN<|aK O O O dR ?_;refine aM O O O O O O dR ?_;refine aB<|aI ?_)
        refine cE (σ':=⟨[(2,Lp 2)],[(600,some ⟨51,(rwZ rs ws).map .val,true⟩),(2,some ⟨29,[.val (.int .i64 va),.val (.int .i64 vb),.slc 600 0 rs.length 3],false⟩)],joinM X H⟩) (Le.of (by exact ⟨O,trivial⟩) (by exact ⟨O,O,trivial⟩) (by exact O) (by exact O) (by repeat' (first|refine bT ?_ ?_|rfl|exact bV|exact bU|exact bW O))) ?_
        refine Leads.spare fun sp=>rl_shut hO GR hsm (cD ?_)
        exact ⟨[(1000001,600)],⟨[_],⟨⟨_,_,rfl,rfl,rfl,.inl ⟨AggT.h,rfl⟩⟩,trivial⟩,rfl⟩,(by repeat' (first|exact trivial|refine cQ ⟨_,rfl,?_⟩ ?_|refine cQ ⟨_,rfl⟩ ?_|rfl|exact bX _ _ _ _|exact bY _ _ _ _|exact bZ rfl)),rfl,rfl⟩
      obtain ⟨r,hr⟩:∃ r,rs[i]? = some r:=⟨_,cX hlt⟩
      obtain ⟨blk,off,arr,el,fr,ead,ecap,rfl,hX,hsiz,hcs,g1,g2,g3,hE⟩:=hin.get hr
      have hXJ:=joinM_has hO hX
      have hio:off+Int.toNat (i:Int)*3=off+i*3:=by simp
      have h12:=hg.2 r (dD hr)
      (refine aA<|aA<|rgN<|kmv O<|kfa O O ?_;refine kl1 O O O<|aQ O cC O dR ?_;refine klt O O (cP (by omega))<|aB<|aE O ?_;refine aH ?_;refine aA<|aG<|aA<|rgD mixed<|kfa O O ?_;refine kl1 O O O<|kmv O<|aR O O cC (by omega) hio dR<|bH O O dR ?_;refine aW O hXJ O g1 dR<|kfa O O ?_;refine kl1 O O O<|kmv O<|aR O O cC (by omega) hio dR<|bH O O dR ?_;refine aW O hXJ O g2 dR<|aT O O (by exact O) (by exact nl3 O O O O) dR ?_;refine aP O dR ?_;refine aM O O O O O O dR ?_;refine aB<|rgA ?_;refine aA<|aA<|rgN<|kas O<|aB<|aG ?_)
      refine cM (fun m σ=>∃ (k:Nat) (vs:List Value) (H:Nat→Option Obj),k≤r.ex.length∧m=r.ex.length-k∧OwnedM C X H∧RulesH H ws (rs.take i)∧FormsH H vs (r.ex.take k)∧((k=0∧σ=⟨[(1,Lp 1),(2,Lp 2),(3,Lp 3),(4,Ln .i64 (i:Nat)),(5,Lp 5),(6,Ln .i64 (k:Nat))],[v3B 51 5 r.nw r.old none 0 0,(600,some ⟨51,(rwZ (rs.take i) ws).map .val,true⟩),(3,some ⟨29,[.val (.int .i64 va),.val (.int .i64 vb),.slc 600 0 (i) 3],false⟩),v3B 29 2 0 0 none 0 0,v3B 24 1 va vb (some ⟨blk,off,none⟩) rs.length cap],joinM X H⟩)∨(0<k∧σ=⟨[(1,Lp 1),(2,Lp 2),(3,Lp 3),(4,Ln .i64 (i:Nat)),(5,Lp 5),(6,Ln .i64 (k:Nat))],[(601,some ⟨69,(vs).map .val,true⟩),(5,some ⟨51,[.val (.int .i64 r.nw),.val (.int .i64 r.old),.slc 601 0 (k) 1],false⟩),(600,some ⟨51,(rwZ (rs.take i) ws).map .val,true⟩),(3,some ⟨29,[.val (.int .i64 va),.val (.int .i64 vb),.slc 600 0 (i) 3],false⟩),v3B 29 2 0 0 none 0 0,v3B 24 1 va vb (some ⟨blk,off,none⟩) rs.length cap],joinM X H⟩))) r.ex.length
        (cE (σ':=⟨[(1,Lp 1),(2,Lp 2),(3,Lp 3),(4,Ln .i64 (i:Nat)),(5,Lp 5),(6,Ln .i64 (0:Nat))],[v3B 51 5 r.nw r.old none 0 0,(600,some ⟨51,(rwZ (rs.take i) ws).map .val,true⟩),(3,some ⟨29,[.val (.int .i64 va),.val (.int .i64 vb),.slc 600 0 (i) 3],false⟩),v3B 29 2 0 0 none 0 0,v3B 24 1 va vb (some ⟨blk,off,none⟩) rs.length cap],joinM X H⟩) (Le.of (by exact ⟨rfl,rfl,rfl,rfl,rfl,rfl,trivial⟩) (by exact ⟨rfl,rfl,rfl,rfl,rfl,trivial⟩) (by exact rfl) (by exact rfl) (by repeat' (first|refine bT ?_ ?_|rfl|exact bV|exact bU|exact bW rfl))) (cD ⟨0,[],H,by omega,by omega,hO,GR,FormsH.nil,.inl ⟨rfl,rfl⟩⟩)) ?_
      clear hXJ hO GR
      clear H
      rintro m σ ⟨k,vs,H,hk,rfl,hO,GR,GF,hst⟩
      have hXJ:=joinM_has hO hX
      rcases hst with ⟨hk0,rfl⟩|⟨hk0,rfl⟩
      · as_aux_lemma =>
          by_cases hkl:k<r.ex.length
          case neg =>
            have hke:k=r.ex.length:=by omega
            subst hke
            rw [dF] at GF
            have hwl:=GR.len
            have hrl:((rwZ (rs.take i) ws).map CV.val).length=i*3:=by rw [cW,rwZ_len hwl,cZ];omega
            have hadd:IntKind.i64.wrap ((i:Int)+1)=((i+1:Nat):Int):=by rw [cH (by omega)];omega
            have hnc3:(rwZ (rs.take i) ws).map CV.val++[.val (.int .i64 r.nw),.val (.int .i64 r.old),.val (.slice none 0 0)]=(rwZ (rs.take i++[r]) (ws++[.slice none 0 0])).map .val:=by
              rw [rwZ_add hwl];simp
            (refine aA<|aA<|rgN<|kmv O<|kfa O O ?_;refine kl1 O O O<|kmv O<|aR O O cC (by omega) hio dR<|bH O O dR ?_;refine aW O hXJ O g3 dR<|aQ O cC O dR ?_;refine klt O O (cO (by omega))<|aB<|aF O ?_;refine aJ<|rgN<|kfa O O ?_;refine kl1 O O O<|aK O O O dR ?_;refine aZ (zs:=[.int .i64 0,.int .i64 0,.slice none 0 0]) (sz:=3) (e:=51) (cs':=[.val (.int .i64 r.nw),.val (.int .i64 r.old),.val (.slice none 0 0)]) (by kernel_rfl) O O O O O O dR<|bQ (by_:=40) (e2:=51) (l2:=[.val (.int .i64 r.nw),.val (.int .i64 r.old),.val (.slice none 0 0)]) (nl:=i+1) (nc:=(rwZ (rs.take i++[r]) (ws++[.slice none 0 0])).map .val) O O hrl O O (dN _) O O (by kernel_rfl) (by kernel_rfl) (by omega) (by omega) O O hnc3 dR<|kfa O O ?_;refine bG O O O O O (nl3 O O O O) dR<|aB<|rgN<|kmv O<|kad O O hadd<|kas O<|aB ?_)
            refine cE (σ':=⟨[(1,Lp 1),(2,Lp 2),(3,Lp 3),(4,Ln .i64 (i+1:Nat))],[(600,some ⟨51,(rwZ (rs.take (i+1)) (ws++[.slice none 0 0])).map .val,true⟩),(3,some ⟨29,[.val (.int .i64 va),.val (.int .i64 vb),.slc 600 0 (i+1) 3],false⟩),v3B 29 2 0 0 none 0 0,v3B 24 1 va vb (some ⟨blk,off,none⟩) rs.length cap],joinM X H⟩) ?_ (cD ⟨rs.length-(i+1),by omega,i+1,ws++[.slice none 0 0],H,by omega,O,hO,?_,.inr ⟨by omega,O⟩⟩)
            · rw [take_snoc hr]
              exact Le.ofR [(600,95)] (by exact ⟨rfl,rfl,rfl,rfl,trivial⟩) (by repeat' (first|exact trivial|refine cQ ⟨_,rfl,?_⟩ ?_|refine cQ ⟨_,rfl⟩ ?_|rfl|exact bX _ _ _ _|exact bY _ _ _ _|exact bZ rfl)) (by exact rfl) (by exact rfl) (by repeat' (first|refine bT ?_ ?_|rfl|exact bV|exact bU|exact bW rfl)) (by exact rfl) (by exact rfl)
            · rw [take_snoc hr]
              exact GR.push (by rw [show r.ex=[] from List.eq_nil_of_length_eq_zero (by omega)];exact CodesIn.nilIn)
          obtain ⟨c,hc⟩:∃ c,r.ex[k]? = some c:=⟨_,cX hkl⟩
          obtain ⟨eb,eo,earr,eel,efr,vad,vcap,rfl,hEX,hec,hI⟩:=hE.get hc
          have hEJ:=joinM_has hO hEX
          have hio3:eo+Int.toNat (k:Int)*1=eo+k*1:=by simp
          have h80:=h12.2 c (dD hc)
          have hvk:=GF.len
          rw [cZ] at hvk
          have hvl:(vs.map CV.val).length=k*1:=by rw [cW];omega
          subst hk0
          (refine aA<|aA<|rgN<|kmv O<|kfa O O ?_;refine kl1 O O O<|kmv O<|aR O O cC (by omega) hio dR<|bH O O dR ?_;refine aW O hXJ O g3 dR<|aQ O cC O dR ?_;refine klt O O (cP (by omega))<|aB<|aE O ?_;refine aH ?_;refine aA<|aG<|aA<|rgN<|aZ (zs:=[]) (sz:=6) (e:=70) (by kernel_rfl) O O O O O O dR<|kas O<|aB<|aA<|aA<|rgN<|kas O<|aB<|aG ?_)
          refine cL (fun m σ=>∃ n:Nat,n≤c.length∧m=c.length-n∧σ=⟨[(1,Lp 1),(2,Lp 2),(3,Lp 3),(4,Ln .i64 (i:Nat)),(5,Lp 5),(6,Ln .i64 (0:Nat)),(7,.sv (.one (.slc 500 0 (n) 6))),(8,Ln .i64 (n:Nat))],[(500,some ⟨70,(inssV (c.take (n))).map .val,Nat.blt 0 (n)⟩),v3B 51 5 r.nw r.old none 0 0,(600,some ⟨51,(rwZ (rs.take i) ws).map .val,true⟩),(3,some ⟨29,[.val (.int .i64 va),.val (.int .i64 vb),.slc 600 0 (i) 3],false⟩),v3B 29 2 0 0 none 0 0,v3B 24 1 va vb (some ⟨blk,off,none⟩) rs.length cap],joinM X H⟩) c.length
            ⟨⟨[(1,Lp 1),(2,Lp 2),(3,Lp 3),(4,Ln .i64 (i:Nat)),(5,Lp 5),(6,Ln .i64 (0:Nat)),(7,.sv (.one (.slc 500 0 (0) 6))),(8,Ln .i64 (0:Nat))],[(500,some ⟨70,(inssV (c.take (0))).map .val,Nat.blt 0 (0)⟩),v3B 51 5 r.nw r.old none 0 0,(600,some ⟨51,(rwZ (rs.take i) ws).map .val,true⟩),(3,some ⟨29,[.val (.int .i64 va),.val (.int .i64 vb),.slc 600 0 (i) 3],false⟩),v3B 29 2 0 0 none 0 0,v3B 24 1 va vb (some ⟨blk,off,none⟩) rs.length cap],joinM X H⟩,Le.ofR [(500,46)] (by exact ⟨rfl,rfl,rfl,rfl,rfl,rfl,rfl,rfl,trivial⟩) (by repeat' (first|exact trivial|refine cQ ⟨_,rfl,?_⟩ ?_|refine cQ ⟨_,rfl⟩ ?_|rfl|exact bX _ _ _ _|exact bY _ _ _ _|exact bZ rfl)) (by exact rfl) (by exact rfl) (by repeat' (first|refine bT ?_ ?_|rfl|exact bV|exact bU|exact bW rfl)) (by exact rfl) (by exact rfl),0,by omega,by omega,rfl⟩ ?_
          rintro m σ ⟨n,hn,rfl,rfl⟩
          by_cases hnl:n<c.length
          case neg =>
            have e:n=c.length:=by omega
            subst e
            have hadd:IntKind.i64.wrap (((0:Nat):Int)+1)=((0+1:Nat):Int):=rfl
            (refine aA<|aA<|rgN<|kmv O<|kfa O O ?_;refine kl1 O O O<|kmv O<|aR O O cC (by omega) hio dR<|bH O O dR ?_;refine aW O hXJ O g3 dR<|kmv O<|aR O O cC (by omega) hio3 dR<|aW O hEJ O hec dR<|aQ O cC O dR ?_;refine klt O O (cO (by omega))<|aB<|aF O ?_;refine aJ<|rgN<|kfa O O ?_;refine kl1 O O O<|kmv O<|aZ (zs:=[.slice none 0 0]) (sz:=1) (e:=69) (cs':=[.slc 500 0 c.length 6]) (by kernel_rfl) O O O O O O dR<|K.appendNil (by_:=24) (e:=69) (e2:=69) (l2:=[.slc 500 0 c.length 6]) O O O (dN _) O O (by decide) (by kernel_rfl) (by kernel_rfl) (by omega) (by omega) O dR ?_;refine kfa O O ?_;refine bG O O O O O (nl3 O O O O) dR<|aB<|rgN<|kmv O<|kad O O hadd<|kas O<|aB ?_)
            refine cE (σ':=⟨[(1,Lp 1),(2,Lp 2),(3,Lp 3),(4,Ln .i64 (i:Nat)),(5,Lp 5),(6,Ln .i64 (0+1:Nat))],[(601,some ⟨69,vs.map .val ++ .slc 500 0 c.length 6::([]:List Value).map .val,true⟩),(500,some ⟨70,(inssV c).map .val,Nat.blt 0 c.length⟩),(5,some ⟨51,[.val (.int .i64 r.nw),.val (.int .i64 r.old),.slc 601 0 (0+1) 1],false⟩),(600,some ⟨51,(rwZ (rs.take i) ws).map .val,true⟩),(3,some ⟨29,[.val (.int .i64 va),.val (.int .i64 vb),.slc 600 0 (i) 3],false⟩),v3B 29 2 0 0 none 0 0,v3B 24 1 va vb (some ⟨blk,off,none⟩) rs.length cap],joinM X H⟩) ?_ ?_
            · rw [dF]
              rw [show vs=[] from List.eq_nil_of_length_eq_zero (by omega)]
              exact Le.ofR [(601,89)] (by exact ⟨rfl,rfl,rfl,rfl,rfl,rfl,trivial⟩) (by repeat' (first|exact trivial|refine cQ ⟨_,rfl,?_⟩ ?_|refine cQ ⟨_,rfl⟩ ?_|rfl|exact bX _ _ _ _|exact bY _ _ _ _|exact bZ rfl)) (by exact rfl) (by exact rfl) (by repeat' (first|refine bT ?_ ?_|rfl|exact bV|exact bU|exact bW rfl)) (by exact rfl) (by exact rfl)
            refine Leads.closeCell hO (by have:=inssV_len c;rw [cW] at this;exact this) rfl bU rfl (by repeat' (first|refine bT ?_ ?_|rfl|exact bU)) rfl rfl fun b o v g1 _ hO3 hv=>cD ⟨r.ex.length-(0+1),by omega,0+1,vs++[v],withBlock H b o,by omega,rfl,hO3,GR.mono (cJ g1),?_,.inr ⟨by omega,?_⟩⟩
            · rw [take_snoc hc]
              exact (GF.mono (cJ g1)).push (ins_leads hv hI.small)
            · rw [dH]
              rfl
          obtain ⟨x,hx⟩:∃ x,c[n]? = some x:=⟨_,cX hnl⟩
          obtain ⟨xb,xo,xarr,xel,xfr,rfl,hxX,hxz,hxc,_⟩:=hI.at hx
          have hxJ:=joinM_has hO hxX
          have hxo:xo+Int.toNat (n:Int)*6=xo+n*6:=by simp
          have hadd:IntKind.i64.wrap ((n:Int)+1)=((n+1:Nat):Int):=by rw [cH (by omega)];omega
          have hcl:=inssV_len (c.take n)
          rw [cZ,Nat.min_eq_left hn] at hcl
          have hnc:=inssV_snoc (c.take n) x (cs:=[.val (.int .i64 x.op),.val (.int .i64 x.a),.val (.int .i64 x.b),.val (.bool x.k.1),.val (.int .u64 (x.k.2/18446744073709551616)),.val (.int .u64 (x.k.2%18446744073709551616))]) rfl
          rw [← take_snoc hx] at hnc
          (refine aA<|aA<|rgN<|kmv O<|kfa O O ?_;refine kl1 O O O<|kmv O<|aR O O cC (by omega) hio dR<|bH O O dR ?_;refine aW O hXJ O g3 dR<|kmv O<|aR O O cC (by omega) hio3 dR<|aW O hEJ O hec dR<|aQ O cC O dR ?_;refine klt O O (cP (by omega))<|aB<|aE O ?_;refine aH ?_;refine aA<|aG<|aA<|rgN<|kfa O O ?_;refine kl1 O O O<|kmv O<|aR O O cC (by omega) hio dR<|bH O O dR ?_;refine aW O hXJ O g3 dR<|kmv O<|aR O O cC (by omega) hio3 dR<|aW O hEJ O hec dR<|kmv O<|aR O O cC (by omega) hxo dR<|aY O hxJ (by kernel_rfl) hxz hxc dR<|aP O dR ?_;refine aM O O O O O O dR ?_;refine aB<|rgN<|kmv O<|kfa O O ?_;refine kl1 O O O<|kfa O O ?_;refine kl1 O O O<|kfa O O ?_;refine kl1 O O O<|kfa O O ?_;refine bJ O O O (by exact nl3 O O O O) dR ?_;refine aT O O (by exact O) (by exact nl6 O O O O O O O) dR ?_;refine aZ (zs:=[.int .i64 0,.int .i64 0,.int .i64 0,.bool false,.int .u64 0,.int .u64 0]) (sz:=6) (e:=70) (cs':=[.val (.int .i64 x.op),.val (.int .i64 x.a),.val (.int .i64 x.b),.val (.bool x.k.1),.val (.int .u64 (x.k.2/18446744073709551616)),.val (.int .u64 (x.k.2%18446744073709551616))]) (by kernel_rfl) O O O O O O dR<|bQ (by_:=48) (e2:=70) (l2:=[.val (.int .i64 x.op),.val (.int .i64 x.a),.val (.int .i64 x.b),.val (.bool x.k.1),.val (.int .u64 (x.k.2/18446744073709551616)),.val (.int .u64 (x.k.2%18446744073709551616))]) (nl:=n+1) (nc:=(inssV (c.take (n+1))).map .val) O O hcl O O (dN _) O O (by kernel_rfl) (by kernel_rfl) (by omega) (by omega) O O hnc dR<|kas O<|aB<|rgN<|kmv O<|kad O O hadd<|kas O<|aB ?_)
          exact ⟨_,⟨[(1,Lp 1),(2,Lp 2),(3,Lp 3),(4,Ln .i64 (i:Nat)),(5,Lp 5),(6,Ln .i64 (0:Nat)),(7,.sv (.one (.slc 500 0 (n+1) 6))),(8,Ln .i64 (n+1:Nat))],[(500,some ⟨70,(inssV (c.take (n+1))).map .val,Nat.blt 0 (n+1)⟩),v3B 51 5 r.nw r.old none 0 0,(600,some ⟨51,(rwZ (rs.take i) ws).map .val,true⟩),(3,some ⟨29,[.val (.int .i64 va),.val (.int .i64 vb),.slc 600 0 (i) 3],false⟩),v3B 29 2 0 0 none 0 0,v3B 24 1 va vb (some ⟨blk,off,none⟩) rs.length cap],joinM X H⟩,by omega,Le.ofR [(500,84)] (by exact ⟨rfl,rfl,rfl,rfl,rfl,rfl,rfl,rfl,trivial⟩) (by repeat' (first|exact trivial|refine cQ ⟨_,rfl,?_⟩ ?_|refine cQ ⟨_,rfl⟩ ?_|rfl|exact bX _ _ _ _|exact bY _ _ _ _|exact bZ rfl)) (by exact rfl) (by exact rfl) (by repeat' (first|refine bT ?_ ?_|rfl|exact bV|exact bU|exact bW rfl)) (by exact rfl) (by exact rfl),n+1,by omega,rfl,rfl⟩
      · as_aux_lemma =>
          by_cases hkl:k<r.ex.length
          case neg =>
            have hke:k=r.ex.length:=by omega
            subst hke
            rw [dF] at GF
            have hwl:=GR.len
            have hrl:((rwZ (rs.take i) ws).map CV.val).length=i*3:=by rw [cW,rwZ_len hwl,cZ];omega
            have hadd:IntKind.i64.wrap ((i:Int)+1)=((i+1:Nat):Int):=by rw [cH (by omega)];omega
            have hnc3:(rwZ (rs.take i) ws).map CV.val++[.val (.int .i64 r.nw),.val (.int .i64 r.old),.slc 601 0 r.ex.length 1]=(rwZ (rs.take i) ws++[Value.int .i64 r.nw,Value.int .i64 r.old]).map .val ++ .slc 601 0 r.ex.length 1::([]:List Value).map .val:=by
              simp
            (refine aA<|aA<|rgN<|kmv O<|kfa O O ?_;refine kl1 O O O<|kmv O<|aR O O cC (by omega) hio dR<|bH O O dR ?_;refine aW O hXJ O g3 dR<|aQ O cC O dR ?_;refine klt O O (cO (by omega))<|aB<|aF O ?_;refine aJ<|rgN<|kfa O O ?_;refine kl1 O O O<|aK O O O dR ?_;refine aZ (zs:=[.int .i64 0,.int .i64 0,.slice none 0 0]) (sz:=3) (e:=51) (cs':=[.val (.int .i64 r.nw),.val (.int .i64 r.old),.slc 601 0 r.ex.length 1]) (by kernel_rfl) O O O O O O dR<|bQ (by_:=40) (e2:=51) (l2:=[.val (.int .i64 r.nw),.val (.int .i64 r.old),.slc 601 0 r.ex.length 1]) (nl:=i+1) (nc:=(rwZ (rs.take i) ws++[Value.int .i64 r.nw,Value.int .i64 r.old]).map .val ++ .slc 601 0 r.ex.length 1::([]:List Value).map .val) O O hrl O O (dN _) O O (by kernel_rfl) (by kernel_rfl) (by omega) (by omega) O O hnc3 dR<|kfa O O ?_;refine bG O O O O O (nl3 O O O O) dR<|aB<|rgN<|kmv O<|kad O O hadd<|kas O<|aB ?_)
            refine cE (σ':=⟨[(1,Lp 1),(2,Lp 2),(3,Lp 3),(4,Ln .i64 (i+1:Nat))],[(600,some ⟨51,(rwZ (rs.take i) ws++[Value.int .i64 r.nw,Value.int .i64 r.old]).map .val ++ .slc 601 0 r.ex.length 1::([]:List Value).map .val,true⟩),(601,some ⟨69,vs.map .val,true⟩),(3,some ⟨29,[.val (.int .i64 va),.val (.int .i64 vb),.slc 600 0 (i+1) 3],false⟩),v3B 29 2 0 0 none 0 0,v3B 24 1 va vb (some ⟨blk,off,none⟩) rs.length cap],joinM X H⟩) ?_ ?_
            · exact Le.ofR [(600,95)] (by exact ⟨rfl,rfl,rfl,rfl,trivial⟩) (by repeat' (first|exact trivial|refine cQ ⟨_,rfl,?_⟩ ?_|refine cQ ⟨_,rfl⟩ ?_|rfl|exact bX _ _ _ _|exact bY _ _ _ _|exact bZ rfl)) (by exact rfl) (by exact rfl) (by repeat' (first|refine bT ?_ ?_|rfl|exact bV|exact bU|exact bW rfl)) (by exact rfl) (by exact rfl)
            refine Leads.closeCell hO (by have:=GF.len;omega) O bU O (by repeat' (first|refine bT ?_ ?_|rfl|exact bU)) O O fun b o v g1 _ hO3 hv=>cD ⟨rs.length-(i+1),by omega,i+1,ws++[v],withBlock H b o,by omega,O,hO3,?_,.inr ⟨by omega,?_⟩⟩
            · rw [take_snoc hr]
              exact (GR.mono (cJ g1)).push (codes_leads hv (GF.mono (cJ g1)))
            · rw [take_snoc hr,rwZ_add hwl]
              simp
          obtain ⟨c,hc⟩:∃ c,r.ex[k]? = some c:=⟨_,cX hkl⟩
          obtain ⟨eb,eo,earr,eel,efr,vad,vcap,rfl,hEX,hec,hI⟩:=hE.get hc
          have hEJ:=joinM_has hO hEX
          have hio3:eo+Int.toNat (k:Int)*1=eo+k*1:=by simp
          have h80:=h12.2 c (dD hc)
          have hvk:=GF.len
          rw [cZ] at hvk
          have hvl:(vs.map CV.val).length=k*1:=by rw [cW];omega
          (refine aA<|aA<|rgN<|kmv O<|kfa O O ?_;refine kl1 O O O<|kmv O<|aR O O cC (by omega) hio dR<|bH O O dR ?_;refine aW O hXJ O g3 dR<|aQ O cC O dR ?_;refine klt O O (cP (by omega))<|aB<|aE O ?_;refine aH ?_;refine aA<|aG<|aA<|rgN<|aZ (zs:=[]) (sz:=6) (e:=70) (by kernel_rfl) O O O O O O dR<|kas O<|aB<|aA<|aA<|rgN<|kas O<|aB<|aG ?_)
          refine cL (fun m σ=>∃ n:Nat,n≤c.length∧m=c.length-n∧σ=⟨[(1,Lp 1),(2,Lp 2),(3,Lp 3),(4,Ln .i64 (i:Nat)),(5,Lp 5),(6,Ln .i64 (k:Nat)),(7,.sv (.one (.slc 500 0 (n) 6))),(8,Ln .i64 (n:Nat))],[(500,some ⟨70,(inssV (c.take (n))).map .val,Nat.blt 0 (n)⟩),(601,some ⟨69,(vs).map .val,true⟩),(5,some ⟨51,[.val (.int .i64 r.nw),.val (.int .i64 r.old),.slc 601 0 (k) 1],false⟩),(600,some ⟨51,(rwZ (rs.take i) ws).map .val,true⟩),(3,some ⟨29,[.val (.int .i64 va),.val (.int .i64 vb),.slc 600 0 (i) 3],false⟩),v3B 29 2 0 0 none 0 0,v3B 24 1 va vb (some ⟨blk,off,none⟩) rs.length cap],joinM X H⟩) c.length
            ⟨⟨[(1,Lp 1),(2,Lp 2),(3,Lp 3),(4,Ln .i64 (i:Nat)),(5,Lp 5),(6,Ln .i64 (k:Nat)),(7,.sv (.one (.slc 500 0 (0) 6))),(8,Ln .i64 (0:Nat))],[(500,some ⟨70,(inssV (c.take (0))).map .val,Nat.blt 0 (0)⟩),(601,some ⟨69,(vs).map .val,true⟩),(5,some ⟨51,[.val (.int .i64 r.nw),.val (.int .i64 r.old),.slc 601 0 (k) 1],false⟩),(600,some ⟨51,(rwZ (rs.take i) ws).map .val,true⟩),(3,some ⟨29,[.val (.int .i64 va),.val (.int .i64 vb),.slc 600 0 (i) 3],false⟩),v3B 29 2 0 0 none 0 0,v3B 24 1 va vb (some ⟨blk,off,none⟩) rs.length cap],joinM X H⟩,Le.ofR [(500,46)] (by exact ⟨rfl,rfl,rfl,rfl,rfl,rfl,rfl,rfl,trivial⟩) (by repeat' (first|exact trivial|refine cQ ⟨_,rfl,?_⟩ ?_|refine cQ ⟨_,rfl⟩ ?_|rfl|exact bX _ _ _ _|exact bY _ _ _ _|exact bZ rfl)) (by exact rfl) (by exact rfl) (by repeat' (first|refine bT ?_ ?_|rfl|exact bV|exact bU|exact bW rfl)) (by exact rfl) (by exact rfl),0,by omega,by omega,rfl⟩ ?_
          rintro m σ ⟨n,hn,rfl,rfl⟩
          by_cases hnl:n<c.length
          case neg =>
            have e:n=c.length:=by omega
            subst e
            have hadd:IntKind.i64.wrap ((k:Int)+1)=((k+1:Nat):Int):=by rw [cH (by omega)];omega
            (refine aA<|aA<|rgN<|kmv O<|kfa O O ?_;refine kl1 O O O<|kmv O<|aR O O cC (by omega) hio dR<|bH O O dR ?_;refine aW O hXJ O g3 dR<|kmv O<|aR O O cC (by omega) hio3 dR<|aW O hEJ O hec dR<|aQ O cC O dR ?_;refine klt O O (cO (by omega))<|aB<|aF O ?_;refine aJ<|rgN<|kfa O O ?_;refine kl1 O O O<|kmv O<|aZ (zs:=[.slice none 0 0]) (sz:=1) (e:=69) (cs':=[.slc 500 0 c.length 6]) (by kernel_rfl) O O O O O O dR<|bQ (by_:=24) (e2:=69) (l2:=[.slc 500 0 c.length 6]) (nl:=k+1) (nc:=vs.map .val++[.slc 500 0 c.length 6]) O O hvl O O (dN _) O O (by kernel_rfl) (by kernel_rfl) (by omega) (by omega) O O O dR<|kfa O O ?_;refine bG O O O O O (nl3 O O O O) dR<|aB<|rgN<|kmv O<|kad O O hadd<|kas O<|aB ?_)
            refine cE (σ':=⟨[(1,Lp 1),(2,Lp 2),(3,Lp 3),(4,Ln .i64 (i:Nat)),(5,Lp 5),(6,Ln .i64 (k+1:Nat))],[(601,some ⟨69,vs.map .val ++ .slc 500 0 c.length 6::([]:List Value).map .val,true⟩),(500,some ⟨70,(inssV c).map .val,Nat.blt 0 c.length⟩),(5,some ⟨51,[.val (.int .i64 r.nw),.val (.int .i64 r.old),.slc 601 0 (k+1) 1],false⟩),(600,some ⟨51,(rwZ (rs.take i) ws).map .val,true⟩),(3,some ⟨29,[.val (.int .i64 va),.val (.int .i64 vb),.slc 600 0 (i) 3],false⟩),v3B 29 2 0 0 none 0 0,v3B 24 1 va vb (some ⟨blk,off,none⟩) rs.length cap],joinM X H⟩) ?_ ?_
            · rw [dF]
              exact Le.ofR [(601,89)] (by exact ⟨rfl,rfl,rfl,rfl,rfl,rfl,trivial⟩) (by repeat' (first|exact trivial|refine cQ ⟨_,rfl,?_⟩ ?_|refine cQ ⟨_,rfl⟩ ?_|rfl|exact bX _ _ _ _|exact bY _ _ _ _|exact bZ rfl)) (by exact rfl) (by exact rfl) (by repeat' (first|refine bT ?_ ?_|rfl|exact bV|exact bU|exact bW rfl)) (by exact rfl) (by exact rfl)
            refine Leads.closeCell hO (by have:=inssV_len c;rw [cW] at this;exact this) rfl bU rfl (by repeat' (first|refine bT ?_ ?_|rfl|exact bU)) rfl rfl fun b o v g1 _ hO3 hv=>cD ⟨r.ex.length-(k+1),by omega,k+1,vs++[v],withBlock H b o,by omega,rfl,hO3,GR.mono (cJ g1),?_,.inr ⟨by omega,?_⟩⟩
            · rw [take_snoc hc]
              exact (GF.mono (cJ g1)).push (ins_leads hv hI.small)
            · rw [dH]
              rfl
          obtain ⟨x,hx⟩:∃ x,c[n]? = some x:=⟨_,cX hnl⟩
          obtain ⟨xb,xo,xarr,xel,xfr,rfl,hxX,hxz,hxc,_⟩:=hI.at hx
          have hxJ:=joinM_has hO hxX
          have hxo:xo+Int.toNat (n:Int)*6=xo+n*6:=by simp
          have hadd:IntKind.i64.wrap ((n:Int)+1)=((n+1:Nat):Int):=by rw [cH (by omega)];omega
          have hcl:=inssV_len (c.take n)
          rw [cZ,Nat.min_eq_left hn] at hcl
          have hnc:=inssV_snoc (c.take n) x (cs:=[.val (.int .i64 x.op),.val (.int .i64 x.a),.val (.int .i64 x.b),.val (.bool x.k.1),.val (.int .u64 (x.k.2/18446744073709551616)),.val (.int .u64 (x.k.2%18446744073709551616))]) rfl
          rw [← take_snoc hx] at hnc
          (refine aA<|aA<|rgN<|kmv O<|kfa O O ?_;refine kl1 O O O<|kmv O<|aR O O cC (by omega) hio dR<|bH O O dR ?_;refine aW O hXJ O g3 dR<|kmv O<|aR O O cC (by omega) hio3 dR<|aW O hEJ O hec dR<|aQ O cC O dR ?_;refine klt O O (cP (by omega))<|aB<|aE O ?_;refine aH ?_;refine aA<|aG<|aA<|rgN<|kfa O O ?_;refine kl1 O O O<|kmv O<|aR O O cC (by omega) hio dR<|bH O O dR ?_;refine aW O hXJ O g3 dR<|kmv O<|aR O O cC (by omega) hio3 dR<|aW O hEJ O hec dR<|kmv O<|aR O O cC (by omega) hxo dR<|aY O hxJ (by kernel_rfl) hxz hxc dR<|aP O dR ?_;refine aM O O O O O O dR ?_;refine aB<|rgN<|kmv O<|kfa O O ?_;refine kl1 O O O<|kfa O O ?_;refine kl1 O O O<|kfa O O ?_;refine kl1 O O O<|kfa O O ?_;refine bJ O O O (by exact nl3 O O O O) dR ?_;refine aT O O (by exact O) (by exact nl6 O O O O O O O) dR ?_;refine aZ (zs:=[.int .i64 0,.int .i64 0,.int .i64 0,.bool false,.int .u64 0,.int .u64 0]) (sz:=6) (e:=70) (cs':=[.val (.int .i64 x.op),.val (.int .i64 x.a),.val (.int .i64 x.b),.val (.bool x.k.1),.val (.int .u64 (x.k.2/18446744073709551616)),.val (.int .u64 (x.k.2%18446744073709551616))]) (by kernel_rfl) O O O O O O dR<|bQ (by_:=48) (e2:=70) (l2:=[.val (.int .i64 x.op),.val (.int .i64 x.a),.val (.int .i64 x.b),.val (.bool x.k.1),.val (.int .u64 (x.k.2/18446744073709551616)),.val (.int .u64 (x.k.2%18446744073709551616))]) (nl:=n+1) (nc:=(inssV (c.take (n+1))).map .val) O O hcl O O (dN _) O O (by kernel_rfl) (by kernel_rfl) (by omega) (by omega) O O hnc dR<|kas O<|aB<|rgN<|kmv O<|kad O O hadd<|kas O<|aB ?_)
          exact ⟨_,⟨[(1,Lp 1),(2,Lp 2),(3,Lp 3),(4,Ln .i64 (i:Nat)),(5,Lp 5),(6,Ln .i64 (k:Nat)),(7,.sv (.one (.slc 500 0 (n+1) 6))),(8,Ln .i64 (n+1:Nat))],[(500,some ⟨70,(inssV (c.take (n+1))).map .val,Nat.blt 0 (n+1)⟩),(601,some ⟨69,(vs).map .val,true⟩),(5,some ⟨51,[.val (.int .i64 r.nw),.val (.int .i64 r.old),.slc 601 0 (k) 1],false⟩),(600,some ⟨51,(rwZ (rs.take i) ws).map .val,true⟩),(3,some ⟨29,[.val (.int .i64 va),.val (.int .i64 vb),.slc 600 0 (i) 3],false⟩),v3B 29 2 0 0 none 0 0,v3B 24 1 va vb (some ⟨blk,off,none⟩) rs.length cap],joinM X H⟩,by omega,Le.ofR [(500,84)] (by exact ⟨rfl,rfl,rfl,rfl,rfl,rfl,rfl,rfl,trivial⟩) (by repeat' (first|exact trivial|refine cQ ⟨_,rfl,?_⟩ ?_|refine cQ ⟨_,rfl⟩ ?_|rfl|exact bX _ _ _ _|exact bY _ _ _ _|exact bZ rfl)) (by exact rfl) (by exact rfl) (by repeat' (first|refine bT ?_ ?_|rfl|exact bV|exact bU|exact bW rfl)) (by exact rfl) (by exact rfl),n+1,by omega,rfl,rfl⟩
end Go.Proofs.YtamplgnbbanamaaGreatDoor
end
section
namespace Go.Proofs.YtamplgnbbanamaaGreatDoor
open Go Go.Lg Go.Lg.Fml Go.Lg.Fld Go.Lg.Arith
set_option maxRecDepth 100000
set_option linter.unusedSimpArgs false
variable (X:Nat→Option Obj)
theorem tailL_snoc {l:List (List Ins)} {k:Nat} {c:List Ins} (h:l[k]? = some c):tailL (l.take (k+1))=(tailL (l.take k)++[32])++showX c:=by
  rw [take_snoc h,tailL_app]
  simp [tailL]
set_option maxHeartbeats 6400000 in
theorem rLine12 (r:Rl) (ead:Option Addr) (ecap:Nat) (hE:CodesIn X ead r.ex) (hs:smallR r) (hel:r.ex.length<1152921504606846) (hcl:∀ c∈r.ex,c.length<1152921504606846976):PSpec Tryz.prog X 22 [LPg r.nw r.old ead r.ex.length ecap] (Ls (lineR r)):=by
  have hi2:=hE.in2
  obtain ⟨hs1,hs2⟩:=hs
  have hD1:PSpec Tryz.prog X 46 [Ln .i64 r.nw] (Ls (dg1 r.nw)):=rDigits_spec X r.nw hs1.1 hs1.2
  have hD2:PSpec Tryz.prog X 46 [Ln .i64 r.old] (Ls (dg1 r.old)):=rDigits_spec X r.old hs2.1 hs2.2
  have l1:(dg1 r.nw).length≤21:=Lib.itoa_length_le r.nw hs1.1 (by omega)
  have l2:(dg1 r.old).length≤21:=Lib.itoa_length_le r.old hs2.1 (by omega)
  refine cF Tryz.func22 rfl (by kernel_rfl) rfl rfl ?_
  intro C
  unfold lineR
  generalize dg1 r.nw=d1 at *
  generalize dg1 r.old=d2 at *
  by_cases h0:r.old=0
  · rw [if_pos h0]
    (refine aA<|rgN<|aL O O O dR<|kas O<|aB<|aA<|aA<|rgN<|kfa O O ?_;refine kl1 O O O<|keq O O (cU h0)<|aB<|aE O ?_;refine aA<|rgN<|kfa O O ?_;refine kl1 O O O<|kca O O hD1<|bM O O (szle [102,114,101,115,104,32] d1 (by (simp only [cV,cY,dI,dO];omega))) (str_add [102,114,101,115,104,32] d1) dR<|kas O<|aB<|aI ?_)
    exact ⟨[_],⟨O,trivial⟩,O⟩
  rw [if_neg h0]
  (refine aA<|rgN<|aL O O O dR<|kas O<|aB<|aA<|aA<|rgN<|kfa O O ?_;refine kl1 O O O<|keq O O (cR h0)<|aB<|aF O ?_;refine aH ?_;refine aA<|rgD mixed<|kfa O O ?_;refine kl1 O O O<|kca O O hD1<|bM O O (szle d1 [32,102,114,111,109,32] (by (simp only [cV,cY,dI,dO];omega))) (str_add d1 [32,102,114,111,109,32]) dR<|kfa O O ?_;refine kl1 O O O<|kca O O hD2<|bM O O (szle (d1++[32,102,114,111,109,32]) d2 (by (simp only [cV,cY,dI,dO];omega))) (str_add (d1++[32,102,114,111,109,32]) d2) dR<|kas O<|aB<|rgA ?_;refine aA<|aA<|rgN<|kas O<|aB<|aG ?_)
  have hPl:((d1++[32,102,114,111,109,32])++d2).length≤48:=by simp only [cV,dI,dO];omega
  generalize (d1++[32,102,114,111,109,32])++d2=P at *
  refine cL (fun m σ=>∃ k:Nat,k≤r.ex.length∧m=r.ex.length-k∧σ=⟨[(1,Lp 1),(3,Ls (P++tailL (r.ex.take k))),(4,Ln .i64 (k:Nat))],[v3B 51 1 r.nw r.old ead r.ex.length ecap],X⟩) r.ex.length
    ⟨⟨[(1,Lp 1),(3,Ls (P++tailL (r.ex.take 0))),(4,Ln .i64 (0:Nat))],[v3B 51 1 r.nw r.old ead r.ex.length ecap],X⟩,by
      rw [show P++tailL (r.ex.take 0)=P from dJ _]
      exact Le.of (by exact ⟨O,O,O,trivial⟩) (by exact ⟨O,trivial⟩) (by exact O) (by exact O) (by repeat' (first|refine bT ?_ ?_|rfl|exact bV|exact bU|exact bW O)),0,by omega,by omega,O⟩ ?_
  rintro m σ ⟨k,hk,rfl,rfl⟩
  by_cases hkl:k<r.ex.length
  case neg =>
    have e:k=r.ex.length:=by omega
    subst e
    rw [dF]
    (refine aA<|aA<|rgN<|kmv O<|kfa O O ?_;refine kl1 O O O<|aQ O cC O dR ?_;refine klt O O (cO (by omega))<|aB<|aF O ?_;refine aJ<|aA<|rgN<|kmv O<|kas O<|aB<|aI ?_)
    exact ⟨[_],⟨O,trivial⟩,O⟩
  obtain ⟨c,hc⟩:∃ c,r.ex[k]? = some c:=⟨_,cX hkl⟩
  obtain ⟨eb,eo,earr,eel,efr,vad,vcap,rfl,hEX,hec,hI⟩:=hE.get hc
  have hio3:eo+Int.toNat (k:Int)*1=eo+k*1:=by simp
  have hcm:=dD hc
  have hSh:=rShow11 X c vad vcap hI (hcl c hcm)
  have hxl:=showX_len c (hi2 c hcm)
  have htl:=tailL_len (r.ex.take k) (fun d hd=>hi2 d (List.mem_of_mem_take hd))
  rw [cZ] at htl
  have hTl:(P++tailL (r.ex.take k)).length≤48+3201*r.ex.length:=by rw [cV];omega
  have hnx:P++tailL (r.ex.take (k+1))=((P++tailL (r.ex.take k))++[32])++showX c:=by rw [tailL_snoc hc];simp only [dM]
  generalize hT:P++tailL (r.ex.take k)=T at *
  generalize showX c=xc at *
  have hadd:IntKind.i64.wrap ((k:Int)+1)=((k+1:Nat):Int):=by rw [cH (by omega)];omega
  (refine aA<|aA<|rgN<|kmv O<|kfa O O ?_;refine kl1 O O O<|aQ O cC O dR ?_;refine klt O O (cP (by omega))<|aB<|aE O ?_;refine aH ?_;refine aA<|aG<|rgN<|kmv O<|bM O O (szle T [32] (by (simp only [cV,cY,dI,dO];omega))) (str_add T [32]) dR<|kfa O O ?_;refine kl1 O O O<|kmv O<|aR O O cC (by omega) hio3 dR<|aW O hEX O hec dR<|kca O O (hSh)<|bM O O (szle (T++[32]) xc (by (simp only [cV,cY,dI,dO];omega))) (str_add (T++[32]) xc) dR<|kas O<|aB<|rgN<|kmv O<|kad O O hadd<|kas O<|aB ?_)
  rw [← hnx]
  exact ⟨_,⟨[(1,Lp 1),(3,Ls (P++tailL (r.ex.take (k+1)))),(4,Ln .i64 (k+1:Nat))],[v3B 51 1 r.nw r.old (some ⟨eb,eo,none⟩) r.ex.length ecap],X⟩,by omega,Le.of (by exact ⟨O,O,O,trivial⟩) (by exact ⟨O,trivial⟩) (by exact O) (by exact O) (by repeat' (first|refine bT ?_ ?_|rfl|exact bV|exact bU|exact bW O)),k+1,by omega,O,O⟩
end Go.Proofs.YtamplgnbbanamaaGreatDoor
end
section
namespace Go.Proofs.YtamplgnbbanamaaGreatDoor
open Go Go.Lg Go.Lg.Fml Go.Lg.Fld Go.Lg.Arith
set_option maxRecDepth 100000
theorem getEs_snoc:∀ {i:Nat} {b r:List UInt8} {l:List (List Ins)},getEs i b=some (l,r)→getEs (i+1) b=match getE r with|some (x,r')=>some (l++[x],r')|none=>none
  | 0,b,r,l,h=>by
    simp only [getEs,Option.some.injEq,Prod.mk.injEq] at h
    obtain ⟨rfl,rfl⟩:=h
    simp only [getEs]
    cases getE b with
    | none=>rfl
    | some p=>rfl
  | i+1,b,r,l,h=>by
    rw [getEs] at h ⊢
    cases hg:getE b with
    | none=>rw [hg] at h;cases h
    | some p =>
      rw [hg] at h
      simp only at h ⊢
      cases hs:getEs i p.2 with
      | none=>rw [hs] at h;cases h
      | some q =>
        rw [hs] at h
        simp only [Option.some.injEq,Prod.mk.injEq] at h
        obtain ⟨rfl,rfl⟩:=h
        rw [getEs_snoc hs]
        cases getE q.2 with
        | none=>rfl
        | some u=>rfl
theorem getEs_none:∀ {i k:Nat} {b:List UInt8},getEs i b=none→getEs (i+k) b=none
  | 0,k,b,h=>by cases h
  | i+1,k,b,h=>by
    rw [Nat.add_right_comm,getEs] at *
    cases hg:getE b with
    | none=>rfl
    | some p =>
      rw [hg] at h
      simp only at h ⊢
      cases hs:getEs i p.2 with
      | none=>rw [getEs_none (k:=k) hs]
      | some q=>rw [hs] at h;cases h
theorem getEs_fail {n i:Nat} {b r:List UInt8} {l:List (List Ins)} (h:getEs i b=some (l,r)) (hi:i<n) (hf:getE r=none):getEs n b=none:=by
  have h1:=getEs_snoc h
  rw [hf] at h1
  have h2:=getEs_none (k:=n-(i+1)) h1
  rw [show i+1+(n-(i+1))=n by omega] at h2
  exact h2
theorem getEs_step {i:Nat} {b r r':List UInt8} {l:List (List Ins)} {x:List Ins} (h:getEs i b=some (l,r)) (hf:getE r=some (x,r')):getEs (i+1) b=some (l++[x],r'):=by
  have h1:=getEs_snoc h
  rw [hf] at h1
  exact h1
theorem getRls_snoc:∀ {i:Nat} {b r:List UInt8} {l:List Rl},getRls i b=some (l,r)→getRls (i+1) b=match getRl r with|some (x,r')=>some (l++[x],r')|none=>none
  | 0,b,r,l,h=>by
    simp only [getRls,Option.some.injEq,Prod.mk.injEq] at h
    obtain ⟨rfl,rfl⟩:=h
    simp only [getRls]
    cases getRl b with
    | none=>rfl
    | some p=>rfl
  | i+1,b,r,l,h=>by
    rw [getRls] at h ⊢
    cases hg:getRl b with
    | none=>rw [hg] at h;cases h
    | some p =>
      rw [hg] at h
      simp only at h ⊢
      cases hs:getRls i p.2 with
      | none=>rw [hs] at h;cases h
      | some q =>
        rw [hs] at h
        simp only [Option.some.injEq,Prod.mk.injEq] at h
        obtain ⟨rfl,rfl⟩:=h
        rw [getRls_snoc hs]
        cases getRl q.2 with
        | none=>rfl
        | some u=>rfl
theorem getRls_none:∀ {i k:Nat} {b:List UInt8},getRls i b=none→getRls (i+k) b=none
  | 0,k,b,h=>by cases h
  | i+1,k,b,h=>by
    rw [Nat.add_right_comm,getRls] at *
    cases hg:getRl b with
    | none=>rfl
    | some p =>
      rw [hg] at h
      simp only at h ⊢
      cases hs:getRls i p.2 with
      | none=>rw [getRls_none (k:=k) hs]
      | some q=>rw [hs] at h;cases h
theorem getRls_fail {n i:Nat} {b r:List UInt8} {l:List Rl} (h:getRls i b=some (l,r)) (hi:i<n) (hf:getRl r=none):getRls n b=none:=by
  have h1:=getRls_snoc h
  rw [hf] at h1
  have h2:=getRls_none (k:=n-(i+1)) h1
  rw [show i+1+(n-(i+1))=n by omega] at h2
  exact h2
theorem getRls_step {i:Nat} {b r r':List UInt8} {l:List Rl} {x:Rl} (h:getRls i b=some (l,r)) (hf:getRl r=some (x,r')):getRls (i+1) b=some (l++[x],r'):=by
  have h1:=getRls_snoc h
  rw [hf] at h1
  exact h1
theorem getRl_no {n o m:UInt8} {r:List UInt8} (h:getEs m.toNat r=none):getRl (n::o::m::r)=none:=by unfold getRl;simp only [h]
theorem getRl_yes {n o m:UInt8} {r r':List UInt8} {l:List (List Ins)} (h:getEs m.toNat r=some (l,r')):getRl (n::o::m::r)=some (⟨(n.toNat:Nat),(o.toNat:Nat),l⟩,r'):=by unfold getRl;simp only [h]
theorem getE_short {r:List UInt8} (h:r.length<4):getE r=none:=by
  unfold getE get4
  rw [if_neg (by omega)]
theorem getE_long {r:List UInt8} (h:4≤r.length) (h2:(r.drop 4).length<le (r.take 4)):getE r=none:=by
  unfold getE get4
  rw [if_pos h]
  simp only
  rw [if_neg (by omega)]
theorem getE_at {r:List UInt8} (h:4≤r.length) (h2:le (r.take 4)≤(r.drop 4).length):getE r=match decX ((r.drop 4).take (le (r.take 4))) with
    | some l=>some (l,(r.drop 4).drop (le (r.take 4)))
    | none=>none:=by
  unfold getE get4
  rw [if_pos h]
  simp only
  rw [if_pos h2]
  cases decX ((r.drop 4).take (le (r.take 4)))<;>rfl
theorem get4_cons (a b c d:UInt8) (r:List UInt8):get4 (a::b::c::d::r)=some (le [a,b,c,d],r):=by
  unfold get4
  rw [if_pos (by simp only [dI];omega)]
  rfl
theorem decP_long (a0 a1 a2 a3 b0 b1 b2 b3 nb:UInt8) (r:List UInt8):decP (77::a0::a1::a2::a3::b0::b1::b2::b3::nb::r)=match getRls nb.toNat r with
    | some (l,[])=>if chkP ⟨(le [a0,a1,a2,a3]:Nat),(le [b0,b1,b2,b3]:Nat),l⟩=0 then some ⟨(le [a0,a1,a2,a3]:Nat),(le [b0,b1,b2,b3]:Nat),l⟩ else none
    | _=>none:=by
  unfold decP
  simp only
  rw [if_pos (by decide),get4_cons]
  simp only
  rw [get4_cons]
  simp only
  cases getRls nb.toNat r with
  | none=>rfl
  | some p =>
    obtain ⟨l,q⟩:=p
    cases q<;>rfl
theorem decP_head {c:UInt8} {r:List UInt8} (h:c≠77):decP (c::r)=none:=by
  unfold decP
  simp only
  rw [if_neg]
  intro e
  exact h (UInt8.toNat_inj.1 e)
theorem decP_short {s:List UInt8} (h:s.length<10):decP s=none:=by
  cases hd:decP s with
  | none=>rfl
  | some p =>
    have h1:=(encP_dec hd).1
    have h2:=congrArg List.length h1
    unfold encP at h2
    simp only [dI,cV,leB_length] at h2
    omega
theorem small_dec {s:List UInt8} {l:List Ins} (h:decX s=some l):∀ x∈l,smallI x:=fun x hx=>by
  obtain ⟨_,_,_,h3⟩:=encX_dec h
  obtain ⟨h4,h5,h6,h7,_⟩:=h3 x hx
  exact ⟨by omega,by omega,by omega,h7⟩
variable (X:Nat→Option Obj)
end Go.Proofs.YtamplgnbbanamaaGreatDoor
end
section
namespace Go.Proofs.YtamplgnbbanamaaGreatDoor
open Go Go.Lg Go.Lg.Fml Go.Lg.Fld Go.Lg.Arith
set_option maxRecDepth 100000
variable (X:Nat→Option Obj)
theorem kIsVersion (n:Int):PSpec Tryz.prog X 29 [Ln .i64 n] (Lb (verOk n)):=by
  refine cF Tryz.func29 rfl (by kernel_rfl) rfl rfl ?_
  intro C
  by_cases h1:1≤n
  · by_cases h2:n≤1073741824
    · rw [show verOk n=true by unfold verOk;simp;omega]
      (refine aA<|rgN<|kas O<|aB<|aA<|rgN<|kmv O<|bD O O (cP (by omega)) dR<|kmv O<|gmv O O O<|K.leq O O (cP (by omega)) (dS O O) ?_;refine kpt O O<|kas O<|aB<|aI ?_)
      exact ⟨[_],⟨O,trivial⟩,O⟩
    · rw [show verOk n=false by unfold verOk;simp;omega]
      (refine aA<|rgN<|kas O<|aB<|aA<|rgN<|kmv O<|bD O O (cP (by omega)) dR<|kmv O<|gmv O O O<|K.leq O O (cO (by omega)) (dS O O) ?_;refine kpt O O<|kas O<|aB<|aI ?_)
      exact ⟨[_],⟨O,trivial⟩,O⟩
  · rw [show verOk n=false by unfold verOk;simp;omega]
    (refine aA<|rgN<|kas O<|aB<|aA<|rgN<|kmv O<|bD O O (cO (by omega)) dR<|kmv O<|aC O O O<|aC O O O<|kpf O O<|kas O<|aB ?_;refine aI ?_)
    exact ⟨[_],⟨O,trivial⟩,O⟩
set_option maxHeartbeats 3200000 in
theorem kCheckRule (r:Rl) (ead:Option Addr) (ecap:Nat) (hE:CodesIn X ead r.ex) (h1:r.ex.length<4611686018427387904) (h2:∀ c∈r.ex,c.length<1152921504606846976) (last:Int) (h0:0≤last):
    PSpec Tryz.prog X 30 [LPg r.nw r.old ead r.ex.length ecap,Ln .i64 last] (Ln .i64 (chkR r last)):=by
  refine cF Tryz.func30 rfl (by kernel_rfl) rfl rfl ?_
  intro C
  obtain ⟨nw,old,ex⟩:=r
  simp only at hE h1 h2 ⊢
  by_cases c1:nw≤last
  · rw [show chkR ⟨nw,old,ex⟩ last=1 from if_pos (by simp only;omega)]
    (refine aA<|rgN<|aL O O O dR<|kas O<|aB<|aA<|aG<|aA<|rgN<|kfa O O ?_;refine kl1 O O O<|kmv O<|K.leq O O (cP (by omega)) dR<|kmv O<|aC O O O<|aC O O O<|aC O O O<|kpt O O<|kmv O<|aC O O O<|aC O O O<|aC O O O<|kpt O O<|kmv O ?_;refine aC O O O<|aC O O O<|aC O O O<|kpt O O<|kas O<|aB<|aE O ?_;refine aA<|rgN<|kas O<|aB<|aI ?_)
    exact ⟨[_],⟨O,trivial⟩,O⟩
  by_cases c2:24<nw
  · rw [show chkR ⟨nw,old,ex⟩ last=1 from if_pos (by simp only;omega)]
    (refine aA<|rgN<|aL O O O dR<|kas O<|aB<|aA<|aG<|aA<|rgN<|kfa O O ?_;refine kl1 O O O<|kmv O<|K.leq O O (cO (by omega)) dR<|kmv O<|aN O O (dS O O) ?_;refine aO O O O (dS O O) ?_;refine aS O O (cP (by omega)) (dS O O) ?_;refine kpf O O<|kmv O<|aC O O O<|aC O O O<|aC O O O<|kpt O O<|kmv O<|aC O O O<|aC O O O<|aC O O O<|kpt O O<|kas O<|aB<|aE O ?_;refine aA<|rgN<|kas O<|aB<|aI ?_)
    exact ⟨[_],⟨O,trivial⟩,O⟩
  by_cases c3:old<0
  · rw [show chkR ⟨nw,old,ex⟩ last=1 from if_pos (by simp only;omega)]
    (refine aA<|rgN<|aL O O O dR<|kas O<|aB<|aA<|aG<|aA<|rgN<|kfa O O ?_;refine kl1 O O O<|kmv O<|K.leq O O (cO (by omega)) dR<|kmv O<|aN O O (dS O O) ?_;refine aO O O O (dS O O) ?_;refine aS O O (cO (by omega)) (dS O O) ?_;refine kpf O O<|kmv O<|aN O O (dS O O) ?_;refine aO O O O (dS O O) ?_;refine bK O O (cP (by omega)) (dS O O) ?_;refine kpf O O<|kmv O<|aC O O O<|aC O O O<|aC O O O<|kpt O O<|kas O<|aB<|aE O ?_;refine aA<|rgN<|kas O<|aB<|aI ?_)
    exact ⟨[_],⟨O,trivial⟩,O⟩
  by_cases c4:24<old
  · rw [show chkR ⟨nw,old,ex⟩ last=1 from if_pos (by simp only;omega)]
    (refine aA<|rgN<|aL O O O dR<|kas O<|aB<|aA<|aG<|aA<|rgN<|kfa O O ?_;refine kl1 O O O<|kmv O<|K.leq O O (cO (by omega)) dR<|kmv O<|aN O O (dS O O) ?_;refine aO O O O (dS O O) ?_;refine aS O O (cO (by omega)) (dS O O) ?_;refine kpf O O<|kmv O<|aN O O (dS O O) ?_;refine aO O O O (dS O O) ?_;refine bK O O (cO (by omega)) (dS O O) ?_;refine kpf O O<|kmv O<|aN O O (dS O O) ?_;refine aO O O O (dS O O) ?_;refine aS O O (cP (by omega)) (dS O O) ?_;refine kpf O O<|kas O<|aB<|aE O ?_;refine aA<|rgN<|kas O<|aB<|aI ?_)
    exact ⟨[_],⟨O,trivial⟩,O⟩
  have e1:chkR ⟨nw,old,ex⟩ last=if old=0∧ex≠[] then 4 else if 8<ex.length then 5 else firstX ex:=if_neg (by simp only;omega)
  rw [e1]
  have hl:ex≠[]↔0<ex.length:=by rw [List.length_pos_iff]
  by_cases c5:old=0
  · by_cases c6:0<ex.length
    · rw [if_pos ⟨c5,hl.2 c6⟩]
      (refine aA<|rgN<|aL O O O dR<|kas O<|aB<|aA<|aG<|aA<|rgN<|kfa O O ?_;refine kl1 O O O<|kmv O<|K.leq O O (cO (by omega)) dR<|kmv O<|aN O O (dS O O) ?_;refine aO O O O (dS O O) ?_;refine aS O O (cO (by omega)) (dS O O) ?_;refine kpf O O<|kmv O<|aN O O (dS O O) ?_;refine aO O O O (dS O O) ?_;refine bK O O (cO (by omega)) (dS O O) ?_;refine kpf O O<|kmv O<|aN O O (dS O O) ?_;refine aO O O O (dS O O) ?_;refine aS O O (cO (by omega)) (dS O O) ?_;refine kpf O O<|kas O<|aB<|aF O ?_;refine aA<|rgN<|kfa O O ?_;refine kl1 O O O<|keq O O (cU c5)<|kmv O<|aN O O (dS O O) ?_;refine aO O O O (dS O O) ?_;refine aQ O cC O (dS O O) ?_;refine aS O O (cP (by omega)) (dS O O) ?_;refine kpt O O<|kas O<|aB<|aE O ?_;refine aA<|rgN<|kas O<|aB<|aI ?_)
      exact ⟨[_],⟨O,trivial⟩,O⟩
    · have e0:ex=[]:=by
        by_cases h:ex=[]
        · exact h
        · exact absurd (hl.1 h) c6
      subst e0
      rw [if_neg (fun h=>h.2 rfl),if_neg (by decide)]
      ((refine aA<|rgN<|aL O O O dR<|kas O<|aB<|aA<|aG<|aA<|rgN<|kfa O O ?_;refine kl1 O O O<|kmv O<|K.leq O O (cO (by omega)) dR<|kmv O<|aN O O (dS O O) ?_;refine aO O O O (dS O O) ?_;refine aS O O (cO (by omega)) (dS O O) ?_;refine kpf O O<|kmv O<|aN O O (dS O O) ?_;refine aO O O O (dS O O) ?_;refine bK O O (cO (by omega)) (dS O O) ?_;refine kpf O O<|kmv O<|aN O O (dS O O) ?_;refine aO O O O (dS O O) ?_;refine aS O O (cO (by omega)) (dS O O) ?_;refine kpf O O<|kas O<|aB<|aF O ?_;refine aA<|rgN<|kfa O O ?_);(refine kl1 O O O<|keq O O (cU c5)<|kmv O<|aN O O (dS O O) ?_;refine aO O O O (dS O O) ?_;refine aQ O cC O (dS O O) ?_;refine aS O O (cO (by decide)) (dS O O) ?_;refine kpt O O<|kas O<|aB<|aF O ?_;refine aA<|rgN<|kfa O O ?_;refine kl1 O O O<|aQ O cC O dR ?_;refine aS O O (cO (by decide)) dR<|kas O<|aB<|aF O ?_;refine aH ?_;refine aA<|aA<|rgN<|kfa O O ?_;refine kl1 O O O<|aQ O cC O dR ?_;refine kmv O<|aB<|aG ?_))
      refine cL (fun m σ=>m=0∧σ=⟨[(46,Ln .i64 0),(47,Ln .i64 0)],[],X⟩) 0 ⟨⟨[(46,Ln .i64 0),(47,Ln .i64 0)],[],X⟩,Le.of (by exact ⟨O,O,trivial⟩) (by exact trivial) (by exact O) (by exact O) (by repeat' (first|refine bT ?_ ?_|rfl|exact bV|exact bU|exact bW O)),O,O⟩ ?_
      rintro m σ ⟨rfl,rfl⟩
      (refine aA<|rgN<|klt O O (r:=false) O<|aB<|aA<|aF O ?_;refine aJ<|aA<|rgN<|kas O<|aB<|aI ?_)
      exact ⟨[_],⟨O,trivial⟩,O⟩
  rw [if_neg (fun h=>c5 h.1)]
  by_cases c7:8<ex.length
  · rw [if_pos c7]
    (refine aA<|rgN<|aL O O O dR<|kas O<|aB<|aA<|aG<|aA<|rgN<|kfa O O ?_;refine kl1 O O O<|kmv O<|K.leq O O (cO (by omega)) dR<|kmv O<|aN O O (dS O O) ?_;refine aO O O O (dS O O) ?_;refine aS O O (cO (by omega)) (dS O O) ?_;refine kpf O O<|kmv O<|aN O O (dS O O) ?_;refine aO O O O (dS O O) ?_;refine bK O O (cO (by omega)) (dS O O) ?_;refine kpf O O<|kmv O<|aN O O (dS O O) ?_;refine aO O O O (dS O O) ?_;refine aS O O (cO (by omega)) (dS O O) ?_;refine kpf O O<|kas O<|aB<|aF O ?_;refine aA<|rgN<|kfa O O ?_;refine kl1 O O O<|keq O O (cR c5)<|kmv O<|aC O O O<|aC O O O<|aC O O O<|aC O O O<|kpf O O<|kas O<|aB<|aF O ?_;refine aA<|rgN<|kfa O O ?_;refine kl1 O O O<|aQ O cC O dR ?_;refine aS O O (cP (by omega)) dR<|kas O<|aB<|aE O ?_;refine aA<|rgN<|kas O<|aB<|aI ?_)
    exact ⟨[_],⟨O,trivial⟩,O⟩
  rw [if_neg c7]
  (refine aA<|rgN<|aL O O O dR<|kas O<|aB<|aA<|aG<|aA<|rgN<|kfa O O ?_;refine kl1 O O O<|kmv O<|K.leq O O (cO (by omega)) dR<|kmv O<|aN O O (dS O O) ?_;refine aO O O O (dS O O) ?_;refine aS O O (cO (by omega)) (dS O O) ?_;refine kpf O O<|kmv O<|aN O O (dS O O) ?_;refine aO O O O (dS O O) ?_;refine bK O O (cO (by omega)) (dS O O) ?_;refine kpf O O<|kmv O<|aN O O (dS O O) ?_;refine aO O O O (dS O O) ?_;refine aS O O (cO (by omega)) (dS O O) ?_;refine kpf O O<|kas O<|aB<|aF O ?_;refine aA<|rgN<|kfa O O ?_;refine kl1 O O O<|keq O O (cR c5)<|kmv O<|aC O O O<|aC O O O<|aC O O O<|aC O O O<|kpf O O<|kas O<|aB<|aF O ?_;refine aA<|rgN<|kfa O O ?_;refine kl1 O O O<|aQ O cC O dR ?_;refine aS O O (cO (by omega)) dR<|kas O<|aB<|aF O ?_;refine aH ?_;refine aA<|aA<|rgN<|kfa O O ?_;refine kl1 O O O<|aQ O cC O dR ?_;refine kmv O<|aB<|aG ?_)
  refine cL (fun m σ=>∃ i:Nat,i≤ex.length∧m=ex.length-i∧firstX ex=firstX (ex.drop i)∧σ=⟨[(45,Lx ead ex.length ecap),(46,Ln .i64 (ex.length:Nat)),(47,Ln .i64 (i:Nat))],[],X⟩) ex.length
    ⟨⟨[(45,Lx ead ex.length ecap),(46,Ln .i64 (ex.length:Nat)),(47,Ln .i64 (0:Nat))],[],X⟩,Le.of (by exact ⟨rfl,rfl,rfl,trivial⟩) (by exact trivial) (by exact rfl) (by exact rfl) (by repeat' (first|refine bT ?_ ?_|rfl|exact bV|exact bU|exact bW rfl)),0,by omega,by omega,rfl,rfl⟩ ?_
  rintro m σ ⟨i,hi,rfl,hpre,rfl⟩
  by_cases hlt:i<ex.length
  case neg =>
    rw [hpre,List.drop_eq_nil_of_le (by omega)]
    (refine aA<|rgN<|klt O O (cO (by omega))<|aB<|aA<|aF O ?_;refine aJ<|aA<|rgN<|kas O<|aB<|aI ?_)
    exact ⟨[_],⟨O,trivial⟩,O⟩
  obtain ⟨c,hc⟩:∃ c,ex[i]? = some c:=⟨_,cX hlt⟩
  obtain ⟨eb,eo,earr,eel,efr,vad,vcap,rfl,hEX,hec,hI⟩:=hE.get hc
  have hio:eo+Int.toNat (i:Int)*1=eo+i*1:=by simp
  have hG:=gEncode' X c vad vcap hI (h2 c (dD hc))
  rw [drop_at hc,firstX_cons] at hpre
  by_cases he:encErr c=0
  · rw [if_pos he] at hpre
    rw [he] at hG
    have hadd:IntKind.i64.wrap (((i:Nat):Int)+1)=((i+1:Nat):Int):=by rw [cH (by omega)];omega
    (refine aA<|rgN<|klt O O (cP (by omega))<|aB<|aA<|aE O ?_;refine aH ?_;refine aA<|aG<|aA<|rgN<|aR O O cC (by omega) hio dR<|aW O hEX O hec dR<|kas O<|aB<|aA<|rgN<|kmv O<|kca O O hG<|kmv O<|kex O O ?_;refine kex O O<|kas O<|kas O<|aB<|aA<|rgN<|kmv O<|kne O O (r:=false) O<|aB<|aF O ?_;refine aH ?_;refine rgN<|kad O O hadd<|kmv O<|aB ?_)
    exact ⟨_,⟨[(45,Lx (some ⟨eb,eo,none⟩) ex.length ecap),(46,Ln .i64 (ex.length:Nat)),(47,Ln .i64 (i+1:Nat))],[],X⟩,by omega,Le.of (by exact ⟨O,O,O,trivial⟩) (by exact trivial) (by exact O) (by exact O) (by repeat' (first|refine bT ?_ ?_|rfl|exact bV|exact bU|exact bW O)),i+1,by omega,O,hpre,O⟩
  · rw [if_neg he] at hpre
    rw [hpre]
    have hne:(encErr c != 0)=true:=by rw [bne_iff_ne];exact he
    generalize encErr c=ce at *
    (refine aA<|rgN<|klt O O (cP (by omega))<|aB<|aA<|aE O ?_;refine aH ?_;refine aA<|aG<|aA<|rgN<|aR O O cC (by omega) hio dR<|aW O hEX O hec dR<|kas O<|aB<|aA<|rgN<|kmv O<|kca O O hG<|kmv O<|kex O O ?_;refine kex O O<|kas O<|kas O<|aB<|aA<|rgN<|kmv O<|kne O O hne<|aB<|aE O ?_;refine aA<|rgN<|kmv O<|kas O<|aB<|aI ?_)
    exact ⟨[_],⟨O,trivial⟩,O⟩
set_option maxHeartbeats 3200000 in
theorem kCheck (p:Pg) (ad:Option Addr) (cap:Nat) (hin:RulesIn X ad p.rs) (hbig:p.rs.length<4611686018427387904) (hsz:sizeR p.rs):PSpec Tryz.prog X 12 [LPg p.va p.vb ad p.rs.length cap] (Ln .i64 (chkP p)):=by
  obtain ⟨va,vb,rs⟩:=p
  simp only at hin hbig hsz ⊢
  have v1:=kIsVersion X va
  have v2:=kIsVersion X vb
  refine cF Tryz.func12 rfl (by kernel_rfl) rfl rfl ?_
  intro C
  cases q1:verOk va with
  | false =>
    rw [q1] at v1
    rw [chkP_bad (by simp only;rw [q1,Bool.false_and];decide)]
    (refine aA<|rgN<|aL O O O dR<|kas O<|aB<|aA<|aA<|rgN<|kfa O O ?_;refine kl1 O O O<|kca O O v1<|aV O O dR<|kmv O<|aC O O O<|aC O O O<|aC O O O<|aC O O O<|kpt O O<|aB<|aE O ?_;refine aA<|rgN<|kas O<|aB<|aI ?_)
    exact ⟨[_],⟨O,trivial⟩,O⟩
  | true =>
  rw [q1] at v1
  cases q2:verOk vb with
  | false =>
    rw [q2] at v2
    rw [chkP_bad (by simp only;rw [q2,Bool.and_false];decide)]
    (refine aA<|rgN<|aL O O O dR<|kas O<|aB<|aA<|aA<|rgN<|kfa O O ?_;refine kl1 O O O<|kca O O v1<|aV O O dR<|kmv O<|aN O O (dS O O) ?_;refine aO O O O (dS O O) ?_;refine gca O O v2 O O<|aV O O (dS O O) ?_;refine kpf O O<|aB<|aE O ?_;refine aA<|rgN<|kas O<|aB<|aI ?_)
    exact ⟨[_],⟨O,trivial⟩,O⟩
  | true =>
  rw [q2] at v2
  rw [chkP_good (by simp only;rw [q1,q2];rfl)]
  (refine aA<|rgN<|aL O O O dR<|kas O<|aB<|aA<|aA<|rgN<|kfa O O ?_;refine kl1 O O O<|kca O O v1<|aV O O dR<|kmv O<|aN O O (dS O O) ?_;refine aO O O O (dS O O) ?_;refine gca O O v2 O O<|aV O O (dS O O) ?_;refine kpf O O<|aB<|aF O ?_;refine aH ?_;refine aA<|rgN<|kas O<|aB<|aA<|aA<|rgN<|kfa O O ?_;refine kl1 O O O<|aQ O cC O dR ?_;refine kmv O<|aB<|aG ?_)
  simp only
  refine cL (fun m σ=>∃ i:Nat,i≤rs.length∧m=rs.length-i∧chkRs 0 rs=chkRs (lastR rs i) (rs.drop i)∧0≤lastR rs i∧σ=⟨[(3,Ln .i64 (lastR rs i)),(18,Lx ad rs.length cap),(19,Ln .i64 (rs.length:Nat)),(20,Ln .i64 (i:Nat))],[],X⟩) rs.length
    ⟨⟨[(3,Ln .i64 (lastR rs 0)),(18,Lx ad rs.length cap),(19,Ln .i64 (rs.length:Nat)),(20,Ln .i64 (0:Nat))],[],X⟩,Le.of (by exact ⟨rfl,rfl,rfl,rfl,trivial⟩) (by exact trivial) (by exact rfl) (by exact rfl) (by repeat' (first|refine bT ?_ ?_|rfl|exact bV|exact bU|exact bW rfl)),0,by omega,by omega,rfl,Int.le_refl 0,rfl⟩ ?_
  rintro m σ ⟨i,hi,rfl,hpre,hlast,rfl⟩
  by_cases hlt:i<rs.length
  case neg =>
    rw [hpre,List.drop_eq_nil_of_le (by omega)]
    (refine aA<|rgN<|klt O O (cO (by omega))<|aB<|aA<|aF O ?_;refine aJ<|aA<|rgN<|kas O<|aB<|aI ?_)
    exact ⟨[_],⟨O,trivial⟩,O⟩
  obtain ⟨r,hr⟩:∃ r,rs[i]? = some r:=⟨_,cX hlt⟩
  obtain ⟨blk,off,arr,el,fr,ead,ecap,rfl,hX,hsiz,hcs,g1,g2,g3,hE⟩:=hin.get hr
  have hio:off+Int.toNat (i:Int)*3=off+i*3:=by simp
  obtain ⟨hz1,hz2⟩:=hsz r (dD hr)
  have hR:=kCheckRule X r ead ecap hE (by omega) hz2 (lastR rs i) hlast
  rw [drop_at hr,chkRs_cons] at hpre
  by_cases he:chkR r (lastR rs i)=0
  · rw [if_pos he] at hpre
    have hgt:=(chkR_zero he).2.2.1
    rw [he] at hR
    have hnl:=lastR_at hr
    have hadd:IntKind.i64.wrap (((i:Nat):Int)+1)=((i+1:Nat):Int):=by rw [cH (by omega)];omega
    (refine aA<|rgN<|klt O O (cP (by omega))<|aB<|aA<|aE O ?_;refine aH ?_;refine aA<|aG<|aA<|rgN<|aR O O cC (by omega) hio dR<|aY O hX (by kernel_rfl) hsiz hcs dR<|aP O dR ?_;refine aM O O O O O O dR ?_;refine aB<|aA<|aA<|rgN<|aK O O O dR ?_;refine kmv O<|kca O O hR<|kas O<|aB<|aA<|rgN<|kmv O<|kne O O (r:=false) O<|aB<|aF O ?_;refine aH ?_;refine rgN<|kfa O O ?_;refine kl1 O O O<|kas O<|aB<|rgN<|kad O O hadd<|kmv O<|aB ?_)
    rw [← hnl] at hpre hgt ⊢
    exact ⟨_,⟨[(3,Ln .i64 (lastR rs (i+1))),(18,Lx (some ⟨blk,off,none⟩) rs.length cap),(19,Ln .i64 (rs.length:Nat)),(20,Ln .i64 (i+1:Nat))],[],X⟩,by omega,Le.of (by exact ⟨O,O,O,O,trivial⟩) (by exact trivial) (by exact O) (by exact O) (by repeat' (first|refine bT ?_ ?_|rfl|exact bV|exact bU|exact bW O)),i+1,by omega,O,hpre,by omega,O⟩
  · rw [if_neg he] at hpre
    rw [hpre]
    have hne:(chkR r (lastR rs i) != 0)=true:=by rw [bne_iff_ne];exact he
    generalize chkR r (lastR rs i)=ce at *
    (refine aA<|rgN<|klt O O (cP (by omega))<|aB<|aA<|aE O ?_;refine aH ?_;refine aA<|aG<|aA<|rgN<|aR O O cC (by omega) hio dR<|aY O hX (by kernel_rfl) hsiz hcs dR<|aP O dR ?_;refine aM O O O O O O dR ?_;refine aB<|aA<|aA<|rgN<|aK O O O dR ?_;refine kmv O<|kca O O hR<|kas O<|aB<|aA<|rgN<|kmv O<|kne O O hne<|aB<|aE O ?_;refine aA<|rgN<|kmv O<|kas O<|aB<|aI ?_)
    exact ⟨[_],⟨O,trivial⟩,O⟩
end Go.Proofs.YtamplgnbbanamaaGreatDoor
end
section
namespace Go.Proofs.YtamplgnbbanamaaGreatDoor
open Go Go.Lg Go.Lg.Fml Go.Lg.Fld Go.Lg.Arith
set_option maxRecDepth 100000
theorem kE_len {c:List Ins} (h:encErr c=0):(encE c).length≤1200:=by
  have h64:c.length≤64:=by
    by_cases hz:chkX c=0
    · exact (chkX_zero hz).1
    · exact absurd ((if_neg hz:encErr c=chkX c)▸h) hz
  have:=encIs_len c
  unfold encE encX
  rw [cV,leB_length,dI]
  omega
theorem kEs_len:∀ {l:List (List Ins)},(∀ c∈l,encErr c=0)→(encEs l).length≤l.length*1200
  | [],_=>by simp [encEs]
  | c::t,h=>by
    have h1:=kE_len (h c (by simp))
    have h2:=kEs_len (l:=t) (fun d hd=>h d (by simp [hd]))
    simp only [encEs,cV,dI]
    omega
theorem kR_len {r:Rl} (h:∀ c∈r.ex,encErr c=0) (h8:r.ex.length≤8):(encR r).length≤10000:=by
  have:=kEs_len h
  unfold encR
  simp only [dI]
  omega
theorem kRs_len:∀ {l:List Rl},(∀ r∈l,(∀ c∈r.ex,encErr c=0)∧r.ex.length≤8)→(encRs l).length≤l.length*10000
  | [],_=>by simp [encRs]
  | c::t,h=>by
    have h1:=kR_len (h c (by simp)).1 (h c (by simp)).2
    have h2:=kRs_len (l:=t) (fun d hd=>h d (by simp [hd]))
    simp only [encRs,cV,dI]
    omega
theorem kT_ok {c:List Ins} (h:encErr c=0):encTX c=encX c:=if_pos h
variable (X:Nat→Option Obj)
theorem kPut_0 (n:Nat) (h:n<256):MSpec Tryz.prog X 25 [Lp 1000000,Ln .i64 (n:Nat)] (w0 1000000) (.tup []) (w1 1000000 1000001 1000002 [o8 (n:Nat)]):=by
  have hN:=WNum_0_1 X n (by omega) (by omega)
  rw [leB1o n] at hN
  refine cG Tryz.func25 rfl (by kernel_rfl) rfl rfl (by repeat' (first|refine bT ?_ ?_|rfl|exact bV|exact bU|exact bW rfl)) rfl rfl ?_
  intro C
  have hw:IntKind.u64.wrap ((n:Nat):Int)=((n:Nat):Int):=wrap_u64 (by omega)
  (refine rgN<|kmv O<|kmv O<|kcv O hw ?_;refine aU [(1000001,501),(1000002,502)] (w1 1000000 501 502 [o8 (n:Nat)]) (hN) O O (by exact (cQ ⟨_,O,O⟩ trivial)) (by exact (bT (bT O (bT O O)) O)) O O O O (by exact (.box O O (.box O O (.box O O .nil)))) dR<|aB ?_)
  exact ⟨[(1000001,501),(1000002,502)],⟨[],trivial,rfl⟩,(by repeat' (first|exact trivial|refine cQ ⟨_,rfl,?_⟩ ?_|refine cQ ⟨_,rfl⟩ ?_|rfl|exact bX _ _ _ _|exact bY _ _ _ _|exact bZ rfl)),rfl,rfl⟩
theorem kPut_1 (l:List UInt8) (n:Int) (h:0≤n∧n<256) (hl:l.length<900000000):MSpec Tryz.prog X 25 [Lp 1000000,Ln .i64 n] (w1 1000000 1000001 1000002 l) (.tup []) (w1 1000000 1000001 1000003 (l++[o8 n])++[(1000002,none)]):=by
  obtain ⟨k,rfl⟩:=Int.eq_ofNat_of_zero_le h.1
  have hk:k<256:=by omega
  have hN:=WNum_1_1 X l k (by omega) (by omega) hl
  rw [leB1o k] at hN
  refine cG Tryz.func25 rfl (by kernel_rfl) rfl rfl (by repeat' (first|refine bT ?_ ?_|rfl|exact bV|exact bU|exact bW rfl)) rfl rfl ?_
  intro C
  have hw:IntKind.u64.wrap ((k:Nat):Int)=((k:Nat):Int):=wrap_u64 (by omega)
  (refine rgN<|kmv O<|kmv O<|kcv O hw ?_;refine aU [(1000003,501)] (w1 1000000 1000001 501 (l++[o8 (k:Nat)])++[(1000002,none)]) (hN) O O (by exact (cQ ⟨_,O,O⟩ (cQ ⟨_,O,O⟩ (cQ ⟨_,O,(bX _ _ _ _)⟩ trivial)))) (by exact (bT (bT O (bT O O)) (bT (bT O O) (bT bV O)))) O O O O (by exact (.box O O (.box O O (.box O (bX _ _ _ _) (.dead O .nil))))) dR<|aB ?_)
  exact ⟨[(1000003,501)],⟨[],trivial,rfl⟩,(by repeat' (first|exact trivial|refine cQ ⟨_,rfl,?_⟩ ?_|refine cQ ⟨_,rfl⟩ ?_|rfl|exact bX _ _ _ _|exact bY _ _ _ _|exact bZ rfl)),rfl,rfl⟩
theorem kPart_1 (l:List UInt8) (c:List Ins) (h:encErr c=0) (hl:l.length<800000000):MSpec Tryz.prog X 55 [Lp 1000000,Ls (encX c)] (w1 1000000 1000001 1000002 l) (Lb true) (w1 1000000 1000001 1000003 (l++encE c)++[(1000002,none)]):=by
  have hc:=kE_len h
  unfold encE at hc ⊢
  rw [cV,leB_length] at hc
  have hp:(256:Nat)^4=4294967296:=by decide
  have:=WPart_1 X l (encX c) (by unfold fitW;rw [cP (by show (encX c).length<256^4;omega)];rfl) (by omega) hl
  rw [dM] at this
  exact this
abbrev prSt (l:List UInt8) (ead:Option Addr) (n ecap i:Nat) (Y:Nat→Option Obj):St:=
  ⟨[(0,Lp 1000000),(22,Lx ead n ecap),(23,Ln .i64 (n:Nat)),(24,Ln .i64 (i:Nat))],w1 1000000 1000001 500 l++[(1000002,none)],Y⟩
set_option maxHeartbeats 3200000 in
theorem kPutRule (l:List UInt8) (r:Rl) (ead:Option Addr) (ecap:Nat) (hE:CodesIn X ead r.ex) (a1:0≤r.nw∧r.nw<256) (a2:0≤r.old∧r.old<256) (a3:r.ex.length≤8) (a4:∀ c∈r.ex,encErr c=0) (hl:l.length<700000000):
    MSpec Tryz.prog X 27 [Lp 1000000,LPg r.nw r.old ead r.ex.length ecap] (w1 1000000 1000001 1000002 l) (.tup []) (w1 1000000 1000001 1000003 (l++encR r)++[(1000002,none)]):=by
  obtain ⟨nw,old,ex⟩:=r
  simp only at hE a1 a2 a3 a4 ⊢
  have p1:=kPut_1 X l nw a1 (by omega)
  have p2:=kPut_1 X (l++[o8 nw]) old a2 (by rw [cV,cY];omega)
  have p3:=kPut_1 X ((l++[o8 nw])++[o8 old]) (ex.length:Nat) ⟨by omega,by omega⟩ (by rw [cV,cV,cY,cY];omega)
  have hfin:l++encR ⟨nw,old,ex⟩=(((l++[o8 nw])++[o8 old])++[o8 (ex.length:Nat)])++encEs ex:=by unfold encR;simp
  have hPl:(((l++[o8 nw])++[o8 old])++[o8 (ex.length:Nat)]).length=l.length+3:=by simp only [cV,cY]
  refine cG Tryz.func27 rfl (by kernel_rfl) rfl rfl (by repeat' (first|refine bT ?_ ?_|rfl|exact bV|exact bU|exact bW rfl)) rfl rfl ?_
  intro C
  (refine aA<|rgN<|aL O O O dR<|aB<|aA<|rgN<|kmv O<|kfa O O ?_;refine kl1 O O O<|aU [(1000003,501)] (w1 1000000 1000001 501 (l++[o8 nw])++[(1000002,none)]) (p1) O O (by exact (cQ ⟨_,O,O⟩ (cQ ⟨_,O,O⟩ (cQ ⟨_,O,(bX _ _ _ _)⟩ trivial)))) (by exact (bT (bT O (bT O O)) (bT (bT O O) (bT bV O)))) O O O O (by exact (.box O O (.box O O (.box O (bX _ _ _ _) (.dead O .nil))))) dR<|aB<|aA<|rgN<|kmv O<|kfa O O ?_;refine kl1 O O O<|aU [(1000002,501),(1000003,502)] (w1 1000000 1000001 502 ((l++[o8 nw])++[o8 old])++[(501,none)]) (p2) O O (by exact (cQ ⟨_,O,O⟩ (cQ ⟨_,O,O⟩ (cQ ⟨_,O,(bX _ _ _ _)⟩ trivial)))) (by exact (bT (bT O (bT O O)) (bT (bT O O) (bT bV O)))) O O O O (by exact (.box O O (.box O O (.box O (bX _ _ _ _) (.dead O .nil))))) dR<|aB<|aA<|rgN<|kmv O<|kfa O O ?_;refine kl1 O O O<|aQ O cC O dR ?_;refine aU [(1000002,502),(1000003,503)] (w1 1000000 1000001 503 (((l++[o8 nw])++[o8 old])++[o8 (ex.length:Nat)])++[(502,none)]) (p3) O O (by exact (cQ ⟨_,O,O⟩ (cQ ⟨_,O,O⟩ (cQ ⟨_,O,(bX _ _ _ _)⟩ trivial)))) (by exact (bT (bT O (bT O O)) (bT (bT O O) (bT bV O)))) O O O O (by exact (.box O O (.box O O (.box O (bX _ _ _ _) (.dead O .nil))))) dR<|aB<|aA<|rgN<|kfa O O ?_;refine kl1 O O O<|aQ O cC O dR ?_;refine kmv O<|aB<|aG ?_)
  rw [hfin]
  generalize hP:(((l++[o8 nw])++[o8 old])++[o8 (ex.length:Nat)])=P at *
  refine cL (fun m σ=>∃ i:Nat,i≤ex.length∧m=ex.length-i∧σ=prSt (P++encEs (ex.take i)) ead ex.length ecap i X) ex.length
    ⟨prSt (P++encEs (ex.take 0)) ead ex.length ecap 0 X,by
      rw [show P++encEs (ex.take 0)=P from dJ _]
      exact Le.ofR [(500,503)] (by exact ⟨rfl,rfl,rfl,rfl,trivial⟩) (by repeat' (first|exact trivial|refine cQ ⟨_,rfl,?_⟩ ?_|refine cQ ⟨_,rfl⟩ ?_|rfl|exact bX _ _ _ _|exact bY _ _ _ _|exact bZ rfl)) (by exact rfl) (by exact rfl) (by repeat' (first|refine bT ?_ ?_|rfl|exact bV|exact bU|exact bW rfl)) (by exact rfl) (by exact rfl),0,Nat.zero_le _,rfl,rfl⟩ ?_
  rintro m σ ⟨i,hi,rfl,rfl⟩
  by_cases hlt:i<ex.length
  · obtain ⟨c,hc⟩:∃ c,ex[i]? = some c:=⟨_,cX hlt⟩
    obtain ⟨eb,eo,earr,eel,efr,vad,vcap,rfl,hEX,hec,hI⟩:=hE.get hc
    have hio:eo+Int.toNat (i:Int)*1=eo+i*1:=by simp
    have hce:=a4 c (dD hc)
    have h64:c.length≤64:=by
      by_cases hz:chkX c=0
      · exact (chkX_zero hz).1
      · exact absurd ((if_neg hz:encErr c=chkX c)▸hce) hz
    have hG:=gEncode' X c vad vcap hI (by omega)
    rw [hce,kT_ok hce] at hG
    have hBl:(P++encEs (ex.take i)).length≤l.length+3+8*1200:=by
      have:=kEs_len (l:=ex.take i) (fun d hd=>a4 d (List.mem_of_mem_take hd))
      rw [cZ] at this
      rw [cV];omega
    have hnext:P++encEs (ex.take (i+1))=(P++encEs (ex.take i))++encE c:=by
      rw [take_snoc hc,encEs_app,dM]
      simp [encEs]
    have hadd:IntKind.i64.wrap (((i:Nat):Int)+1)=((i+1:Nat):Int):=by rw [cH (by omega)];omega
    have q:=kPart_1 X (P++encEs (ex.take i)) c hce (by omega)
    rw [← hnext] at q
    (refine aA<|rgN<|klt O O (cP (by omega))<|aB<|aA<|aE O ?_;refine aH ?_;refine aA<|aG<|aA<|rgN<|aR O O cC (by omega) hio dR<|aW O hEX O hec dR<|kas O<|aB<|aA<|rgN<|kmv O<|kca O O hG<|kmv O<|kex O O ?_;refine kex O O<|kas O<|kas O<|aB<|rgN<|kmv O<|kmv O<|aU [(1000002,500),(1000003,501)] (w1 1000000 1000001 501 (P++encEs (ex.take (i+1)))++[(500,none)]) (q) O O (by exact (cQ ⟨_,O,O⟩ (cQ ⟨_,O,O⟩ (cQ ⟨_,O,(bX _ _ _ _)⟩ trivial)))) (by exact (bT (bT O (bT O O)) (bT (bT O O) (bT bV O)))) O O O O (by exact (.box O O (.box O O (.box O (bX _ _ _ _) (.dead O .nil))))) dR<|aB<|rgN<|kad O O hadd<|kmv O<|aB ?_)
    exact ⟨_,prSt (P++encEs (ex.take (i+1))) (some ⟨eb,eo,none⟩) ex.length ecap (i+1) X,by omega,Le.ofR [(500,501)] (by exact ⟨rfl,rfl,rfl,rfl,trivial⟩) (by repeat' (first|exact trivial|refine cQ ⟨_,rfl,?_⟩ ?_|refine cQ ⟨_,rfl⟩ ?_|rfl|exact bX _ _ _ _|exact bY _ _ _ _|exact bZ rfl)) (by exact rfl) (by exact rfl) (by repeat' (first|refine bT ?_ ?_|rfl|exact bV|exact bU|exact bW rfl)) (by exact rfl) (by exact rfl),i+1,by omega,rfl,rfl⟩
  · have e:i=ex.length:=by omega
    subst e
    rw [dF]
    (refine aA<|rgN<|klt O O (cO (by omega))<|aB<|aA<|aF O ?_;refine aJ ?_)
    exact ⟨[(1000003,500)],⟨[],trivial,rfl⟩,(by repeat' (first|exact trivial|refine cQ ⟨_,rfl,?_⟩ ?_|refine cQ ⟨_,rfl⟩ ?_|rfl|exact bX _ _ _ _|exact bY _ _ _ _|exact bZ rfl)),rfl,rfl⟩
def encPT (p:Pg):List UInt8:=if chkP p=0 then encP p else []
theorem kok_rules {p:Pg} (h:chkP p=0):∀ r∈p.rs,(0≤r.nw∧r.nw<256)∧(0≤r.old∧r.old<256)∧r.ex.length≤8∧∀ c∈r.ex,encErr c=0:=fun r hr=>by
  obtain ⟨last,hl⟩:=chkRs_mem (chkP_zero h).2.2.1 r hr
  obtain ⟨q1,q2,_,_,q5,q6⟩:=chkR_zero hl
  exact ⟨by omega,by omega,q5,firstX_zero q6⟩
abbrev eeSt (l:List UInt8) (va vb:Int) (ad:Option Addr) (n cap i:Nat) (Y:Nat→Option Obj):St:=
  ⟨[(1,Lp 1),(5,Lp 14),(33,Lx ad n cap),(34,Ln .i64 (n:Nat)),(35,Ln .i64 (i:Nat))],w1 14 601 500 l++[v3B 24 1 va vb ad n cap],Y⟩
set_option maxHeartbeats 3200000 in
theorem kEncode (p:Pg) (ad:Option Addr) (cap:Nat) (hin:RulesIn X ad p.rs) (hbig:p.rs.length<4611686018427387904) (hsz:sizeR p.rs):PSpec Tryz.prog X 11 [LPg p.va p.vb ad p.rs.length cap] (.tup [Ss (encPT p),Sn .i64 (chkP p)]):=by
  have hc:=kCheck X p ad cap hin hbig hsz
  unfold encPT
  by_cases hz:chkP p=0
  · rw [if_pos hz]
    rw [hz] at hc ⊢
    have hok:=kok_rules hz
    obtain ⟨hv1,hv2,_,h24⟩:=chkP_zero hz
    obtain ⟨va,vb,rs⟩:=p
    simp only at hin hbig hsz hc hok hv1 hv2 h24 ⊢
    obtain ⟨na,rfl⟩:=Int.eq_ofNat_of_zero_le (show 0≤va by omega)
    obtain ⟨nb,rfl⟩:=Int.eq_ofNat_of_zero_le (show 0≤vb by omega)
    have hp:(256:Nat)^4=4294967296:=by decide
    have p1:MSpec Tryz.prog X 25 [Lp 1000000,Ln .i64 77] (w0 1000000) (.tup []) (w1 1000000 1000001 1000002 [77]):=kPut_0 X 77 (by decide)
    have p2:=WNum_1_4 X [77] na (by omega) (by omega) (by decide)
    have p3:=WNum_1_4 X ([77]++leB 4 na) nb (by omega) (by omega) (by rw [cV,leB_length];decide)
    have p4:=kPut_1 X (([77]++leB 4 na)++leB 4 nb) (rs.length:Nat) ⟨by omega,by omega⟩ (by rw [cV,cV,leB_length,leB_length];decide)
    have w1':IntKind.u64.wrap ((na:Nat):Int)=((na:Nat):Int):=wrap_u64 (by omega)
    have w2':IntKind.u64.wrap ((nb:Nat):Int)=((nb:Nat):Int):=wrap_u64 (by omega)
    refine cF Tryz.func11 rfl (by kernel_rfl) rfl rfl ?_
    intro C
    (refine aA<|rgN<|aL O O O dR<|kas O<|kas O<|aB<|aA<|aA<|rgN<|aK O O O dR ?_;refine kca O O hc<|kas O<|aB<|aA<|rgN<|kmv O<|kne O O (r:=false) O<|aB<|aF O ?_;refine aH ?_;refine aA<|rgN<|aT O O (by exact O) (by exact nl2 O O O) dR ?_;refine aL O O O dR<|kas O<|aB<|aA<|rgN<|kmv O<|aU [(1000000,14),(1000001,601),(1000002,602)] (w1 14 601 602 [77]) (p1) O O (by exact (cQ ⟨_,O,O⟩ trivial)) (by exact (bT (bT O (bT O O)) O)) O O O O (by exact (.box O O (.box O O (.box O O .nil)))) dR<|aB<|aA<|rgN<|kmv O<|kfa O O ?_;refine kl1 O O O<|kcv O w1' ?_;refine aU [(1000000,14),(1000001,601),(1000002,602),(1000003,603)] (w1 14 601 603 ([77]++leB 4 na)++[(602,none)]) (p2) O O (by exact (cQ ⟨_,O,O⟩ (cQ ⟨_,O,O⟩ (cQ ⟨_,O,O⟩ trivial)))) (by exact (bT (bT O (bT O O)) (bT (bT O O) (bT (bT O O) O)))) O O O O (by exact (.box O O (.box O O (.box O O (.dead O .nil))))) dR<|aB<|aA<|rgN<|kmv O<|kfa O O ?_;refine kl1 O O O<|kcv O w2' ?_;refine aU [(1000000,14),(1000001,601),(1000002,603),(1000003,604)] (w1 14 601 604 (([77]++leB 4 na)++leB 4 nb)++[(603,none)]) (p3) O O (by exact (cQ ⟨_,O,O⟩ (cQ ⟨_,O,O⟩ (cQ ⟨_,O,O⟩ trivial)))) (by exact (bT (bT O (bT O O)) (bT (bT O O) (bT (bT O (bT O (bT O (bT O (bT O O))))) O)))) O O O O (by exact (.box O O (.box O O (.box O O (.dead O .nil))))) dR<|aB<|aA<|rgN<|kmv O<|kfa O O ?_;refine kl1 O O O<|aQ O cC O dR ?_;refine aU [(1000000,14),(1000001,601),(1000002,604),(1000003,605)] (w1 14 601 605 ((([77]++leB 4 na)++leB 4 nb)++[o8 (rs.length:Nat)])++[(604,none)]) (p4) O O (by exact (cQ ⟨_,O,O⟩ (cQ ⟨_,O,O⟩ (cQ ⟨_,O,O⟩ trivial)))) (by exact (bT (bT O (bT O O)) (bT (bT O O) (bT (bT O (bT O (bT O (bT O (bT O (bT O (bT O (bT O (bT O O))))))))) O)))) O O O O (by exact (.box O O (.box O O (.box O O (.dead O .nil))))) dR<|aB<|aA<|aA<|rgN<|kfa O O ?_;refine kl1 O O O<|aQ O cC O dR ?_;refine kmv O<|aB<|aG ?_)
    have hfin:encP ⟨(na:Nat),(nb:Nat),rs⟩=((([77]++leB 4 na)++leB 4 nb)++[o8 (rs.length:Nat)])++encRs rs:=by
      unfold encP
      simp only [dG]
      simp
    rw [hfin]
    have hPl:((([77]++leB 4 na)++leB 4 nb)++[o8 (rs.length:Nat)]).length=10:=by simp only [cV,leB_length,cY]
    generalize ((([77]++leB 4 na)++leB 4 nb)++[o8 (rs.length:Nat)])=P at *
    refine cL (fun m σ=>∃ i:Nat,i≤rs.length∧m=rs.length-i∧σ=eeSt (P++encRs (rs.take i)) (na:Nat) (nb:Nat) ad rs.length cap i X) rs.length
      ⟨eeSt (P++encRs (rs.take 0)) (na:Nat) (nb:Nat) ad rs.length cap 0 X,by
        rw [show P++encRs (rs.take 0)=P from dJ _]
        exact Le.ofR [(500,605)] (by exact ⟨rfl,rfl,rfl,rfl,rfl,trivial⟩) (by repeat' (first|exact trivial|refine cQ ⟨_,rfl,?_⟩ ?_|refine cQ ⟨_,rfl⟩ ?_|rfl|exact bX _ _ _ _|exact bY _ _ _ _|exact bZ rfl)) (by exact rfl) (by exact rfl) (by repeat' (first|refine bT ?_ ?_|rfl|exact bV|exact bU|exact bW rfl)) (by exact rfl) (by exact rfl),0,Nat.zero_le _,rfl,rfl⟩ ?_
    rintro m σ ⟨i,hi,rfl,rfl⟩
    by_cases hlt:i<rs.length
    · obtain ⟨r,hr⟩:∃ r,rs[i]? = some r:=⟨_,cX hlt⟩
      obtain ⟨blk,off,arr,el,fr,ead,ecap,rfl,hX,hsiz,hcs,g1,g2,g3,hE⟩:=hin.get hr
      have hio:off+Int.toNat (i:Int)*3=off+i*3:=by simp
      have hBl:(P++encRs (rs.take i)).length≤10+24*10000:=by
        have:=kRs_len (l:=rs.take i) (fun r hr=>⟨(hok r (List.mem_of_mem_take hr)).2.2.2,(hok r (List.mem_of_mem_take hr)).2.2.1⟩)
        rw [cZ] at this
        rw [cV,hPl];omega
      have hnext:P++encRs (rs.take (i+1))=(P++encRs (rs.take i))++encR r:=by
        rw [take_snoc hr,encRs_app,dM]
        simp [encRs]
      have hadd:IntKind.i64.wrap (((i:Nat):Int)+1)=((i+1:Nat):Int):=by rw [cH (by omega)];omega
      obtain ⟨k1,k2,k3,k4⟩:=hok r (dD hr)
      have q:=kPutRule X (P++encRs (rs.take i)) r ead ecap hE k1 k2 k3 k4 (by omega)
      rw [← hnext] at q
      (refine aA<|rgN<|klt O O (cP (by omega))<|aB<|aA<|aE O ?_;refine aH ?_;refine aA<|aG<|aA<|rgN<|aR O O cC (by omega) hio dR<|aY O hX (by kernel_rfl) hsiz hcs dR<|aP O dR ?_;refine aM O O O O O O dR ?_;refine aB<|rgN<|kmv O<|aK O O O dR ?_;refine aU [(1000000,14),(1000001,601),(1000002,500),(1000003,605)] (w1 14 601 605 (P++encRs (rs.take (i+1)))++[(500,none)]) (q) O O (by exact (cQ ⟨_,O,O⟩ (cQ ⟨_,O,O⟩ (cQ ⟨_,O,(bX _ _ _ _)⟩ trivial)))) (by exact (bT (bT O (bT O O)) (bT (bT O O) (bT bV O)))) O O O O (by exact (.box O O (.box O O (.box O (bX _ _ _ _) (.dead O .nil))))) dR<|aB<|rgN<|kad O O hadd<|kmv O<|aB ?_)
      exact ⟨_,eeSt (P++encRs (rs.take (i+1))) (na:Nat) (nb:Nat) (some ⟨blk,off,none⟩) rs.length cap (i+1) X,by omega,Le.ofR [(500,605)] (by exact ⟨rfl,rfl,rfl,rfl,rfl,trivial⟩) (by repeat' (first|exact trivial|refine cQ ⟨_,rfl,?_⟩ ?_|refine cQ ⟨_,rfl⟩ ?_|rfl|exact bX _ _ _ _|exact bY _ _ _ _|exact bZ rfl)) (by exact rfl) (by exact rfl) (by repeat' (first|refine bT ?_ ?_|rfl|exact bV|exact bU|exact bW rfl)) (by exact rfl) (by exact rfl),i+1,by omega,rfl,rfl⟩
    · have e:i=rs.length:=by omega
      subst e
      rw [dF]
      have q:=String_1 X (P++encRs rs)
      (refine aA<|rgN<|klt O O (cO (by omega))<|aB<|aA<|aF O ?_;refine aJ<|aA<|rgN<|kmv O<|aU [(1000000,14),(1000001,601),(1000002,500)] (w1 14 601 500 (P++encRs rs)) (q) O O (by exact (cQ ⟨_,O,O⟩ (cQ ⟨_,O,O⟩ (cQ ⟨_,O,(bX _ _ _ _)⟩ trivial)))) (by exact (bT (bT O (bT O O)) (bT (bT O O) (bT bV O)))) O O O O (by exact (.box O O (.box O O (.box O (bX _ _ _ _) .nil)))) dR<|kas O<|kas O<|aB<|aI ?_)
      exact ⟨[_,_],⟨O,O,trivial⟩,O⟩
  · rw [if_neg hz]
    have hne:(chkP p != 0)=true:=by rw [bne_iff_ne];exact hz
    generalize chkP p=ce at *
    refine cF Tryz.func11 rfl (by kernel_rfl) rfl rfl ?_
    intro C
    (refine aA<|rgN<|aL O O O dR<|kas O<|kas O<|aB<|aA<|aA<|rgN<|aK O O O dR ?_;refine kca O O hc<|kas O<|aB<|aA<|rgN<|kmv O<|kne O O hne<|aB<|aE O ?_;refine aA<|rgN<|kmv O<|kas O<|kas O<|aB<|aI ?_)
    exact ⟨[_,_],⟨O,O,trivial⟩,O⟩
end Go.Proofs.YtamplgnbbanamaaGreatDoor
end
section
namespace Go.Proofs.YtamplgnbbanamaaGreatDoor
open Go Go.Lg Go.Lg.Fml Go.Lg.Fld Go.Lg.Arith
set_option maxRecDepth 100000
theorem InsIn.one {X:Nat→Option Obj} {ad:Option Addr} {l:List Ins} (h:InsIn X ad l) {i:Nat} {x:Ins} (hx:l[i]? = some x):In2 x.k.2:=(h.small x (dD hx)).2.2.2
variable (X:Nat→Option Obj)
set_option maxHeartbeats 3200000 in
theorem kEq (ad ad2:Option Addr) (cap cap2:Nat) (a b:List Ins) (ha:InsIn X ad a) (hb:InsIn X ad2 b) (hbig:a.length<4611686018427387904):
    PSpec Tryz.prog X 82 [Lx ad a.length cap,Lx ad2 b.length cap2] (Lb (decide (a=b))):=by
  refine cF Tryz.func82 rfl (by kernel_rfl) rfl rfl ?_
  intro C
  by_cases hl:a.length=b.length
  · (refine aA<|rgN<|kas O<|aB<|aA<|aA<|rgN<|kmv O<|aQ O cC O dR ?_;refine kmv O<|aQ O cC O dR ?_;refine kne O O (r:=false) (by rw [hl];simp)<|aB<|aF O ?_;refine aH ?_;refine aA<|aA<|rgN<|kmv O<|aQ O cC O dR ?_;refine kmv O<|aB<|aG ?_)
    refine cL (fun m σ=>∃ i:Nat,i≤a.length∧m=a.length-i∧a.take i=b.take i∧σ=⟨[(0,Lx ad a.length cap),(1,Lx ad2 b.length cap2),(12,Ln .i64 (a.length:Nat)),(13,Ln .i64 (i:Nat))],[],X⟩) a.length
      ⟨_,Le.of (by exact ⟨rfl,rfl,rfl,rfl,trivial⟩) (by exact trivial) (by exact rfl) (by exact rfl) (by exact rfl),0,by omega,rfl,rfl,rfl⟩ ?_
    rintro m σ ⟨i,hi,rfl,hpre,rfl⟩
    by_cases hlt:i<a.length
    · obtain ⟨f,hf⟩:∃ v,a[i]? = some v:=⟨_,cX hlt⟩
      obtain ⟨f',hf'⟩:∃ v,b[i]? = some v:=⟨_,cX (by omega)⟩
      obtain ⟨blk,off,arr,el,fr,rfl,hX,hsz,hcells,_⟩:=ha.at hf
      obtain ⟨blk',off',arr',el',fr',rfl,hX',hsz',hcells',_⟩:=hb.at hf'
      have hio:off+Int.toNat (i:Int)*6=off+i*6:=by simp
      have hio':off'+Int.toNat (i:Int)*6=off'+i*6:=by simp
      have qe:=insEq (x:=f) (y:=f') (ha.one hf) (hb.one hf')
      by_cases hq:f=f'
      · rw [cP hq] at qe
        (refine aA<|rgN<|klt O O (cP (by omega))<|aB<|aA<|aE O ?_;refine aH ?_;refine aA<|aG<|aA<|rgN<|kmv O<|kas O<|aB<|aA<|rgD mixed<|kmv O<|kmv O<|aR O O cC (by omega) hio dR<|aY O hX (by kernel_rfl) hsz hcells dR<|kmv O ?_;refine kmv O<|aR O O cC (by omega) hio' dR<|aY O hX' (by kernel_rfl) hsz' hcells' dR<|bR (us:=insV f) (vs:=insV f') O O O O (by kernel_rfl) (eqT_expr true qe) (.inr ⟨O,O⟩) dR<|aB<|rgA ?_;refine aF O ?_;refine aH ?_;refine rgN<|kad O O (cH (by omega))<|kmv O<|aB ?_)
        exact ⟨_,_,by omega,Le.of (by exact ⟨rfl,rfl,rfl,rfl,trivial⟩) (by exact trivial) (by exact rfl) (by exact rfl) (by exact rfl),i+1,by omega,rfl,by rw [take_snoc hf,take_snoc hf',hpre,hq],rfl⟩
      · rw [cO (show ¬a=b from fun e=>hq (by rw [e,hf'] at hf;exact (Option.some.inj hf).symm))]
        rw [cO hq] at qe
        (refine aA<|rgN<|klt O O (cP (by omega))<|aB<|aA<|aE O ?_;refine aH ?_;refine aA<|aG<|aA<|rgN<|kmv O<|kas O<|aB<|aA<|rgD mixed<|kmv O<|kmv O<|aR O O cC (by omega) hio dR<|aY O hX (by kernel_rfl) hsz hcells dR<|kmv O ?_;refine kmv O<|aR O O cC (by omega) hio' dR<|aY O hX' (by kernel_rfl) hsz' hcells' dR<|bR (us:=insV f) (vs:=insV f') O O O O (by kernel_rfl) (eqT_expr false qe) (.inr ⟨O,O⟩) dR<|aB<|rgA ?_;refine aE O ?_;refine aA<|rgN<|kas O<|aB<|aI ?_)
        exact ⟨[_],⟨O,trivial⟩,O⟩
    · have e:i=a.length:=by omega
      subst e
      rw [dF,List.take_of_length_le (by omega)] at hpre
      rw [cP hpre]
      (refine aA<|rgN<|klt O O (cO (by omega))<|aB<|aA<|aF O ?_;refine aJ<|aA<|rgN<|kas O<|aB<|aI ?_)
      exact ⟨[_],⟨O,trivial⟩,O⟩
  · rw [cO (show ¬a=b from fun e=>hl (by rw [e]))]
    (refine aA<|rgN<|kas O<|aB<|aA<|aA<|rgN<|kmv O<|aQ O cC O dR ?_;refine kmv O<|aQ O cC O dR ?_;refine kne O O (r:=true) (by rw [bne_iff_ne];omega)<|aB<|aE O ?_;refine aA<|rgN<|kas O<|aB<|aI ?_)
    exact ⟨[_],⟨O,trivial⟩,O⟩
theorem kSameCode (ad ad2:Option Addr) (cap cap2:Nat) (a b:List Ins) (ha:InsIn X ad a) (hb:InsIn X ad2 b) (hbig:a.length<4611686018427387904):
    PSpec Tryz.prog X 66 [Lx ad a.length cap,Lx ad2 b.length cap2] (Lb (decide (a=b))):=by
  have hq:=kEq X ad ad2 cap cap2 a b ha hb hbig
  refine cF Tryz.func66 rfl (by kernel_rfl) rfl rfl ?_
  intro C
  (refine aA<|rgN<|kas O<|aB<|aA<|rgN<|kmv O<|kmv O<|kca O O hq<|kas O<|aB<|aI ?_)
  exact ⟨[_],⟨O,trivial⟩,O⟩
set_option maxHeartbeats 3200000 in
theorem kEqCodes (ad ad2:Option Addr) (cap cap2:Nat) (a b:List (List Ins)) (ha:CodesIn X ad a) (hb:CodesIn X ad2 b) (hbig:a.length<4611686018427387904) (hfs:∀ c∈a,c.length<4611686018427387904):
    PSpec Tryz.prog X 65 [Lx ad a.length cap,Lx ad2 b.length cap2,Lf 66 []] (Lb (decide (a=b))):=by
  refine cF Tryz.func65 rfl (by kernel_rfl) rfl rfl ?_
  intro C
  by_cases hl:a.length=b.length
  · (refine aA<|rgN<|kas O<|aB<|aA<|aA<|rgN<|kmv O<|aQ O cC O dR ?_;refine kmv O<|aQ O cC O dR ?_;refine kne O O (r:=false) (by rw [hl];simp)<|aB<|aF O ?_;refine aH ?_;refine aA<|aA<|rgN<|kmv O<|aQ O cC O dR ?_;refine kmv O<|aB<|aG ?_)
    refine cL (fun m σ=>∃ i:Nat,i≤a.length∧m=a.length-i∧a.take i=b.take i∧σ=⟨[(1,Lx ad2 b.length cap2),(2,Lf 66 []),(15,Lx ad a.length cap),(16,Ln .i64 (a.length:Nat)),(17,Ln .i64 (i:Nat))],[],X⟩) a.length
      ⟨_,Le.of (by exact ⟨rfl,rfl,rfl,rfl,rfl,trivial⟩) (by exact trivial) (by exact rfl) (by exact rfl) (by exact rfl),0,by omega,rfl,rfl,rfl⟩ ?_
    rintro m σ ⟨i,hi,rfl,hpre,rfl⟩
    by_cases hlt:i<a.length
    · obtain ⟨c,hc⟩:∃ v,a[i]? = some v:=⟨_,cX hlt⟩
      obtain ⟨d,hd⟩:∃ v,b[i]? = some v:=⟨_,cX (by omega)⟩
      obtain ⟨blk,off,arr,el,fr,fad,fcap,rfl,hX,hcs,hF⟩:=ha.get hc
      obtain ⟨blk',off',arr',el',fr',fad',fcap',rfl,hX',hcs',hF'⟩:=hb.get hd
      have hio:off+Int.toNat (i:Int)*1=off+i*1:=by simp
      have hio':off'+Int.toNat (i:Int)*1=off'+i*1:=by simp
      have hq:=kSameCode X fad fad' fcap fcap' c d hF hF' (hfs c (dD hc))
      by_cases he:c=d
      · rw [cP he] at hq
        (refine aA<|rgN<|klt O O (cP (by omega))<|aB<|aA<|aE O ?_;refine aH ?_;refine aA<|aG<|aA<|rgN<|kmv O<|aR O O cC (by omega) hio dR<|aW O hX O hcs dR<|kas O<|kas O<|aB<|aA<|rgN<|kmv O<|kmv O ?_;refine aR O O cC (by omega) hio' dR<|aW O hX' O hcs' dR<|kas O<|aB<|aA<|rgN<|kmv O<|kmv O<|kmv O<|K.callF (caps:=[]) O O O hq dR ?_;refine aV O O dR<|aB<|aF O ?_;refine aH ?_;refine rgN<|kad O O (cH (by omega))<|kmv O<|aB ?_)
        exact ⟨_,_,by omega,Le.of (by exact ⟨rfl,rfl,rfl,rfl,rfl,trivial⟩) (by exact trivial) (by exact rfl) (by exact rfl) (by exact rfl),i+1,by omega,rfl,by rw [take_snoc hc,take_snoc hd,hpre,he],rfl⟩
      · rw [cO he] at hq
        rw [cO (show ¬a=b from fun e=>he (by rw [e,hd] at hc;exact (Option.some.inj hc).symm))]
        (refine aA<|rgN<|klt O O (cP (by omega))<|aB<|aA<|aE O ?_;refine aH ?_;refine aA<|aG<|aA<|rgN<|kmv O<|aR O O cC (by omega) hio dR<|aW O hX O hcs dR<|kas O<|kas O<|aB<|aA<|rgN<|kmv O<|kmv O ?_;refine aR O O cC (by omega) hio' dR<|aW O hX' O hcs' dR<|kas O<|aB<|aA<|rgN<|kmv O<|kmv O<|kmv O<|K.callF (caps:=[]) O O O hq dR ?_;refine aV O O dR<|aB<|aE O ?_;refine aA<|rgN<|kas O<|aB<|aI ?_)
        exact ⟨[_],⟨O,trivial⟩,O⟩
    · have e:i=a.length:=by omega
      subst e
      rw [dF,List.take_of_length_le (by omega)] at hpre
      rw [cP hpre]
      (refine aA<|rgN<|klt O O (cO (by omega))<|aB<|aA<|aF O ?_;refine aJ<|aA<|rgN<|kas O<|aB<|aI ?_)
      exact ⟨[_],⟨O,trivial⟩,O⟩
  · rw [cO (show ¬a=b from fun e=>hl (by rw [e]))]
    (refine aA<|rgN<|kas O<|aB<|aA<|aA<|rgN<|kmv O<|aQ O cC O dR ?_;refine kmv O<|aQ O cC O dR ?_;refine kne O O (r:=true) (by rw [bne_iff_ne];omega)<|aB<|aE O ?_;refine aA<|rgN<|kas O<|aB<|aI ?_)
    exact ⟨[_],⟨O,trivial⟩,O⟩
set_option maxHeartbeats 3200000 in
theorem kSameRule (r q:Rl) (ad ad2:Option Addr) (cap cap2:Nat) (ha:CodesIn X ad r.ex) (hb:CodesIn X ad2 q.ex) (hbig:r.ex.length<4611686018427387904) (hfs:∀ c∈r.ex,c.length<4611686018427387904):
    PSpec Tryz.prog X 43 [LPg r.nw r.old ad r.ex.length cap,LPg q.nw q.old ad2 q.ex.length cap2] (Lb (decide (r=q))):=by
  refine cF Tryz.func43 rfl (by kernel_rfl) rfl rfl ?_
  intro C
  obtain ⟨n1,o1,x1⟩:=r
  obtain ⟨n2,o2,x2⟩:=q
  simp only at ha hb hbig hfs ⊢
  by_cases h1:n1=n2
  case neg =>
    rw [cO (fun e=>h1 (congrArg Rl.nw e))]
    (refine aA<|rgN<|aL O O O dR<|aL O O O dR<|kas O<|aB<|aA<|rgN<|kfa O O ?_;refine kl1 O O O<|kfa O O ?_;refine kl1 O O O<|keq O O (cR h1)<|kmv O<|aC O O O<|aC O O O<|aC O O O<|aC O O O<|aC O O O<|kpf O O<|kmv O<|aC O O O<|aC O O O<|aC O O O<|aC O O O ?_;refine aC O O O<|kpf O O<|kas O<|aB<|aI ?_)
    exact ⟨[_],⟨O,trivial⟩,O⟩
  by_cases h2:o1=o2
  case neg =>
    rw [cO (fun e=>h2 (congrArg Rl.old e))]
    (refine aA<|rgN<|aL O O O dR<|aL O O O dR<|kas O<|aB<|aA<|rgN<|kfa O O ?_;refine kl1 O O O<|kfa O O ?_;refine kl1 O O O<|keq O O (cU h1)<|kmv O<|aN O O (dS O O) ?_;refine aO O O O (dS O O) ?_;refine aN O O (dS O O) ?_;refine aO O O O (dS O O) ?_;refine bC O O (cR h2) (dS O O) ?_;refine kpt O O<|kmv O<|aC O O O<|aC O O O<|aC O O O<|aC O O O<|aC O O O<|kpf O O<|kas O<|aB<|aI ?_)
    exact ⟨[_],⟨O,trivial⟩,O⟩
  have hF:=kEqCodes X ad ad2 cap cap2 x1 x2 ha hb hbig hfs
  have e:decide ((⟨n1,o1,x1⟩:Rl)=⟨n2,o2,x2⟩)=decide (x1=x2):=by
    subst h1 h2
    simp
  rw [e]
  generalize decide (x1=x2)=d at *
  (refine aA<|rgN<|aL O O O dR<|aL O O O dR<|kas O<|aB<|aA<|rgN<|kfa O O ?_;refine kl1 O O O<|kfa O O ?_;refine kl1 O O O<|keq O O (cU h1)<|kmv O<|aN O O (dS O O) ?_;refine aO O O O (dS O O) ?_;refine aN O O (dS O O) ?_;refine aO O O O (dS O O) ?_;refine bC O O (cU h2) (dS O O) ?_;refine kpt O O<|kmv O<|aN O O (dS O O) ?_;refine aO O O O (dS O O) ?_;refine aN O O (dS O O) ?_;refine aO O O O (dS O O) ?_;refine gca O O hF O O<|kpt O O<|kas O<|aB<|aI ?_)
  exact ⟨[_],⟨O,trivial⟩,O⟩
set_option maxHeartbeats 3200000 in
theorem kEqRules (ad ad2:Option Addr) (cap cap2:Nat) (a b:List Rl) (ha:RulesIn X ad a) (hb:RulesIn X ad2 b) (hbig:a.length<4611686018427387904) (hsz:sizeR a):
    PSpec Tryz.prog X 42 [Lx ad a.length cap,Lx ad2 b.length cap2,Lf 43 []] (Lb (decide (a=b))):=by
  refine cF Tryz.func42 rfl (by kernel_rfl) rfl rfl ?_
  intro C
  by_cases hl:a.length=b.length
  · (refine aA<|rgN<|kas O<|aB<|aA<|aA<|rgN<|kmv O<|aQ O cC O dR ?_;refine kmv O<|aQ O cC O dR ?_;refine kne O O (r:=false) (by rw [hl];simp)<|aB<|aF O ?_;refine aH ?_;refine aA<|aA<|rgN<|kmv O<|aQ O cC O dR ?_;refine kmv O<|aB<|aG ?_)
    refine cL (fun m σ=>∃ i:Nat,i≤a.length∧m=a.length-i∧a.take i=b.take i∧σ=⟨[(1,Lx ad2 b.length cap2),(2,Lf 43 []),(15,Lx ad a.length cap),(16,Ln .i64 (a.length:Nat)),(17,Ln .i64 (i:Nat))],[],X⟩) a.length
      ⟨_,Le.of (by exact ⟨rfl,rfl,rfl,rfl,rfl,trivial⟩) (by exact trivial) (by exact rfl) (by exact rfl) (by exact rfl),0,by omega,rfl,rfl,rfl⟩ ?_
    rintro m σ ⟨i,hi,rfl,hpre,rfl⟩
    by_cases hlt:i<a.length
    · obtain ⟨c,hc⟩:∃ v,a[i]? = some v:=⟨_,cX hlt⟩
      obtain ⟨d,hd⟩:∃ v,b[i]? = some v:=⟨_,cX (by omega)⟩
      obtain ⟨blk,off,arr,el,fr,fad,fcap,rfl,hX,hsz1,hcs,_,_,_,hF⟩:=ha.get hc
      obtain ⟨blk',off',arr',el',fr',fad',fcap',rfl,hX',hsz2,hcs',_,_,_,hF'⟩:=hb.get hd
      have hio:off+Int.toNat (i:Int)*3=off+i*3:=by simp
      have hio':off'+Int.toNat (i:Int)*3=off'+i*3:=by simp
      obtain ⟨z1,z2⟩:=hsz c (dD hc)
      have hq:=kSameRule X c d fad fad' fcap fcap' hF hF' (by omega) (fun x hx=>by have:=z2 x hx;omega)
      by_cases he:c=d
      · rw [cP he] at hq
        (refine aA<|rgN<|klt O O (cP (by omega))<|aB<|aA<|aE O ?_;refine aH ?_;refine aA<|aG<|aA<|rgN<|kmv O<|aR O O cC (by omega) hio dR<|aY O hX (by kernel_rfl) hsz1 hcs dR<|aP O dR ?_;refine kas O<|aM O O O O O O dR ?_;refine aB<|aA<|rgN<|kmv O<|kmv O<|aR O O cC (by omega) hio' dR<|aY O hX' (by kernel_rfl) hsz2 hcs' dR<|aP O dR ?_;refine aM O O O O O O dR ?_;refine aB<|aA<|rgN<|kmv O<|aK O O O dR ?_;refine aK O O O dR ?_;refine K.callF (caps:=[]) O O O hq dR ?_;refine aV O O dR<|aB<|aF O ?_;refine aH ?_;refine rgN<|kad O O (cH (by omega))<|kmv O<|aB ?_)
        exact ⟨_,_,by omega,Le.of (by exact ⟨rfl,rfl,rfl,rfl,rfl,trivial⟩) (by exact trivial) (by exact rfl) (by exact rfl) (by exact rfl),i+1,by omega,rfl,by rw [take_snoc hc,take_snoc hd,hpre,he],rfl⟩
      · rw [cO he] at hq
        rw [cO (show ¬a=b from fun e=>he (by rw [e,hd] at hc;exact (Option.some.inj hc).symm))]
        (refine aA<|rgN<|klt O O (cP (by omega))<|aB<|aA<|aE O ?_;refine aH ?_;refine aA<|aG<|aA<|rgN<|kmv O<|aR O O cC (by omega) hio dR<|aY O hX (by kernel_rfl) hsz1 hcs dR<|aP O dR ?_;refine kas O<|aM O O O O O O dR ?_;refine aB<|aA<|rgN<|kmv O<|kmv O<|aR O O cC (by omega) hio' dR<|aY O hX' (by kernel_rfl) hsz2 hcs' dR<|aP O dR ?_;refine aM O O O O O O dR ?_;refine aB<|aA<|rgN<|kmv O<|aK O O O dR ?_;refine aK O O O dR ?_;refine K.callF (caps:=[]) O O O hq dR ?_;refine aV O O dR<|aB<|aE O ?_;refine aA<|rgN<|kas O<|aB<|aI ?_)
        exact ⟨[_],⟨O,trivial⟩,O⟩
    · have e:i=a.length:=by omega
      subst e
      rw [dF,List.take_of_length_le (by omega)] at hpre
      rw [cP hpre]
      (refine aA<|rgN<|klt O O (cO (by omega))<|aB<|aA<|aF O ?_;refine aJ<|aA<|rgN<|kas O<|aB<|aI ?_)
      exact ⟨[_],⟨O,trivial⟩,O⟩
  · rw [cO (show ¬a=b from fun e=>hl (by rw [e]))]
    (refine aA<|rgN<|kas O<|aB<|aA<|aA<|rgN<|kmv O<|aQ O cC O dR ?_;refine kmv O<|aQ O cC O dR ?_;refine kne O O (r:=true) (by rw [bne_iff_ne];omega)<|aB<|aE O ?_;refine aA<|rgN<|kas O<|aB<|aI ?_)
    exact ⟨[_],⟨O,trivial⟩,O⟩
set_option maxHeartbeats 3200000 in
theorem kSame (p q:Pg) (ad ad2:Option Addr) (cap cap2:Nat) (ha:RulesIn X ad p.rs) (hb:RulesIn X ad2 q.rs) (hbig:p.rs.length<4611686018427387904) (hsz:sizeR p.rs):
    PSpec Tryz.prog X 19 [LPg p.va p.vb ad p.rs.length cap,LPg q.va q.vb ad2 q.rs.length cap2] (Lb (decide (p=q))):=by
  refine cF Tryz.func19 rfl (by kernel_rfl) rfl rfl ?_
  intro C
  obtain ⟨n1,o1,x1⟩:=p
  obtain ⟨n2,o2,x2⟩:=q
  simp only at ha hb hbig hsz ⊢
  by_cases h1:n1=n2
  case neg =>
    rw [cO (fun e=>h1 (congrArg Pg.va e))]
    (refine aA<|rgN<|aL O O O dR<|aL O O O dR<|kas O<|aB<|aA<|rgN<|kfa O O ?_;refine kl1 O O O<|kfa O O ?_;refine kl1 O O O<|keq O O (cR h1)<|kmv O<|aC O O O<|aC O O O<|aC O O O<|aC O O O<|aC O O O<|kpf O O<|kmv O<|aC O O O<|aC O O O<|aC O O O<|aC O O O ?_;refine aC O O O<|kpf O O<|kas O<|aB<|aI ?_)
    exact ⟨[_],⟨O,trivial⟩,O⟩
  by_cases h2:o1=o2
  case neg =>
    rw [cO (fun e=>h2 (congrArg Pg.vb e))]
    (refine aA<|rgN<|aL O O O dR<|aL O O O dR<|kas O<|aB<|aA<|rgN<|kfa O O ?_;refine kl1 O O O<|kfa O O ?_;refine kl1 O O O<|keq O O (cU h1)<|kmv O<|aN O O (dS O O) ?_;refine aO O O O (dS O O) ?_;refine aN O O (dS O O) ?_;refine aO O O O (dS O O) ?_;refine bC O O (cR h2) (dS O O) ?_;refine kpt O O<|kmv O<|aC O O O<|aC O O O<|aC O O O<|aC O O O<|aC O O O<|kpf O O<|kas O<|aB<|aI ?_)
    exact ⟨[_],⟨O,trivial⟩,O⟩
  have hF:=kEqRules X ad ad2 cap cap2 x1 x2 ha hb hbig hsz
  have e:decide ((⟨n1,o1,x1⟩:Pg)=⟨n2,o2,x2⟩)=decide (x1=x2):=by
    subst h1 h2
    simp
  rw [e]
  generalize decide (x1=x2)=d at *
  (refine aA<|rgN<|aL O O O dR<|aL O O O dR<|kas O<|aB<|aA<|rgN<|kfa O O ?_;refine kl1 O O O<|kfa O O ?_;refine kl1 O O O<|keq O O (cU h1)<|kmv O<|aN O O (dS O O) ?_;refine aO O O O (dS O O) ?_;refine aN O O (dS O O) ?_;refine aO O O O (dS O O) ?_;refine bC O O (cU h2) (dS O O) ?_;refine kpt O O<|kmv O<|aN O O (dS O O) ?_;refine aO O O O (dS O O) ?_;refine aN O O (dS O O) ?_;refine aO O O O (dS O O) ?_;refine gca O O hF O O<|kpt O O<|kas O<|aB<|aI ?_)
  exact ⟨[_],⟨O,trivial⟩,O⟩
end Go.Proofs.YtamplgnbbanamaaGreatDoor
end
section
namespace Go.Proofs.YtamplgnbbanamaaGreatDoor
open Go Go.Lg Go.Lg.Fml Go.Lg.Fld Go.Lg.Arith
set_option maxRecDepth 100000
def code0:List Ins:=[⟨2,0,0,(false,0)⟩,⟨1,0,0,(false,2)⟩,⟨7,0,0,(false,0)⟩]
theorem small_0:∀ x∈code0,smallI x:=by
  intro x hx
  simp only [code0,List.mem_cons,List.not_mem_nil,or_false] at hx
  rcases hx with rfl|rfl|rfl<;>exact ⟨by decide,by decide,by decide,by show (0:Int)≤_∧_<_;decide⟩
theorem itoa0:Lib.itoa 0=[48]:=by
  rw [show (0:Int)=((0:Nat):Int) from rfl]
  first
    | rfl
    | decide
    | simp [Lib.itoa,Lib.decDigits]
theorem dec2d:Lib.decDigits 2=[50]:=by
  rw [Lib.decDigits_one (by decide)]
  rfl
theorem show0:showX code0=[109,117,108,40,102,48,46,48,44,50,41]:=by
  have h1:textQ 2=[50]:=dec2d
  have h2:=itoa0
  unfold showX
  rw [if_pos (by rfl)]
  show ((wordX 7++[40])++joinS [([102]++dg1 0)++([46]++dg1 0),textQ (zz (false,2))])++[41]=_
  rw [show zz (false,2)=2 from rfl,h1,show dg1 0=[48] from h2]
  rfl
variable (X:Nat→Option Obj)
end Go.Proofs.YtamplgnbbanamaaGreatDoor
end
section
namespace Go.Proofs.YtamplgnbbanamaaGreatDoor
open Go Go.Lg Go.Lg.Fld
set_option maxRecDepth 100000
abbrev Ext (X Y:Nat→Option Obj):Prop := ∀ b o,X b=some o→Y b=some o
theorem row_cell {arr:Array Value} {p sz:Nat} {r:List Value} (h:(arr.toList.drop p).take sz=r) {j:Nat} (hj:j<sz):arr[p+j]? = r[j]? := by
  rw [← h,List.getElem?_take,if_pos hj,List.getElem?_drop,Array.getElem?_toList]
variable (X:Nat→Option Obj)
end Go.Proofs.YtamplgnbbanamaaGreatDoor
end
section
namespace Go.Proofs.YtamplgnbbanamaaGreatDoor
open Go Go.Lg Go.Lg.Fld
set_option maxRecDepth 100000
theorem reads_rows {X:Nat→Option Obj} {ad:Option Addr} {sz:Nat} {rows:List (List Value)} (hsz:1≤sz) (hl:∀ r∈rows,r.length=sz) (h:Go.Lg.RowsIn X ad sz rows):ReadsX X ad rows.flatten:=⟨fun j u hj=>by
  have hfl:rows.flatten.length=rows.length*sz:=by
    clear h hj
    induction rows with
    | nil=>simp
    | cons r t ih =>
      simp only [List.flatten_cons,cV,dI,ih (fun x hx=>hl x (by simp [hx])),hl r (by simp)]
      rw [Nat.add_mul,Nat.one_mul];omega
  have hjl:=(List.getElem?_eq_some_iff.1 hj).1
  have hi:j/sz<rows.length:=Nat.div_lt_of_lt_mul (by rw [Nat.mul_comm];omega)
  obtain ⟨r,hr⟩:∃ r,rows[j/sz]? = some r:=⟨_,cX hi⟩
  obtain ⟨h1,h2⟩:=flat_row hl (sp:=[]) hr
  rw [dJ] at h1 h2
  obtain ⟨blk,off,arr,el,fr,e1,e2,e3,e4⟩:=h _ r hr
  have hq:j%sz<sz:=Nat.mod_lt _ (by omega)
  have hje:j=j/sz*sz+j%sz:=by rw [Nat.mul_comm];exact (Nat.div_add_mod j sz).symm
  refine ⟨blk,off,arr,el,fr,e1,e2,?_⟩
  have h3:=row_cell e4 hq
  have h4:r[j%sz]? = some u:=by
    rw [← h2,List.getElem?_take,if_pos hq,List.getElem?_drop,← hje];exact hj
  rw [h4] at h3
  rw [hje,← Nat.add_assoc];exact h3⟩
end Go.Proofs.YtamplgnbbanamaaGreatDoor
end
section
namespace Go.Proofs.YtamplgnbbanamaaGreatDoor
open Go Go.Lg Go.Lg.Fml Go.Lg.Fld Go.Lg.Arith
set_option maxRecDepth 100000
def RowV (Y:Nat→Option Obj) (vs:List Value) (fs:List (List Nm)):Prop:=vs.length=fs.length∧∀ (i:Nat) (r:List Nm),fs[i]? = some r→∃ (ad:Option Addr) (cap:Nat),vs[i]? = some (.slice ad r.length cap)∧NumsIn Y ad r
variable (X:Nat→Option Obj)
end Go.Proofs.YtamplgnbbanamaaGreatDoor
end
section
namespace Go.Proofs.YtamplgnbbanamaaGreatDoor
open Go Go.Lg Go.Lg.Fml Go.Lg.Fld Go.Lg.Arith
set_option maxRecDepth 100000
variable (X:Nat→Option Obj)
theorem inssV_one (l:List Ins):∀ u∈inssV l,u.oneCell'=true:=fun u hu=>by
  unfold inssV at hu
  rw [List.mem_flatten] at hu
  obtain ⟨q,hq,hu⟩:=hu
  obtain ⟨n,_,rfl⟩:=List.mem_map.1 hq
  unfold insV at hu
  simp only [List.mem_cons,List.not_mem_nil,or_false] at hu
  rcases hu with rfl|rfl|rfl|rfl|rfl|rfl<;>rfl
theorem ins_reads {X:Nat→Option Obj} {ad:Option Addr} {l:List Ins} (h:InsIn X ad l):ReadsX X ad (inssV l):=reads_rows (by decide) (fun q hq=>by obtain ⟨x,_,rfl⟩:=List.mem_map.1 hq;rfl) h.rows
end Go.Proofs.YtamplgnbbanamaaGreatDoor
end
