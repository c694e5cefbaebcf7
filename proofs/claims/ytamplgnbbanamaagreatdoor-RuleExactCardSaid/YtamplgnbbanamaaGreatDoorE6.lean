/- A piece of a proof over this program: contracts of its functions, and a logic to prove them by. -/
import Derived.Test.YtamplgnbbanamaaGreatDoorE3
import Derived.Test.YtamplgnbbanamaaGreatDoorE4
import Derived.Test.YtamplgnbbanamaaGreatDoorE5
import Derived.Lib.Join
import Derived.Lib.SmallJoins
import Derived.Test.YtamplgnbbanamaaGreatDoorRows
section
namespace Go.Proofs.YtamplgnbbanamaaGreatDoor
open Go Go.Lg Go.Lg.Fml Go.Lg.Fld Go.Lg.Arith
set_option maxRecDepth 100000
abbrev ptrF (f:FuncId) (k:Nat):CV:=.fn (.func f) (fun i=>[pv i]) k
abbrev fnV (f:FuncId):Value:=.func (.func f) #[] #[]
abbrev vB (t:TypeId) (k:Nat) (c:CV):Nat×Option Box:=(k,some ⟨t,[c],false⟩)
variable (X:Nat→Option Obj)
theorem mA_ofTwo (g:FuncId):MSpec Tryz.prog X 107 [.sv (.one (.val (fnV g)))] [] (.sv (.one (ptrF 133 1000001))) [vB 173 1000001 (.val (fnV g))]:=by
  refine cG Tryz.func107 rfl (by kernel_rfl) rfl (by exact (by repeat' (first|refine bT ?_ ?_|rfl|exact bV|exact bU|exact bW rfl))) (by exact (by repeat' (first|refine bT ?_ ?_|rfl|exact bV|exact bU|exact bW rfl))) rfl rfl ?_
  intro C
  (refine aA<|rgN<|K.box1 O O O dR<|kas O<|aB<|aA<|rgN<|K.makeFuncP O O dR ?_;refine kas O<|aB<|aI ?_)
  exact ⟨[(1000001,1)],⟨[_],⟨rfl,trivial⟩,rfl⟩,(by repeat' (first|exact trivial|refine cQ ⟨_,rfl,?_⟩ ?_|refine cQ ⟨_,rfl⟩ ?_|rfl|exact bX _ _ _ _|exact bY _ _ _ _|exact bZ rfl)),rfl,rfl⟩
theorem mB_ofTwo (g h:FuncId) (t:TypeId):MSpec Tryz.prog X 107 [.sv (.one (ptrF g 1000002))] [vB t 1000002 (.val (fnV h))] (.sv (.one (ptrF 133 1000001))) [vB 173 1000001 (ptrF g 1000002),vB t 1000002 (.val (fnV h))]:=by
  refine cG Tryz.func107 rfl (by kernel_rfl) rfl (by exact (by repeat' (first|refine bT ?_ ?_|rfl|exact bV|exact bU|exact bW rfl))) (by exact (by repeat' (first|refine bT ?_ ?_|rfl|exact bV|exact bU|exact bW rfl))) rfl rfl ?_
  intro C
  (refine aA<|rgN<|K.box1 O O O dR<|kas O<|aB<|aA<|rgN<|K.makeFuncP O O dR ?_;refine kas O<|aB<|aI ?_)
  exact ⟨[(1000001,1)],⟨[_],⟨rfl,trivial⟩,rfl⟩,(by repeat' (first|exact trivial|refine cQ ⟨_,rfl,?_⟩ ?_|refine cQ ⟨_,rfl⟩ ?_|rfl|exact bX _ _ _ _|exact bY _ _ _ _|exact bZ rfl)),rfl,rfl⟩
theorem mC_ofTwo (g h i:FuncId) (t:TypeId):MSpec Tryz.prog X 107 [.sv (.one (ptrF g 1000002))] [vB t 1000002 (ptrF h 1000003),vB t 1000003 (.val (fnV i))] (.sv (.one (ptrF 133 1000001))) [vB 173 1000001 (ptrF g 1000002),vB t 1000002 (ptrF h 1000003),vB t 1000003 (.val (fnV i))]:=by
  refine cG Tryz.func107 rfl (by kernel_rfl) rfl (by exact (by repeat' (first|refine bT ?_ ?_|rfl|exact bV|exact bU|exact bW rfl))) (by exact (by repeat' (first|refine bT ?_ ?_|rfl|exact bV|exact bU|exact bW rfl))) rfl rfl ?_
  intro C
  (refine aA<|rgN<|K.box1 O O O dR<|kas O<|aB<|aA<|rgN<|K.makeFuncP O O dR ?_;refine kas O<|aB<|aI ?_)
  exact ⟨[(1000001,1)],⟨[_],⟨rfl,trivial⟩,rfl⟩,(by repeat' (first|exact trivial|refine cQ ⟨_,rfl,?_⟩ ?_|refine cQ ⟨_,rfl⟩ ?_|rfl|exact bX _ _ _ _|exact bY _ _ _ _|exact bZ rfl)),rfl,rfl⟩
theorem mB_ofOne (g h:FuncId) (t:TypeId):MSpec Tryz.prog X 113 [.sv (.one (ptrF g 1000002))] [vB t 1000002 (.val (fnV h))] (.sv (.one (ptrF 144 1000001))) [vB 171 1000001 (ptrF g 1000002),vB t 1000002 (.val (fnV h))]:=by
  refine cG Tryz.func113 rfl (by kernel_rfl) rfl (by exact (by repeat' (first|refine bT ?_ ?_|rfl|exact bV|exact bU|exact bW rfl))) (by exact (by repeat' (first|refine bT ?_ ?_|rfl|exact bV|exact bU|exact bW rfl))) rfl rfl ?_
  intro C
  (refine aA<|rgN<|K.box1 O O O dR<|kas O<|aB<|aA<|rgN<|K.makeFuncP O O dR ?_;refine kas O<|aB<|aI ?_)
  exact ⟨[(1000001,1)],⟨[_],⟨rfl,trivial⟩,rfl⟩,(by repeat' (first|exact trivial|refine cQ ⟨_,rfl,?_⟩ ?_|refine cQ ⟨_,rfl⟩ ?_|rfl|exact bX _ _ _ _|exact bY _ _ _ _|exact bZ rfl)),rfl,rfl⟩
theorem mA_ofThree (g:FuncId):MSpec Tryz.prog X 119 [.sv (.one (.val (fnV g)))] [] (.sv (.one (ptrF 150 1000001))) [vB 206 1000001 (.val (fnV g))]:=by
  refine cG Tryz.func119 rfl (by kernel_rfl) rfl (by exact (by repeat' (first|refine bT ?_ ?_|rfl|exact bV|exact bU|exact bW rfl))) (by exact (by repeat' (first|refine bT ?_ ?_|rfl|exact bV|exact bU|exact bW rfl))) rfl rfl ?_
  intro C
  (refine aA<|rgN<|K.box1 O O O dR<|kas O<|aB<|aA<|rgN<|K.makeFuncP O O dR ?_;refine kas O<|aB<|aI ?_)
  exact ⟨[(1000001,1)],⟨[_],⟨rfl,trivial⟩,rfl⟩,(by repeat' (first|exact trivial|refine cQ ⟨_,rfl,?_⟩ ?_|refine cQ ⟨_,rfl⟩ ?_|rfl|exact bX _ _ _ _|exact bY _ _ _ _|exact bZ rfl)),rfl,rfl⟩
theorem mA_withZero (g:FuncId):MSpec Tryz.prog X 114 [.sv (.one (.val (fnV g)))] [] (.sv (.one (ptrF 145 1000001))) [vB 173 1000001 (.val (fnV g))]:=by
  refine cG Tryz.func114 rfl (by kernel_rfl) rfl (by exact (by repeat' (first|refine bT ?_ ?_|rfl|exact bV|exact bU|exact bW rfl))) (by exact (by repeat' (first|refine bT ?_ ?_|rfl|exact bV|exact bU|exact bW rfl))) rfl rfl ?_
  intro C
  (refine aA<|rgN<|K.box1 O O O dR<|kas O<|aB<|aA<|rgN<|K.makeFuncP O O dR ?_;refine kas O<|aB<|aI ?_)
  exact ⟨[(1000001,1)],⟨[_],⟨rfl,trivial⟩,rfl⟩,(by repeat' (first|exact trivial|refine cQ ⟨_,rfl,?_⟩ ?_|refine cQ ⟨_,rfl⟩ ?_|rfl|exact bX _ _ _ _|exact bY _ _ _ _|exact bZ rfl)),rfl,rfl⟩
theorem mA_chosen (g:FuncId):MSpec Tryz.prog X 115 [.sv (.one (.val (fnV g)))] [] (.sv (.one (ptrF 146 1000001))) [vB 173 1000001 (.val (fnV g))]:=by
  refine cG Tryz.func115 rfl (by kernel_rfl) rfl (by exact (by repeat' (first|refine bT ?_ ?_|rfl|exact bV|exact bU|exact bW rfl))) (by exact (by repeat' (first|refine bT ?_ ?_|rfl|exact bV|exact bU|exact bW rfl))) rfl rfl ?_
  intro C
  (refine aA<|rgN<|K.box1 O O O dR<|kas O<|aB<|aA<|rgN<|K.makeFuncP O O dR ?_;refine kas O<|aB<|aI ?_)
  exact ⟨[(1000001,1)],⟨[_],⟨rfl,trivial⟩,rfl⟩,(by repeat' (first|exact trivial|refine cQ ⟨_,rfl,?_⟩ ?_|refine cQ ⟨_,rfl⟩ ?_|rfl|exact bX _ _ _ _|exact bY _ _ _ _|exact bZ rfl)),rfl,rfl⟩
theorem mB_chosen (g h:FuncId) (t:TypeId):MSpec Tryz.prog X 115 [.sv (.one (ptrF g 1000002))] [vB t 1000002 (.val (fnV h))] (.sv (.one (ptrF 146 1000001))) [vB 173 1000001 (ptrF g 1000002),vB t 1000002 (.val (fnV h))]:=by
  refine cG Tryz.func115 rfl (by kernel_rfl) rfl (by exact (by repeat' (first|refine bT ?_ ?_|rfl|exact bV|exact bU|exact bW rfl))) (by exact (by repeat' (first|refine bT ?_ ?_|rfl|exact bV|exact bU|exact bW rfl))) rfl rfl ?_
  intro C
  (refine aA<|rgN<|K.box1 O O O dR<|kas O<|aB<|aA<|rgN<|K.makeFuncP O O dR ?_;refine kas O<|aB<|aI ?_)
  exact ⟨[(1000001,1)],⟨[_],⟨rfl,trivial⟩,rfl⟩,(by repeat' (first|exact trivial|refine cQ ⟨_,rfl,?_⟩ ?_|refine cQ ⟨_,rfl⟩ ?_|rfl|exact bX _ _ _ _|exact bY _ _ _ _|exact bZ rfl)),rfl,rfl⟩
theorem mA_swapped (g:FuncId):MSpec Tryz.prog X 117 [.sv (.one (.val (fnV g)))] [] (.sv (.one (ptrF 149 1000001))) [vB 173 1000001 (.val (fnV g))]:=by
  refine cG Tryz.func117 rfl (by kernel_rfl) rfl (by exact (by repeat' (first|refine bT ?_ ?_|rfl|exact bV|exact bU|exact bW rfl))) (by exact (by repeat' (first|refine bT ?_ ?_|rfl|exact bV|exact bU|exact bW rfl))) rfl rfl ?_
  intro C
  (refine aA<|rgN<|K.box1 O O O dR<|kas O<|aB<|aA<|rgN<|K.makeFuncP O O dR ?_;refine kas O<|aB<|aI ?_)
  exact ⟨[(1000001,1)],⟨[_],⟨rfl,trivial⟩,rfl⟩,(by repeat' (first|exact trivial|refine cQ ⟨_,rfl,?_⟩ ?_|refine cQ ⟨_,rfl⟩ ?_|rfl|exact bX _ _ _ _|exact bY _ _ _ _|exact bZ rfl)),rfl,rfl⟩
def deedR (f:FuncId) (op:Int):Rsc:=⟨fun ρ H=>DeedV H (.func (.func f) #[] #[pv ρ.1]) op⟩
section
variable {X:Nat→Option Obj} {n:Nat} {C:Ctx} {Mid:St→Prop} {s:List (Nat×LV)} {bx:List (Nat×Option Box)} {k k1 k2 k3:Nat} {t1 t2 t3:TypeId} {f g h:FuncId} {op:Int} {v:Value}
theorem deed_shut1 (hD:∀ (Y:Nat→Option Obj) b a e fr,Y b=some (.cells a e fr)→a[0]? = some v→DeedV Y (.func (.func f) #[] #[pv b]) op)
    (hl:Leads n C Mid ⟨s,(k,some ⟨0,[],.res (deedR f op)⟩)::bx,X⟩):Leads n C Mid ⟨s,vB t1 k (.val v)::bx,X⟩:=by
  have:=Leads.closeRes (el:=t1) (H:=fun _=>none) (vals:=[v]) (R:=deedR f op) (OwnedM.nil C X) (fun ρ fr _ _ _=>hD _ ρ.1 _ t1 fr (cN _ _ _) rfl) hl
  rw [joinM_nil] at this
  exact this
theorem deed_shut2 (hD:∀ (Y:Nat→Option Obj) b a e fr b' a' e' fr',Y b=some (.cells a e fr)→a[0]? = some v→Y b'=some (.cells a' e' fr')→a'[0]? = some (.func (.func g) #[] #[pv b])→DeedV Y (.func (.func f) #[] #[pv b']) op)
    (h1:Go.Lg.look k1 (vB t2 k2 (ptrF g k1)::bx)=none) (h2:s.all (fun p=>p.2.inUse (vB t2 k2 (ptrF g k1)::bx))=true) (h3:bx.all (fun p=>match p.2 with|some b=>b.cells.all (CV.inUse (vB t2 k2 (ptrF g k1)::bx))|none=>true)=true)
    (hl:Leads n C Mid ⟨s,(k2,some ⟨0,[],.res (deedR f op)⟩)::bx,X⟩):Leads n C Mid ⟨s,vB t2 k2 (ptrF g k1)::vB t1 k1 (.val v)::bx,X⟩:=by
  refine Leads.fixBox (vals:=[v]) (el:=t1) (row:=false) [] [vB t2 k2 (ptrF g k1)] h1 h2 h3 rfl (by simp [CV.fixIn]) ?_
  intro blk arr fr hX hF hsp
  obtain ⟨sp,hsp⟩:=hsp
  have ha:arr[0]? = some v:=by rw [← Array.getElem?_toList,hsp];rfl
  have hO:OwnedM C X (withBlock (fun _=>none) blk (.cells arr t1 fr)):=(OwnedM.nil C X).more hF (by rw [joinM_nil];exact hX)
  have e:withBlock X blk (.cells arr t1 fr)=joinM X (withBlock (fun _=>none) blk (.cells arr t1 fr)):=by rw [← joinM_with,joinM_nil]
  rw [e]
  have hfix:fixB k1 blk [vB t2 k2 (ptrF g k1)]++bx=(k2,some ⟨t2,([.func (.func g) #[] #[pv blk]]:List Value).map .val,false⟩)::bx:=by
    simp [fixB,Box.fix,CV.fix,Nat.beq_refl]
  rw [hfix]
  refine Leads.closeRes hO (fun ρ fr2 h5 h6 _ => ?_) hl
  exact hD _ blk arr t1 fr ρ.1 _ t2 fr2 (cJ h5 _ _ (cN _ _ _)) ha (cN _ _ _) O
theorem deed_shut3 (hD:∀ (Y:Nat→Option Obj) b a e fr b' a' e' fr' b2 a2 e2 fr2,Y b=some (.cells a e fr)→a[0]? = some v→Y b'=some (.cells a' e' fr')→a'[0]? = some (.func (.func h) #[] #[pv b])→Y b2=some (.cells a2 e2 fr2)→a2[0]? = some (.func (.func g) #[] #[pv b'])→DeedV Y (.func (.func f) #[] #[pv b2]) op)
    (h1:Go.Lg.look k1 (vB t3 k3 (ptrF g k2)::vB t2 k2 (ptrF h k1)::bx)=none) (h2:s.all (fun p=>p.2.inUse (vB t3 k3 (ptrF g k2)::vB t2 k2 (ptrF h k1)::bx))=true) (h3:bx.all (fun p=>match p.2 with|some b=>b.cells.all (CV.inUse (vB t3 k3 (ptrF g k2)::vB t2 k2 (ptrF h k1)::bx))|none=>true)=true)
    (h1':Go.Lg.look k2 (vB t3 k3 (ptrF g k2)::bx)=none) (h2':s.all (fun p=>p.2.inUse (vB t3 k3 (ptrF g k2)::bx))=true) (h3':bx.all (fun p=>match p.2 with|some b=>b.cells.all (CV.inUse (vB t3 k3 (ptrF g k2)::bx))|none=>true)=true) (h4:Nat.beq k2 k1=false)
    (hl:Leads n C Mid ⟨s,(k3,some ⟨0,[],.res (deedR f op)⟩)::bx,X⟩):Leads n C Mid ⟨s,vB t3 k3 (ptrF g k2)::vB t2 k2 (ptrF h k1)::vB t1 k1 (.val v)::bx,X⟩:=by
  have h5:(Go.Lg.look k2 (vB t3 k3 (ptrF g k2)::vB t2 k2 (ptrF h k1)::bx)).isSome=true:=by
    cases hb:Nat.beq k3 k2 with
    | true=>simp only [Go.Lg.look,hb,cond_true];rfl
    | false=>simp only [Go.Lg.look,hb,cond_false,Nat.beq_refl,cond_true];rfl
  refine Leads.fixBox (vals:=[v]) (el:=t1) (row:=false) [] [vB t3 k3 (ptrF g k2),vB t2 k2 (ptrF h k1)] h1 h2 h3 rfl (by simp only [List.all_cons,List.all_nil,CV.fixIn,Nat.beq_refl,Bool.true_or,Bool.and_true,Bool.or_eq_true];exact .inr h5) ?_
  intro blk arr fr hX hF hsp
  obtain ⟨sp,hsp⟩:=hsp
  have ha:arr[0]? = some v:=by rw [← Array.getElem?_toList,hsp];rfl
  have hO:OwnedM C X (withBlock (fun _=>none) blk (.cells arr t1 fr)):=(OwnedM.nil C X).more hF (by rw [joinM_nil];exact hX)
  have e:withBlock X blk (.cells arr t1 fr)=joinM X (withBlock (fun _=>none) blk (.cells arr t1 fr)):=by rw [← joinM_with,joinM_nil]
  rw [e]
  have hfix:fixB k1 blk [vB t3 k3 (ptrF g k2),vB t2 k2 (ptrF h k1)]++bx=vB t3 k3 (ptrF g k2)::(k2,some ⟨t2,([.func (.func h) #[] #[pv blk]]:List Value).map .val,false⟩)::bx:=by
    simp [fixB,Box.fix,CV.fix,Nat.beq_refl,h4]
  rw [hfix]
  refine Leads.fixBox (vals:=[.func (.func h) #[] #[pv blk]]) (el:=t2) (row:=false) [] [vB t3 k3 (ptrF g k2)] h1' h2' h3' rfl (by simp [CV.fixIn]) ?_
  intro blk2 arr2 fr2 hX2 hF2 hsp2
  obtain ⟨sp2,hsp2⟩:=hsp2
  have ha2:arr2[0]? = some (.func (.func h) #[] #[pv blk]):=by rw [← Array.getElem?_toList,hsp2];rfl
  have hO2:=hO.more (el:=t2) hF2 hX2
  have hn2:=(joinM_none hX2).1
  rw [joinM_with]
  have hfix:fixB k2 blk2 [vB t3 k3 (ptrF g k2)]++bx=(k3,some ⟨t3,([.func (.func g) #[] #[pv blk2]]:List Value).map .val,false⟩)::bx:=by
    simp [fixB,Box.fix,CV.fix,Nat.beq_refl]
  rw [hfix]
  refine Leads.closeRes hO2 (fun ρ fr3 h5 h6 _ => ?_) hl
  exact hD _ blk arr t1 fr blk2 arr2 t2 fr2 ρ.1 _ t3 fr3 (cJ h5 _ _ (cJ hn2 _ _ (cN _ _ _))) ha (cJ h5 _ _ (cN _ _ _)) ha2 (cN _ _ _) O
end
theorem gd_truth (b:Bool):gd (truth b)=true:=by cases b<;>rfl
theorem pick_truth (b:Bool) (x y:Nm):pickX (truth b) x y = .ok (if b=true then x else y):=by
  unfold pickX
  rw [gd_truth,if_neg (by decide)]
  cases b
  · rw [if_pos (show truth false=(false,0) from rfl)];rfl
  · rw [if_neg (show truth true≠(false,0) by decide)];rfl
theorem zz_inj {x y:Nm} (hx:In2 x.2) (hy:In2 y.2) (gx:gd x=true) (gy:gd y=true) (h:zz x=zz y):x=y:=by
  obtain ⟨a,M⟩:=x
  obtain ⟨b,N⟩:=y
  unfold gd formB at gx gy
  unfold zz zv at h
  unfold In2 at hx hy
  simp only at *
  cases a<;>cases b<;>simp_all<;>omega
theorem node_neg {u:Nm} (hu:In2 u.2):nodeX 10 [u]=doX 6 (false,0) u:=by
  rw [nodeX]
  unfold doX
  rw [show (gd (false,0)&&gd u)=gd u by rw [show gd (false,0)=true from rfl,Bool.true_and]]
  cases g:gd u with
  | false=>rfl
  | true =>
    have hr:=(gd_q g hu).2
    rw [if_neg (by decide),if_pos rfl,if_neg (by decide),if_neg (by omega),show arith 6 (zz (false,0)) (zz u) = -(zz u) by unfold arith;rw [if_neg (by decide),if_pos rfl,show zz (false,0)=0 from rfl];omega,if_pos (by unfold R127 at *;omega)]
theorem node_not (u:Nm):nodeX 15 [u]=sameX (false,0) u:=by
  rw [nodeX]
  unfold sameX truX
  rw [show (gd (false,0)&&gd u)=gd u by rw [show gd (false,0)=true from rfl,Bool.true_and],if_neg (show ¬ (15:Int)=10 by decide)]
  have e:decide (((false,0):Nm)=u)=decide (u=(false,0)):=by
    by_cases h:u=(false,0)
    · rw [cP h,cP h.symm]
    · rw [cO h,cO (fun e=>h e.symm)]
  rw [e]
theorem less_ok {x y a:Nm} (h:lessX x y = .ok a):In2 a.2:=by
  unfold lessX truX at h
  split at h
  · cases h
  · cases h;exact truth_in2 _
theorem less_err {x y:Nm} {e:Int} (h:lessX x y = .error e):e≠0:=by
  unfold lessX truX at h
  split at h
  · cases h;decide
  · cases h
theorem node_least {x y:Nm} (hx:In2 x.2) (hy:In2 y.2):nodeX 11 [x,y]=choX lessX x y:=by
  rw [nodeX]
  rw [if_neg (by decide),if_neg (by decide),if_pos (rfl:(11:Int)=11)]
  unfold choX lessX truX
  cases g:(gd x&&gd y) with
  | false=>rfl
  | true =>
    obtain ⟨gx,gy⟩:=Bool.and_eq_true_iff.1 g
    simp only [Bool.true_eq_false,if_false,pick_truth]
    by_cases h:zz x<zz y
    · rw [if_neg (by omega),if_pos (cP h)]
    · rw [if_neg (show ¬ decide (zz x<zz y)=true by rw [cO h];decide)]
      by_cases h2:zz y<zz x
      · rw [if_pos h2]
      · rw [if_neg h2,zz_inj hx hy gx gy (by omega)]
theorem node_great {x y:Nm} (hx:In2 x.2) (hy:In2 y.2):nodeX 12 [x,y]=choX (fun x y=>lessX y x) x y:=by
  rw [nodeX]
  rw [if_neg (by decide),if_neg (by decide),if_neg (show ¬ (12:Int)=11 by decide),if_pos (rfl:(12:Int)=12)]
  unfold choX lessX truX
  simp only
  rw [Bool.and_comm]
  cases g:(gd y&&gd x) with
  | false=>rfl
  | true =>
    obtain ⟨gy,gx⟩:=Bool.and_eq_true_iff.1 g
    simp only [Bool.true_eq_false,if_false,pick_truth]
    by_cases h:zz y<zz x
    · rw [if_neg (by omega),if_pos (cP h)]
    · rw [if_neg (show ¬ decide (zz y<zz x)=true by rw [cO h];decide)]
      by_cases h2:zz x<zz y
      · rw [if_pos h2]
      · rw [if_neg h2,zz_inj hx hy gx gy (by omega)]
theorem node_same (x y:Nm):nodeX 13 [x,y]=sameX x y:=by
  rw [nodeX]
  rw [if_neg (by decide),if_neg (by decide),if_neg (show ¬ (13:Int)=11 by decide),if_neg (show ¬ (13:Int)=12 by decide),if_pos (rfl:(13:Int)=13)]
  rfl
theorem node_less (x y:Nm):nodeX 14 [x,y]=lessX x y:=by
  rw [nodeX]
  rw [if_neg (by decide),if_neg (by decide),if_neg (show ¬ (14:Int)=11 by decide),if_neg (show ¬ (14:Int)=12 by decide),if_neg (show ¬ (14:Int)=13 by decide)]
  rfl
theorem node_need (x y:Nm):nodeX 17 [x,y]=needX x y:=by
  rw [nodeX]
  rw [if_neg (by decide),if_pos rfl]
  rfl
theorem node_do {op:Int} (ho:5≤op∧op≤9) (x y:Nm):nodeX op [x,y]=doX op x y:=if_pos ho
def cloF (op:Int):FuncId:=if op=16 then 150 else if op=10∨op=15 then 144 else 133
def wordS (op:Int):List UInt8:=if 5≤op∧op≤17 then wordX op else []
def rowL (op:Int):List Value:=[.string ⟨(wordS op).toArray⟩,.int .i64 (takes op:Nat),.bool (op==2||op==3),.bool (op==2),.bool (op==1)]
abbrev LRow (op:Int) (c:CV):LV:=.sv (.agg ((rowL op).map .val++[c]))
abbrev dB (k:Nat) (op:Int):Nat×Option Box:=(k,some ⟨0,[],.res (deedR (cloF op) op)⟩)
def leafV (op:Int):Value:=if op=1 then fnV 103 else if op=2 then fnV 104 else if op=3 then fnV 105 else if op=4 then fnV 106 else .nilFunc
def rwR (op:Int):LV:=if 5≤op∧op≤17 then LRow op (ptrF (cloF op) 1000001) else LRow op (.val (leafV op))
def rwBx (op:Int):List (Nat×Option Box):=if 5≤op∧op≤17 then [dB 1000001 op] else []
theorem rw_fn {op:Int} (h:5≤op∧op≤17):rwR op=LRow op (ptrF (cloF op) 1000001)∧rwBx op=[dB 1000001 op]:=⟨if_pos h,if_pos h⟩
theorem rw_no {op:Int} (h:¬ (5≤op∧op≤17)):rwR op=LRow op (.val (leafV op))∧rwBx op=[]:=⟨if_neg h,if_neg h⟩
theorem rwBx_use (op:Int):((rwBx op).all fun p=>match p.2 with|some b=>b.cells.all (CV.inUse (rwBx op))|none=>true)=true:=by
  by_cases h:5≤op∧op≤17
  · rw [(rw_fn h).2];rfl
  · rw [(rw_no h).2];rfl
theorem rwR_use (op:Int):LV.inUse (rwBx op) (rwR op)=true:=by
  by_cases h:5≤op∧op≤17
  · rw [(rw_fn h).1,(rw_fn h).2];rfl
  · rw [(rw_no h).1,(rw_no h).2];rfl
theorem rowL_bad {op:Int} (h:op<1∨17<op):rowL op=[.string ⟨#[]⟩,.int .i64 0,.bool false,.bool false,.bool false]:=by
  unfold rowL wordS
  rw [if_neg (by omega),takes_out (by omega),cR (show op≠2 by omega),cR (show op≠3 by omega),cR (show op≠1 by omega)]
  rfl
set_option maxHeartbeats 12800000 in
theorem rowOf_all (op:Int):MSpec Tryz.prog X 91 [Ln .i64 op] [] (rwR op) (rwBx op):=by
  refine cG Tryz.func91 rfl (by kernel_rfl) rfl (rwR_use op) (rwBx_use op) rfl rfl ?_
  intro C
  refine LWP.ends ?_
  (refine aA<|rgN<|aP O dR ?_;refine aB<|aA<|aA<|rgN<|kmv O<|aB<|aG<|aA ?_)
  by_cases c1:op=1
  · subst c1
    rw [(rw_no (op:=1) (by decide)).1,(rw_no (op:=1) (by decide)).2]
    (refine rgN<|keq O O (r:=true) O<|kas O<|aB<|aE O ?_;refine aA<|rgN<|aT O O (by exact O) (by exact nl3 O O O O) dR ?_;refine aT O O (by exact O) (by exact nl6 O O O O O O O) dR ?_;refine aM O O O O O O dR ?_;refine aB<|aI ?_)
    exact cD ⟨[],⟨[_],⟨⟨_,_,O,O,O,.inl ⟨AggT.h,O⟩⟩,trivial⟩,O⟩,trivial,O,O⟩
  (refine rgN<|keq O O (r:=false) (cR c1)<|kas O<|aB<|aF O ?_;refine aA ?_)
  by_cases c2:op=2
  · subst c2
    rw [(rw_no (op:=2) (by decide)).1,(rw_no (op:=2) (by decide)).2]
    (refine rgN<|keq O O (r:=true) O<|kas O<|aB<|aE O ?_;refine aA<|rgN<|aT O O (by exact O) (by exact nl3 O O O O) dR ?_;refine aT O O (by exact O) (by exact nl6 O O O O O O O) dR ?_;refine aM O O O O O O dR ?_;refine aB<|aI ?_)
    exact cD ⟨[],⟨[_],⟨⟨_,_,O,O,O,.inl ⟨AggT.h,O⟩⟩,trivial⟩,O⟩,trivial,O,O⟩
  (refine rgN<|keq O O (r:=false) (cR c2)<|kas O<|aB<|aF O ?_;refine aA ?_)
  by_cases c3:op=3
  · subst c3
    rw [(rw_no (op:=3) (by decide)).1,(rw_no (op:=3) (by decide)).2]
    (refine rgN<|keq O O (r:=true) O<|kas O<|aB<|aE O ?_;refine aA<|rgN<|aT O O (by exact O) (by exact nl3 O O O O) dR ?_;refine aT O O (by exact O) (by exact nl6 O O O O O O O) dR ?_;refine aM O O O O O O dR ?_;refine aB<|aI ?_)
    exact cD ⟨[],⟨[_],⟨⟨_,_,O,O,O,.inl ⟨AggT.h,O⟩⟩,trivial⟩,O⟩,trivial,O,O⟩
  (refine rgN<|keq O O (r:=false) (cR c3)<|kas O<|aB<|aF O ?_;refine aA ?_)
  by_cases c4:op=4
  · subst c4
    rw [(rw_no (op:=4) (by decide)).1,(rw_no (op:=4) (by decide)).2]
    (refine rgN<|keq O O (r:=true) O<|kas O<|aB<|aE O ?_;refine aA<|rgN<|aT O O (by exact O) (by exact nl6 O O O O O O O) dR ?_;refine aM O O O O O O dR ?_;refine aB<|aI ?_)
    exact cD ⟨[],⟨[_],⟨⟨_,_,O,O,O,.inl ⟨AggT.h,O⟩⟩,trivial⟩,O⟩,trivial,O,O⟩
  (refine rgN<|keq O O (r:=false) (cR c4)<|kas O<|aB<|aF O ?_;refine aA ?_)
  by_cases c5:op=5
  · subst c5
    rw [(rw_fn (op:=5) (by decide)).1,(rw_fn (op:=5) (by decide)).2]
    (refine rgN<|keq O O (r:=true) O<|kas O<|aB<|aE O ?_;refine aA<|rgN<|bE [(1000001,501)] (.sv (.one (ptrF 133 501))) [vB 173 501 (.val (fnV 108))] ((mA_ofTwo X 108)) O O (by exact trivial) O O O O O (by exact (.box O O .nil)) dR<|aT O O (by exact O) (by exact nl6 O O O O O O O) dR ?_;refine aM O O O O O O dR ?_;refine aB<|aI ?_)
    refine cE (σ':=⟨[(2,Lp 2)],vB 173 501 (.val (fnV 108))::(2,some ⟨137,(rowL 5).map .val++[ptrF (cloF 5) 501],false⟩)::[],X⟩) (Le.of (by exact ⟨O,trivial⟩) (by exact ⟨O,O,trivial⟩) (by exact O) (by exact O) (by repeat' (first|refine bT ?_ ?_|rfl|exact bV|exact bU|exact bW O))) ?_
    refine deed_shut1 (f:=cloF 5) (op:=5) (fun Y _ _ _ _ h1 h2=>deed_two O h1 h2 (two_fn Y (fun Z x y hx hy=>wAdd_do Z x y hx hy)) (fun u w _ _=>node_do (by decide) u w)) (cD ?_)
    exact ⟨[(1000001,501)],⟨[_],⟨⟨_,_,rfl,rfl,rfl,.inl ⟨AggT.h,rfl⟩⟩,trivial⟩,rfl⟩,(by repeat' (first|exact trivial|refine cQ ⟨_,rfl,?_⟩ ?_|refine cQ ⟨_,rfl⟩ ?_|rfl|exact bX _ _ _ _|exact bY _ _ _ _|exact bZ rfl)),rfl,rfl⟩
  (refine rgN<|keq O O (r:=false) (cR c5)<|kas O<|aB<|aF O ?_;refine aA ?_)
  by_cases c6:op=6
  · subst c6
    rw [(rw_fn (op:=6) (by decide)).1,(rw_fn (op:=6) (by decide)).2]
    (refine rgN<|keq O O (r:=true) O<|kas O<|aB<|aE O ?_;refine aA<|rgN<|bE [(1000001,501)] (.sv (.one (ptrF 133 501))) [vB 173 501 (.val (fnV 109))] ((mA_ofTwo X 109)) O O (by exact trivial) O O O O O (by exact (.box O O .nil)) dR<|aT O O (by exact O) (by exact nl6 O O O O O O O) dR ?_;refine aM O O O O O O dR ?_;refine aB<|aI ?_)
    refine cE (σ':=⟨[(2,Lp 2)],vB 173 501 (.val (fnV 109))::(2,some ⟨137,(rowL 6).map .val++[ptrF (cloF 6) 501],false⟩)::[],X⟩) (Le.of (by exact ⟨O,trivial⟩) (by exact ⟨O,O,trivial⟩) (by exact O) (by exact O) (by repeat' (first|refine bT ?_ ?_|rfl|exact bV|exact bU|exact bW O))) ?_
    refine deed_shut1 (f:=cloF 6) (op:=6) (fun Y _ _ _ _ h1 h2=>deed_two O h1 h2 (two_fn Y (fun Z x y hx hy=>wSub_do Z x y hx hy)) (fun u w _ _=>node_do (by decide) u w)) (cD ?_)
    exact ⟨[(1000001,501)],⟨[_],⟨⟨_,_,rfl,rfl,rfl,.inl ⟨AggT.h,rfl⟩⟩,trivial⟩,rfl⟩,(by repeat' (first|exact trivial|refine cQ ⟨_,rfl,?_⟩ ?_|refine cQ ⟨_,rfl⟩ ?_|rfl|exact bX _ _ _ _|exact bY _ _ _ _|exact bZ rfl)),rfl,rfl⟩
  (refine rgN<|keq O O (r:=false) (cR c6)<|kas O<|aB<|aF O ?_;refine aA ?_)
  by_cases c7:op=7
  · subst c7
    rw [(rw_fn (op:=7) (by decide)).1,(rw_fn (op:=7) (by decide)).2]
    (refine rgN<|keq O O (r:=true) O<|kas O<|aB<|aE O ?_;refine aA<|rgN<|bE [(1000001,501)] (.sv (.one (ptrF 133 501))) [vB 173 501 (.val (fnV 110))] ((mA_ofTwo X 110)) O O (by exact trivial) O O O O O (by exact (.box O O .nil)) dR<|aT O O (by exact O) (by exact nl6 O O O O O O O) dR ?_;refine aM O O O O O O dR ?_;refine aB<|aI ?_)
    refine cE (σ':=⟨[(2,Lp 2)],vB 173 501 (.val (fnV 110))::(2,some ⟨137,(rowL 7).map .val++[ptrF (cloF 7) 501],false⟩)::[],X⟩) (Le.of (by exact ⟨O,trivial⟩) (by exact ⟨O,O,trivial⟩) (by exact O) (by exact O) (by repeat' (first|refine bT ?_ ?_|rfl|exact bV|exact bU|exact bW O))) ?_
    refine deed_shut1 (f:=cloF 7) (op:=7) (fun Y _ _ _ _ h1 h2=>deed_two O h1 h2 (two_fn Y (fun Z x y hx hy=>wMul_do Z x y hx hy)) (fun u w _ _=>node_do (by decide) u w)) (cD ?_)
    exact ⟨[(1000001,501)],⟨[_],⟨⟨_,_,rfl,rfl,rfl,.inl ⟨AggT.h,rfl⟩⟩,trivial⟩,rfl⟩,(by repeat' (first|exact trivial|refine cQ ⟨_,rfl,?_⟩ ?_|refine cQ ⟨_,rfl⟩ ?_|rfl|exact bX _ _ _ _|exact bY _ _ _ _|exact bZ rfl)),rfl,rfl⟩
  (refine rgN<|keq O O (r:=false) (cR c7)<|kas O<|aB<|aF O ?_;refine aA ?_)
  by_cases c8:op=8
  · subst c8
    rw [(rw_fn (op:=8) (by decide)).1,(rw_fn (op:=8) (by decide)).2]
    (refine rgN<|keq O O (r:=true) O<|kas O<|aB<|aE O ?_;refine aA<|rgN<|bE [(1000001,501)] (.sv (.one (ptrF 133 501))) [vB 173 501 (.val (fnV 111))] ((mA_ofTwo X 111)) O O (by exact trivial) O O O O O (by exact (.box O O .nil)) dR<|aT O O (by exact O) (by exact nl6 O O O O O O O) dR ?_;refine aM O O O O O O dR ?_;refine aB<|aI ?_)
    refine cE (σ':=⟨[(2,Lp 2)],vB 173 501 (.val (fnV 111))::(2,some ⟨137,(rowL 8).map .val++[ptrF (cloF 8) 501],false⟩)::[],X⟩) (Le.of (by exact ⟨O,trivial⟩) (by exact ⟨O,O,trivial⟩) (by exact O) (by exact O) (by repeat' (first|refine bT ?_ ?_|rfl|exact bV|exact bU|exact bW O))) ?_
    refine deed_shut1 (f:=cloF 8) (op:=8) (fun Y _ _ _ _ h1 h2=>deed_two O h1 h2 (two_fn Y (fun Z x y hx hy=>wQuo_do Z x y hx hy)) (fun u w _ _=>node_do (by decide) u w)) (cD ?_)
    exact ⟨[(1000001,501)],⟨[_],⟨⟨_,_,rfl,rfl,rfl,.inl ⟨AggT.h,rfl⟩⟩,trivial⟩,rfl⟩,(by repeat' (first|exact trivial|refine cQ ⟨_,rfl,?_⟩ ?_|refine cQ ⟨_,rfl⟩ ?_|rfl|exact bX _ _ _ _|exact bY _ _ _ _|exact bZ rfl)),rfl,rfl⟩
  (refine rgN<|keq O O (r:=false) (cR c8)<|kas O<|aB<|aF O ?_;refine aA ?_)
  by_cases c9:op=9
  · subst c9
    rw [(rw_fn (op:=9) (by decide)).1,(rw_fn (op:=9) (by decide)).2]
    (refine rgN<|keq O O (r:=true) O<|kas O<|aB<|aE O ?_;refine aA<|rgN<|bE [(1000001,501)] (.sv (.one (ptrF 133 501))) [vB 173 501 (.val (fnV 112))] ((mA_ofTwo X 112)) O O (by exact trivial) O O O O O (by exact (.box O O .nil)) dR<|aT O O (by exact O) (by exact nl6 O O O O O O O) dR ?_;refine aM O O O O O O dR ?_;refine aB<|aI ?_)
    refine cE (σ':=⟨[(2,Lp 2)],vB 173 501 (.val (fnV 112))::(2,some ⟨137,(rowL 9).map .val++[ptrF (cloF 9) 501],false⟩)::[],X⟩) (Le.of (by exact ⟨O,trivial⟩) (by exact ⟨O,O,trivial⟩) (by exact O) (by exact O) (by repeat' (first|refine bT ?_ ?_|rfl|exact bV|exact bU|exact bW O))) ?_
    refine deed_shut1 (f:=cloF 9) (op:=9) (fun Y _ _ _ _ h1 h2=>deed_two O h1 h2 (two_fn Y (fun Z x y hx hy=>wRem_do Z x y hx hy)) (fun u w _ _=>node_do (by decide) u w)) (cD ?_)
    exact ⟨[(1000001,501)],⟨[_],⟨⟨_,_,rfl,rfl,rfl,.inl ⟨AggT.h,rfl⟩⟩,trivial⟩,rfl⟩,(by repeat' (first|exact trivial|refine cQ ⟨_,rfl,?_⟩ ?_|refine cQ ⟨_,rfl⟩ ?_|rfl|exact bX _ _ _ _|exact bY _ _ _ _|exact bZ rfl)),rfl,rfl⟩
  (refine rgN<|keq O O (r:=false) (cR c9)<|kas O<|aB<|aF O ?_;refine aA ?_)
  by_cases c10:op=10
  · subst c10
    rw [(rw_fn (op:=10) (by decide)).1,(rw_fn (op:=10) (by decide)).2]
    (refine rgN<|keq O O (r:=true) O<|kas O<|aB<|aE O ?_;refine aA<|rgN<|bE [(1000001,501)] (.sv (.one (ptrF 145 501))) [vB 173 501 (.val (fnV 109))] ((mA_withZero X 109)) O O (by exact trivial) O O O O O (by exact (.box O O .nil)) dR<|bE [(1000001,502),(1000002,501)] (.sv (.one (ptrF 144 502))) [vB 171 502 (ptrF 145 501),vB 173 501 (.val (fnV 109))] ((mB_ofOne X 145 109 173)) O O (by exact (cQ ⟨_,O,O⟩ trivial)) (by exact (bT (bT O O) O)) O O O O (by exact (.box O O (.box O O .nil))) dR<|aT O O (by exact O) (by exact nl6 O O O O O O O) dR ?_;refine aM O O O O O O dR ?_;refine aB<|aI ?_)
    refine cE (σ':=⟨[(2,Lp 2)],vB 171 502 (ptrF 145 501)::vB 173 501 (.val (fnV 109))::(2,some ⟨137,(rowL 10).map .val++[ptrF (cloF 10) 502],false⟩)::[],X⟩) (Le.of (by exact ⟨O,trivial⟩) (by exact ⟨O,O,O,trivial⟩) (by exact O) (by exact O) (by repeat' (first|refine bT ?_ ?_|rfl|exact bV|exact bU|exact bW O))) ?_
    refine deed_shut2 (f:=cloF 10) (op:=10) (fun Y _ _ _ _ _ _ _ _ h1 h2 h3 h4=>deed_one O h3 h4 (one_zero h1 h2 (two_fn Y (fun Z x y hx hy=>wSub_do Z x y hx hy))) (fun u hu=>node_neg hu)) O O O (cD ?_)
    exact ⟨[(1000001,502)],⟨[_],⟨⟨_,_,rfl,rfl,rfl,.inl ⟨AggT.h,rfl⟩⟩,trivial⟩,rfl⟩,(by repeat' (first|exact trivial|refine cQ ⟨_,rfl,?_⟩ ?_|refine cQ ⟨_,rfl⟩ ?_|rfl|exact bX _ _ _ _|exact bY _ _ _ _|exact bZ rfl)),rfl,rfl⟩
  (refine rgN<|keq O O (r:=false) (cR c10)<|kas O<|aB<|aF O ?_;refine aA ?_)
  by_cases c11:op=11
  · subst c11
    rw [(rw_fn (op:=11) (by decide)).1,(rw_fn (op:=11) (by decide)).2]
    (refine rgN<|keq O O (r:=true) O<|kas O<|aB<|aE O ?_;refine aA<|rgN<|bE [(1000001,501)] (.sv (.one (ptrF 146 501))) [vB 173 501 (.val (fnV 116))] ((mA_chosen X 116)) O O (by exact trivial) O O O O O (by exact (.box O O .nil)) dR<|bE [(1000001,502),(1000002,501)] (.sv (.one (ptrF 133 502))) [vB 173 502 (ptrF 146 501),vB 173 501 (.val (fnV 116))] ((mB_ofTwo X 146 116 173)) O O (by exact (cQ ⟨_,O,O⟩ trivial)) (by exact (bT (bT O O) O)) O O O O (by exact (.box O O (.box O O .nil))) dR<|aT O O (by exact O) (by exact nl6 O O O O O O O) dR ?_;refine aM O O O O O O dR ?_;refine aB<|aI ?_)
    refine cE (σ':=⟨[(2,Lp 2)],vB 173 502 (ptrF 146 501)::vB 173 501 (.val (fnV 116))::(2,some ⟨137,(rowL 11).map .val++[ptrF (cloF 11) 502],false⟩)::[],X⟩) (Le.of (by exact ⟨O,trivial⟩) (by exact ⟨O,O,O,trivial⟩) (by exact O) (by exact O) (by repeat' (first|refine bT ?_ ?_|rfl|exact bV|exact bU|exact bW O))) ?_
    refine deed_shut2 (f:=cloF 11) (op:=11) (fun Y _ _ _ _ _ _ _ _ h1 h2 h3 h4=>deed_two O h3 h4 (two_chosen h1 h2 (two_fn Y (fun Z x y hx hy=>tLess Z x y hx hy)) (fun _ _ _ h=>less_ok h) (fun _ _ _ h=>less_err h)) (fun u w hu hw=>node_least hu hw)) O O O (cD ?_)
    exact ⟨[(1000001,502)],⟨[_],⟨⟨_,_,rfl,rfl,rfl,.inl ⟨AggT.h,rfl⟩⟩,trivial⟩,rfl⟩,(by repeat' (first|exact trivial|refine cQ ⟨_,rfl,?_⟩ ?_|refine cQ ⟨_,rfl⟩ ?_|rfl|exact bX _ _ _ _|exact bY _ _ _ _|exact bZ rfl)),rfl,rfl⟩
  (refine rgN<|keq O O (r:=false) (cR c11)<|kas O<|aB<|aF O ?_;refine aA ?_)
  by_cases c12:op=12
  · subst c12
    rw [(rw_fn (op:=12) (by decide)).1,(rw_fn (op:=12) (by decide)).2]
    (refine rgN<|keq O O (r:=true) O<|kas O<|aB<|aE O ?_;refine aA<|rgN<|bE [(1000001,501)] (.sv (.one (ptrF 149 501))) [vB 173 501 (.val (fnV 116))] ((mA_swapped X 116)) O O (by exact trivial) O O O O O (by exact (.box O O .nil)) dR<|bE [(1000001,502),(1000002,501)] (.sv (.one (ptrF 146 502))) [vB 173 502 (ptrF 149 501),vB 173 501 (.val (fnV 116))] ((mB_chosen X 149 116 173)) O O (by exact (cQ ⟨_,O,O⟩ trivial)) (by exact (bT (bT O O) O)) O O O O (by exact (.box O O (.box O O .nil))) dR<|bE [(1000001,503),(1000002,502),(1000003,501)] (.sv (.one (ptrF 133 503))) [vB 173 503 (ptrF 146 502),vB 173 502 (ptrF 149 501),vB 173 501 (.val (fnV 116))] ((mC_ofTwo X 146 149 116 173)) O O (by exact (cQ ⟨_,O,O⟩ (cQ ⟨_,O,O⟩ trivial))) (by exact (bT (bT O O) (bT (bT O O) O))) O O O O (by exact (.box O O (.box O O (.box O O .nil)))) dR<|aT O O (by exact O) (by exact nl6 O O O O O O O) dR ?_;refine aM O O O O O O dR ?_;refine aB<|aI ?_)
    refine cE (σ':=⟨[(2,Lp 2)],vB 173 503 (ptrF 146 502)::vB 173 502 (ptrF 149 501)::vB 173 501 (.val (fnV 116))::(2,some ⟨137,(rowL 12).map .val++[ptrF (cloF 12) 503],false⟩)::[],X⟩) (Le.of (by exact ⟨O,trivial⟩) (by exact ⟨O,O,O,O,trivial⟩) (by exact O) (by exact O) (by repeat' (first|refine bT ?_ ?_|rfl|exact bV|exact bU|exact bW O))) ?_
    refine deed_shut3 (f:=cloF 12) (op:=12) (fun Y _ _ _ _ _ _ _ _ _ _ _ _ h1 h2 h3 h4 h5 h6=>deed_two O h5 h6 (two_chosen h3 h4 (two_swapped h1 h2 (two_fn Y (fun Z x y hx hy=>tLess Z x y hx hy))) (fun _ _ _ h=>less_ok h) (fun _ _ _ h=>less_err h)) (fun u w hu hw=>node_great hu hw)) O O O O O O O (cD ?_)
    exact ⟨[(1000001,503)],⟨[_],⟨⟨_,_,rfl,rfl,rfl,.inl ⟨AggT.h,rfl⟩⟩,trivial⟩,rfl⟩,(by repeat' (first|exact trivial|refine cQ ⟨_,rfl,?_⟩ ?_|refine cQ ⟨_,rfl⟩ ?_|rfl|exact bX _ _ _ _|exact bY _ _ _ _|exact bZ rfl)),rfl,rfl⟩
  (refine rgN<|keq O O (r:=false) (cR c12)<|kas O<|aB<|aF O ?_;refine aA ?_)
  by_cases c13:op=13
  · subst c13
    rw [(rw_fn (op:=13) (by decide)).1,(rw_fn (op:=13) (by decide)).2]
    (refine rgN<|keq O O (r:=true) O<|kas O<|aB<|aE O ?_;refine aA<|rgN<|bE [(1000001,501)] (.sv (.one (ptrF 133 501))) [vB 173 501 (.val (fnV 118))] ((mA_ofTwo X 118)) O O (by exact trivial) O O O O O (by exact (.box O O .nil)) dR<|aT O O (by exact O) (by exact nl6 O O O O O O O) dR ?_;refine aM O O O O O O dR ?_;refine aB<|aI ?_)
    refine cE (σ':=⟨[(2,Lp 2)],vB 173 501 (.val (fnV 118))::(2,some ⟨137,(rowL 13).map .val++[ptrF (cloF 13) 501],false⟩)::[],X⟩) (Le.of (by exact ⟨O,trivial⟩) (by exact ⟨O,O,trivial⟩) (by exact O) (by exact O) (by repeat' (first|refine bT ?_ ?_|rfl|exact bV|exact bU|exact bW O))) ?_
    refine deed_shut1 (f:=cloF 13) (op:=13) (fun Y _ _ _ _ h1 h2=>deed_two O h1 h2 (two_fn Y (fun Z x y hx hy=>tSame Z x y hx hy)) (fun u w _ _=>node_same u w)) (cD ?_)
    exact ⟨[(1000001,501)],⟨[_],⟨⟨_,_,rfl,rfl,rfl,.inl ⟨AggT.h,rfl⟩⟩,trivial⟩,rfl⟩,(by repeat' (first|exact trivial|refine cQ ⟨_,rfl,?_⟩ ?_|refine cQ ⟨_,rfl⟩ ?_|rfl|exact bX _ _ _ _|exact bY _ _ _ _|exact bZ rfl)),rfl,rfl⟩
  (refine rgN<|keq O O (r:=false) (cR c13)<|kas O<|aB<|aF O ?_;refine aA ?_)
  by_cases c14:op=14
  · subst c14
    rw [(rw_fn (op:=14) (by decide)).1,(rw_fn (op:=14) (by decide)).2]
    (refine rgN<|keq O O (r:=true) O<|kas O<|aB<|aE O ?_;refine aA<|rgN<|bE [(1000001,501)] (.sv (.one (ptrF 133 501))) [vB 173 501 (.val (fnV 116))] ((mA_ofTwo X 116)) O O (by exact trivial) O O O O O (by exact (.box O O .nil)) dR<|aT O O (by exact O) (by exact nl6 O O O O O O O) dR ?_;refine aM O O O O O O dR ?_;refine aB<|aI ?_)
    refine cE (σ':=⟨[(2,Lp 2)],vB 173 501 (.val (fnV 116))::(2,some ⟨137,(rowL 14).map .val++[ptrF (cloF 14) 501],false⟩)::[],X⟩) (Le.of (by exact ⟨O,trivial⟩) (by exact ⟨O,O,trivial⟩) (by exact O) (by exact O) (by repeat' (first|refine bT ?_ ?_|rfl|exact bV|exact bU|exact bW O))) ?_
    refine deed_shut1 (f:=cloF 14) (op:=14) (fun Y _ _ _ _ h1 h2=>deed_two O h1 h2 (two_fn Y (fun Z x y hx hy=>tLess Z x y hx hy)) (fun u w _ _=>node_less u w)) (cD ?_)
    exact ⟨[(1000001,501)],⟨[_],⟨⟨_,_,rfl,rfl,rfl,.inl ⟨AggT.h,rfl⟩⟩,trivial⟩,rfl⟩,(by repeat' (first|exact trivial|refine cQ ⟨_,rfl,?_⟩ ?_|refine cQ ⟨_,rfl⟩ ?_|rfl|exact bX _ _ _ _|exact bY _ _ _ _|exact bZ rfl)),rfl,rfl⟩
  (refine rgN<|keq O O (r:=false) (cR c14)<|kas O<|aB<|aF O ?_;refine aA ?_)
  by_cases c15:op=15
  · subst c15
    rw [(rw_fn (op:=15) (by decide)).1,(rw_fn (op:=15) (by decide)).2]
    (refine rgN<|keq O O (r:=true) O<|kas O<|aB<|aE O ?_;refine aA<|rgN<|bE [(1000001,501)] (.sv (.one (ptrF 145 501))) [vB 173 501 (.val (fnV 118))] ((mA_withZero X 118)) O O (by exact trivial) O O O O O (by exact (.box O O .nil)) dR<|bE [(1000001,502),(1000002,501)] (.sv (.one (ptrF 144 502))) [vB 171 502 (ptrF 145 501),vB 173 501 (.val (fnV 118))] ((mB_ofOne X 145 118 173)) O O (by exact (cQ ⟨_,O,O⟩ trivial)) (by exact (bT (bT O O) O)) O O O O (by exact (.box O O (.box O O .nil))) dR<|aT O O (by exact O) (by exact nl6 O O O O O O O) dR ?_;refine aM O O O O O O dR ?_;refine aB<|aI ?_)
    refine cE (σ':=⟨[(2,Lp 2)],vB 171 502 (ptrF 145 501)::vB 173 501 (.val (fnV 118))::(2,some ⟨137,(rowL 15).map .val++[ptrF (cloF 15) 502],false⟩)::[],X⟩) (Le.of (by exact ⟨O,trivial⟩) (by exact ⟨O,O,O,trivial⟩) (by exact O) (by exact O) (by repeat' (first|refine bT ?_ ?_|rfl|exact bV|exact bU|exact bW O))) ?_
    refine deed_shut2 (f:=cloF 15) (op:=15) (fun Y _ _ _ _ _ _ _ _ h1 h2 h3 h4=>deed_one O h3 h4 (one_zero h1 h2 (two_fn Y (fun Z x y hx hy=>tSame Z x y hx hy))) (fun u hu=>node_not u)) O O O (cD ?_)
    exact ⟨[(1000001,502)],⟨[_],⟨⟨_,_,rfl,rfl,rfl,.inl ⟨AggT.h,rfl⟩⟩,trivial⟩,rfl⟩,(by repeat' (first|exact trivial|refine cQ ⟨_,rfl,?_⟩ ?_|refine cQ ⟨_,rfl⟩ ?_|rfl|exact bX _ _ _ _|exact bY _ _ _ _|exact bZ rfl)),rfl,rfl⟩
  (refine rgN<|keq O O (r:=false) (cR c15)<|kas O<|aB<|aF O ?_;refine aA ?_)
  by_cases c16:op=16
  · subst c16
    rw [(rw_fn (op:=16) (by decide)).1,(rw_fn (op:=16) (by decide)).2]
    (refine rgN<|keq O O (r:=true) O<|kas O<|aB<|aE O ?_;refine aA<|rgN<|bE [(1000001,501)] (.sv (.one (ptrF 150 501))) [vB 206 501 (.val (fnV 120))] ((mA_ofThree X 120)) O O (by exact trivial) O O O O O (by exact (.box O O .nil)) dR<|aT O O (by exact O) (by exact nl6 O O O O O O O) dR ?_;refine aM O O O O O O dR ?_;refine aB<|aI ?_)
    refine cE (σ':=⟨[(2,Lp 2)],vB 206 501 (.val (fnV 120))::(2,some ⟨137,(rowL 16).map .val++[ptrF (cloF 16) 501],false⟩)::[],X⟩) (Le.of (by exact ⟨O,trivial⟩) (by exact ⟨O,O,trivial⟩) (by exact O) (by exact O) (by repeat' (first|refine bT ?_ ?_|rfl|exact bV|exact bU|exact bW O))) ?_
    refine deed_shut1 (f:=cloF 16) (op:=16) (fun Y _ _ _ _ h1 h2=>deed_three O h1 h2 (three_fn Y (fun Z x y z hx hy hz=>tPick Z x y z hx)) (fun u w z _ _ _=>O)) (cD ?_)
    exact ⟨[(1000001,501)],⟨[_],⟨⟨_,_,rfl,rfl,rfl,.inl ⟨AggT.h,rfl⟩⟩,trivial⟩,rfl⟩,(by repeat' (first|exact trivial|refine cQ ⟨_,rfl,?_⟩ ?_|refine cQ ⟨_,rfl⟩ ?_|rfl|exact bX _ _ _ _|exact bY _ _ _ _|exact bZ rfl)),rfl,rfl⟩
  (refine rgN<|keq O O (r:=false) (cR c16)<|kas O<|aB<|aF O ?_;refine aA ?_)
  by_cases c17:op=17
  · subst c17
    rw [(rw_fn (op:=17) (by decide)).1,(rw_fn (op:=17) (by decide)).2]
    (refine rgN<|keq O O (r:=true) O<|kas O<|aB<|aE O ?_;refine aA<|rgN<|bE [(1000001,501)] (.sv (.one (ptrF 133 501))) [vB 173 501 (.val (fnV 121))] ((mA_ofTwo X 121)) O O (by exact trivial) O O O O O (by exact (.box O O .nil)) dR<|aT O O (by exact O) (by exact nl6 O O O O O O O) dR ?_;refine aM O O O O O O dR ?_;refine aB<|aI ?_)
    refine cE (σ':=⟨[(2,Lp 2)],vB 173 501 (.val (fnV 121))::(2,some ⟨137,(rowL 17).map .val++[ptrF (cloF 17) 501],false⟩)::[],X⟩) (Le.of (by exact ⟨O,trivial⟩) (by exact ⟨O,O,trivial⟩) (by exact O) (by exact O) (by repeat' (first|refine bT ?_ ?_|rfl|exact bV|exact bU|exact bW O))) ?_
    refine deed_shut1 (f:=cloF 17) (op:=17) (fun Y _ _ _ _ h1 h2=>deed_two O h1 h2 (two_fn Y (fun Z x y hx hy=>tNeed Z x y hy)) (fun u w _ _=>node_need u w)) (cD ?_)
    exact ⟨[(1000001,501)],⟨[_],⟨⟨_,_,rfl,rfl,rfl,.inl ⟨AggT.h,rfl⟩⟩,trivial⟩,rfl⟩,(by repeat' (first|exact trivial|refine cQ ⟨_,rfl,?_⟩ ?_|refine cQ ⟨_,rfl⟩ ?_|rfl|exact bX _ _ _ _|exact bY _ _ _ _|exact bZ rfl)),rfl,rfl⟩
  (refine rgN<|keq O O (r:=false) (cR c17)<|kas O<|aB<|aF O ?_;refine aH ?_;refine aA ?_)
  have hbad:op<1∨17<op:=by omega
  rw [(rw_no (op:=op) (by omega)).1,(rw_no (op:=op) (by omega)).2]
  unfold LRow
  rw [rowL_bad hbad,show leafV op = .nilFunc by unfold leafV;rw [if_neg c1,if_neg c2,if_neg c3,if_neg c4]]
  (refine rgN<|aT O O (by exact O) (by exact nl6 O O O O O O O) dR ?_;refine aM O O O O O O dR ?_;refine aB<|aI ?_)
  exact cD ⟨[],⟨[_],⟨⟨_,_,O,O,O,.inl ⟨AggT.h,O⟩⟩,trivial⟩,O⟩,trivial,O,O⟩
theorem rowOf_fn (op:Int) (h:5≤op∧op≤17):MSpec Tryz.prog X 91 [Ln .i64 op] [] (LRow op (ptrF (cloF op) 1000001)) [dB 1000001 op]:=by
  have:=rowOf_all X op
  rw [(rw_fn h).1,(rw_fn h).2] at this
  exact this
theorem rowOf_leaf (op:Int) (h:¬ (5≤op∧op≤17)):PSpec Tryz.prog X 91 [Ln .i64 op] (LRow op (.val (leafV op))):=by
  have:=rowOf_all X op
  rw [(rw_no h).1,(rw_no h).2] at this
  exact this.plain
theorem rowOf_1:PSpec Tryz.prog X 91 [Ln .i64 1] (LRow 1 (.val (fnV 103))):=rowOf_leaf X 1 (by decide)
theorem rowOf_2:PSpec Tryz.prog X 91 [Ln .i64 2] (LRow 2 (.val (fnV 104))):=rowOf_leaf X 2 (by decide)
theorem rowOf_3:PSpec Tryz.prog X 91 [Ln .i64 3] (LRow 3 (.val (fnV 105))):=rowOf_leaf X 3 (by decide)
theorem rowOf_4:PSpec Tryz.prog X 91 [Ln .i64 4] (LRow 4 (.val (fnV 106))):=rowOf_leaf X 4 (by decide)
theorem rowOf_no (op:Int) (h:op<1∨17<op):PSpec Tryz.prog X 91 [Ln .i64 op] (LRow op (.val .nilFunc)):=by
  have:=rowOf_leaf X op (by omega)
  rw [show leafV op = .nilFunc by unfold leafV;rw [if_neg (by omega),if_neg (by omega),if_neg (by omega),if_neg (by omega)]] at this
  exact this
end Go.Proofs.YtamplgnbbanamaaGreatDoor
end
section
namespace Go.Proofs.YtamplgnbbanamaaGreatDoor
open Go Go.Lg Go.Lg.Fml Go.Lg.Fld Go.Lg.Arith
set_option maxRecDepth 100000
variable (X:Nat→Option Obj)
theorem tSmall (n:Int):PSpec Tryz.prog X 122 [Ln .i64 n] (Lb (decide (0≤n)&&decide (n≤7))):=by
  by_cases h:0≤n
  · rw [cP h,Bool.true_and]
    refine cF Tryz.func122 rfl (by kernel_rfl) rfl rfl ?_
    intro C
    (refine aA<|rgN<|kas O<|aB<|aA<|rgN<|kmv O<|bD O O (r:=true) (cP h) dR<|kmv O<|gmv O O O<|K.leq O O O (dS O O) ?_;refine kpt O O<|kas O<|aB<|aI ?_)
    exact ⟨[_],⟨O,trivial⟩,O⟩
  · rw [cO h,Bool.false_and]
    refine cF Tryz.func122 rfl (by kernel_rfl) rfl rfl ?_
    intro C
    (refine aA<|rgN<|kas O<|aB<|aA<|rgN<|kmv O<|bD O O (r:=false) (cO h) dR<|kmv O<|aC O O O<|aC O O O<|kpf O O<|kas O<|aB ?_;refine aI ?_)
    exact ⟨[_],⟨O,trivial⟩,O⟩
def bndI (x:Ins):Bool:=(decide (0≤x.a)&&decide (x.a≤7))&&((decide (0≤x.b)&&decide (x.b≤7))&&gd x.k)
theorem okI_bnd (x:Ins):okI x=((decide (1≤x.op)&&decide (x.op≤17))&&bndI x):=by
  unfold okI bndI
  cases gd x.k<;>cases (decide (0≤x.a)&&decide (x.a≤7))<;>cases (decide (0≤x.b)&&decide (x.b≤7))<;>rfl
theorem tBounded (x:Ins) (hx:smallI x) (r:Bool) (hr:bndI x=r):PSpec Tryz.prog X 92 [LIn x] (Lb r):=by
  subst hr
  unfold bndI
  have hA:=tSmall X x.a
  have hB:=tSmall X x.b
  have hG:=tForm X x.k hx.2.2.2 _ rfl
  generalize (decide (0≤x.a)&&decide (x.a≤7))=A at *
  generalize (decide (0≤x.b)&&decide (x.b≤7))=B at *
  generalize gd x.k=G at *
  cases A with
  | false =>
    refine cF Tryz.func92 rfl (by kernel_rfl) rfl rfl ?_
    intro C
    (refine aA<|rgN<|aL O O O dR<|kas O<|aB<|aA<|rgN<|kfa O O ?_;refine kl1 O O O<|kca O O hA<|kmv O<|aC O O O<|aC O O O<|aC O O O<|kpf O O<|kmv O<|aC O O O<|aC O O O<|aC O O O<|kpf O O<|kas O<|aB ?_;refine aI ?_)
    exact ⟨[_],⟨O,trivial⟩,O⟩
  | true =>
  cases B with
  | false =>
    refine cF Tryz.func92 rfl (by kernel_rfl) rfl rfl ?_
    intro C
    (refine aA<|rgN<|aL O O O dR<|kas O<|aB<|aA<|rgN<|kfa O O ?_;refine kl1 O O O<|kca O O hA<|kmv O<|aN O O (dS O O) ?_;refine aO O O O (dS O O) ?_;refine gca O O hB O O<|kpt O O<|kmv O<|aC O O O<|aC O O O<|aC O O O<|kpf O O<|kas O<|aB<|aI ?_)
    exact ⟨[_],⟨O,trivial⟩,O⟩
  | true =>
    refine cF Tryz.func92 rfl (by kernel_rfl) rfl rfl ?_
    intro C
    (refine aA<|rgN<|aL O O O dR<|kas O<|aB<|aA<|rgN<|kfa O O ?_;refine kl1 O O O<|kca O O hA<|kmv O<|aN O O (dS O O) ?_;refine aO O O O (dS O O) ?_;refine gca O O hB O O<|kpt O O<|kmv O<|aN O O (dS O O) ?_;refine bJ O O O (by exact nl3 O O O O) (dS O O) ?_;refine gca O O (hG) O O<|kpt O O<|kas O<|aB<|aI ?_)
    exact ⟨[_],⟨O,trivial⟩,O⟩
def rowVs (p:Int×Value):List Value:=rowL p.1++[p.2]
def rwsV (q:List (Int×Value)):List Value:=(q.map rowVs).flatten
theorem rowVs_len (p:Int×Value):(rowVs p).length=6:=rfl
theorem rwsV_len (q:List (Int×Value)):(rwsV q).length=q.length*6:=by
  unfold rwsV
  induction q with
  | nil=>rfl
  | cons x t ih=>rw [List.map_cons,List.flatten_cons,cV,ih,rowVs_len,dI];omega
theorem rwsV_snoc (q:List (Int×Value)) (p:Int×Value):rwsV (q++[p])=rwsV q++rowVs p:=by
  unfold rwsV
  rw [dH,List.flatten_append]
  simp
def zeR (k:Nat):List Value:=(List.replicate k [Value.string ⟨#[]⟩,.int .i64 0,.bool false,.bool false,.bool false,.nilFunc]).flatten
theorem zeR_succ (k:Nat):zeR (k+1)=[Value.string ⟨#[]⟩,.int .i64 0,.bool false,.bool false,.bool false,.nilFunc]++zeR k:=by unfold zeR;rw [List.replicate_succ,List.flatten_cons]
theorem zeR_len (k:Nat):(zeR k).length=k*6:=by
  induction k with
  | zero=>rfl
  | succ k ih=>rw [zeR_succ,cV,ih];simp;omega
def rowsR (l:List Ins):Rsc:=⟨fun ρ H=>∃ (q:List (Int×Value)) (fr:Nat×Nat),H ρ.1=some (.cells (rwsV q).toArray 137 fr)∧ρ.2=(rwsV q).length∧q.map (·.1)=l.map Ins.op∧∀ p∈q,DeedV H p.2 p.1⟩
structure RowsOK (Y:Nat→Option Obj) (ad:Option Addr) (l:List Ins):Prop where
  ex:∃ q:List (Int×Value),Go.Lg.RowsIn Y ad 6 (q.map rowVs)∧q.map (·.1)=l.map Ins.op∧∀ p∈q,DeedV Y p.2 p.1
theorem rows_fix {l:List Ins} {ρ:Nat×Nat} {H Y:Nat→Option Obj} (h:(rowsR l).holds ρ H) (hY:MoreM H Y):RowsOK Y (some ⟨ρ.1,0,none⟩) l:=by
  obtain ⟨q,fr,h1,h2,h3,h4⟩:=h
  refine ⟨q,rows_in (hY _ _ h1) (fun r hr=>by obtain ⟨x,_,rfl⟩:=List.mem_map.1 hr;rfl) ⟨[],by rw [dJ];rfl⟩,h3,fun p hp=>(h4 p hp).mono hY⟩
theorem RowsOK.at {Y:Nat→Option Obj} {ad:Option Addr} {l:List Ins} (h:RowsOK Y ad l) {i:Nat} {x:Ins} (hx:l[i]? = some x):
    ∃ (blk off:Nat) (arr:Array Value) (el:TypeId) (fr:Nat×Nat) (v:Value),ad=some ⟨blk,off,none⟩∧Y blk=some (.cells arr el fr)∧off+i*6+6≤arr.size∧((arr.toList.drop (off+i*6)).take 6).map CV.val=(rowVs (x.op,v)).map CV.val∧DeedV Y v x.op:=by
  obtain ⟨q,h1,h2,h3⟩:=h.ex
  have hq:(q.map (·.1))[i]? = some x.op:=by rw [h2,dL,hx];rfl
  rw [dL] at hq
  cases hp:q[i]? with
  | none=>rw [hp] at hq;cases hq
  | some p =>
    rw [hp] at hq
    have hq:p.1=x.op:=by simpa using hq
    obtain ⟨blk,off,arr,el,fr,e1,e2,e3,e4⟩:=h1 i (rowVs p) (by rw [dL,hp];rfl)
    have h5:=h3 p (dD hp)
    obtain ⟨o,v⟩:=p
    have hq:o=x.op:=hq
    subst hq
    exact ⟨blk,off,arr,el,fr,v,e1,e2,e3,by rw [e4],h5⟩
def rsR (l:List Ins):LV:=if chkX l=0 then .tup [.one (.slc 1000001 0 l.length 6),Sn .i64 0] else .tup [Vnil,Sn .i64 (chkX l)]
def rsBx (l:List Ins):List (Nat×Option Box):=if chkX l=0 then [(1000001,some ⟨0,[],.res (rowsR l)⟩)] else []
theorem rs_ok {l:List Ins} (h:chkX l=0):rsR l = .tup [.one (.slc 1000001 0 l.length 6),Sn .i64 0]∧rsBx l=[(1000001,some ⟨0,[],.res (rowsR l)⟩)]:=⟨if_pos h,if_pos h⟩
theorem rs_no {l:List Ins} (h:chkX l≠0):rsR l = .tup [Vnil,Sn .i64 (chkX l)]∧rsBx l=[]:=⟨if_neg h,if_neg h⟩
theorem rsBx_use (l:List Ins):((rsBx l).all fun p=>match p.2 with|some b=>b.cells.all (CV.inUse (rsBx l))|none=>true)=true:=by
  by_cases h:chkX l=0
  · rw [(rs_ok h).2];rfl
  · rw [(rs_no h).2];rfl
theorem rsR_use (l:List Ins):LV.inUse (rsBx l) (rsR l)=true:=by
  by_cases h:chkX l=0
  · rw [(rs_ok h).1,(rs_ok h).2];rfl
  · rw [(rs_no h).1,(rs_no h).2];rfl
theorem joinM_assoc (X H G:Nat→Option Obj):joinM (joinM X H) G=joinM X (joinM H G):=by
  funext b
  unfold joinM
  cases G b<;>rfl
theorem owned_join {C:Ctx} {X H G:Nat→Option Obj} (h:OwnedM C X H) (h':OwnedM C (joinM X H) G):OwnedM C X (joinM H G)∧MoreM H (joinM H G)∧MoreM G (joinM H G):=by
  have hn:∀ b o,G b=some o→H b=none∧X b=none:=fun b o hb=>joinM_none (h'.own b o hb).2.2
  refine ⟨⟨fun b o hb => ?_⟩,fun b o hb => ?_,fun b o hb=>joinM_in hb⟩
  · cases hg:G b with
    | some o' =>
      rw [joinM_in hg] at hb
      cases hb
      obtain ⟨h1,h2,_⟩:=h'.own b o hg
      exact ⟨h1,h2,(hn b o hg).2⟩
    | none=>rw [joinM_out hg] at hb;exact h.own b o hb
  · cases hg:G b with
    | some o'=>rw [(hn b o' hg).1] at hb;cases hb
    | none=>rw [joinM_out hg];exact hb
abbrev rwSt (ad:Option Addr) (n cap i:Nat) (d:Nat) (cells:List Value) (ms:List (Nat×LV)) (mb:List (Nat×Option Box)) (Y:Nat→Option Obj):St:=
  ⟨ms++[(0,Lx ad n cap),(4,.sv (.one (.slc 500 0 n 6))),(5,Ln .i64 (d:Nat)),(15,Lx ad n cap),(16,Ln .i64 (n:Nat)),(17,Ln .i64 (i:Nat))],mb++[(500,some ⟨137,cells.map .val,false⟩)],Y⟩
abbrev rdB8 (x:Ins) (c:CV):List (Nat×Option Box):=[(7,some ⟨66,(insV x).map .val,false⟩),(8,some ⟨137,(rowL x.op).map .val++[c],false⟩)]
set_option maxHeartbeats 12800000 in
theorem tRowsOf (l:List Ins) (ad:Option Addr) (cap:Nat) (hin:InsIn X ad l) (hbig:l.length<1152921504606846976):MSpec Tryz.prog X 75 [Lx ad l.length cap] [] (rsR l) (rsBx l):=by
  refine cG Tryz.func75 rfl (by kernel_rfl) rfl (rsR_use l) (rsBx_use l) rfl rfl ?_
  intro C
  by_cases h64:64<l.length
  · have hc:chkX l=5:=if_pos h64
    obtain ⟨q1,q2⟩:=rs_no (l:=l) (by rw [hc];decide)
    rw [q1,q2,hc]
    (refine aA<|rgN<|kas O<|kas O<|aB<|aA<|aA<|rgN<|kmv O<|aQ O cC O dR ?_;refine aS O O (r:=true) (cP (by omega)) dR<|aB<|aE O ?_;refine aA<|rgN<|kas O<|kas O<|aB<|aI ?_)
    exact ⟨[],⟨[_,_],⟨O,O,trivial⟩,O⟩,trivial,O,O⟩
  have hmk:slcBuild Tryz.prog 129 l.length=some (zeR l.length,6,137):=slcBuild_many (z := #[.string ⟨#[]⟩,.int .i64 0,.bool false,.bool false,.bool false,.nilFunc]) (by kernel_rfl) (by kernel_rfl) rfl (by omega)
  refine LWP.ends ?_
  (refine aA<|rgN<|kas O<|kas O<|aB<|aA<|aA<|rgN<|kmv O<|aQ O cC O dR ?_;refine aS O O (r:=false) (cO (by omega)) dR<|aB<|aF O ?_;refine aH ?_;refine aA<|rgN<|kmv O<|aQ O cC O dR ?_;refine K.makeSlc (m:=l.length) (bytes:=40) O O hmk (by kernel_rfl) (by omega) O O dR<|kas O<|kas O<|aB<|aA<|aA<|rgN<|kmv O<|aQ O cC O dR ?_;refine kmv O<|aB<|aG ?_)
  refine cM (fun k σ=>∃ (i d:Nat) (q:List (Int×Value)) (H:Nat→Option Obj),i≤l.length∧k=l.length-i∧q.map (·.1)=(l.take i).map Ins.op∧(∀ p∈q,DeedV H p.2 p.1)∧OwnedM C X H∧dep okI 0 (l.take i)=some d∧σ=rwSt ad l.length cap i d (rwsV q++zeR (l.length-i)) [] [] (joinM X H)) l.length
    (cE (σ':=rwSt ad l.length cap 0 0 (rwsV []++zeR (l.length-0)) [] [] X) ?_ (cD ⟨0,0,[],fun _=>none,by omega,by omega,rfl,fun p hp=>absurd hp (by simp),OwnedM.nil _ _,rfl,by rw [joinM_nil]⟩)) ?_
  · exact Le.ofR [(500,14)] (by exact ⟨rfl,rfl,rfl,rfl,rfl,rfl,trivial⟩) (by repeat' (first|exact trivial|refine cQ ⟨_,rfl,?_⟩ ?_|refine cQ ⟨_,rfl⟩ ?_|rfl|exact bX _ _ _ _|exact bY _ _ _ _|exact bZ rfl)) (by exact rfl) (by exact rfl) (by repeat' (first|refine bT ?_ ?_|rfl|exact bV|exact bU|exact bW rfl)) (by exact rfl) (by exact rfl)
  rintro k σ ⟨i,d,q,H,hi,rfl,hq,hD,hO,hdep,rfl⟩
  have hqn:q.length=i:=by
    have:=congrArg List.length hq
    rw [cW,cW,cZ] at this
    omega
  have hd16:=dep_le (by omega) hdep
  by_cases hlt:i<l.length
  · obtain ⟨x,hx⟩:∃ x,l[i]? = some x:=⟨_,cX hlt⟩
    have hmem:=dD hx
    have hsx:=hin.small x hmem
    have hinJ:InsIn (joinM X H) ad l:=hin.mono fun b o hb=>by
      cases hc:H b with
      | none=>rw [joinM_out hc];exact hb
      | some o'=>have:=(hO.own b o' hc).2.2;rw [hb] at this;cases this
    obtain ⟨blk,off,arr,el,fr,rfl,hX,hsz,hcs,hop⟩:=hinJ.at hx
    have hio:off+Int.toNat (i:Int)*6=off+i*6:=by simp
    have hin0:0≤(i:Int)∧(i:Int)<(l.length:Nat):=by omega
    have hsn:=dep_snoc hdep hx
    have hok:=okI_bnd x
    have htk:=takes_le x.op
    have bad:¬ (okI x=true∧takes x.op≤d∧d-takes x.op+1≤16)→chkX l=4:=fun h=>chkX_bad h64 hdep hx h
    by_cases hop17:x.op<1∨17<x.op
    · have hc:=bad (fun h=>by have:=(okI_facts h.1).1;omega)
      obtain ⟨q1,q2⟩:=rs_no (l:=l) (by rw [hc];decide)
      rw [q1,q2,hc]
      have hR:=rowOf_no (joinM X H) x.op hop17
      (refine aA<|rgN<|klt O O (cP (by omega))<|aB<|aA<|aE O ?_;refine aH ?_;refine aA<|aG<|aA<|rgN<|kmv O<|aR O O cC hin0 hio dR<|aY O hX (by kernel_rfl) hsz hcs dR<|aP O dR ?_;refine kas O<|aM O O O O O O dR ?_;refine aB<|aA<|rgN<|kfa O O ?_;refine kl1 O O O<|kca O O (hR)<|aP O dR ?_;refine aM O O O O O O dR ?_;refine aB<|aA<|aA<|rgN<|kfa O O ?_;refine kl1 O O O<|K.funcNil O (by kernel_rfl) (r:=true) (.inl ⟨O,O⟩) dR ?_;refine kmv O<|aC O O O<|aC O O O<|aC O O O<|kpt O O<|kmv O<|aC O O O<|aC O O O<|aC O O O<|aC O O O<|kpt O O<|aB<|aE O ?_;refine aA<|rgN<|kas O<|kas O<|aB<|aI ?_)
      exact cD ⟨[],⟨[_,_],⟨O,O,trivial⟩,O⟩,trivial,O,O⟩
    (refine aA<|rgN<|klt O O (cP (by omega))<|aB<|aA<|aE O ?_;refine aH ?_;refine aA<|aG<|aA<|rgN<|kmv O<|aR O O cC hin0 hio dR<|aY O hX (by kernel_rfl) hsz hcs dR<|aP O dR ?_;refine kas O<|aM O O O O O O dR ?_;refine aB<|aA ?_)
    refine LWP.meetL (fun σ=>∃ (v:Value) (G:Nat→Option Obj),DeedV G v x.op∧MoreM H G∧OwnedM C X G∧σ=rwSt (some ⟨blk,off,none⟩) l.length cap i d (rwsV q++zeR (l.length-i)) [(6,Ln .i64 (i:Nat)),(7,Lp 7),(8,Lp 8)] (rdB8 x (.val v)) (joinM X G)) ?_ ?_
    · by_cases h5:x.op<5
      · obtain ⟨f,hDf,hR⟩:∃ f,DeedV H (fnV f) x.op∧PSpec Tryz.prog (joinM X H) 91 [Ln .i64 x.op] (LRow x.op (.val (fnV f))):=by
          generalize x.op=op at *
          rcases (show op=1∨op=2∨op=3∨op=4 by omega) with rfl|rfl|rfl|rfl
          · exact ⟨_,deed_num H,rowOf_1 _⟩
          · exact ⟨_,deed_elem H,rowOf_2 _⟩
          · exact ⟨_,deed_here H,rowOf_3 _⟩
          · exact ⟨_,deed_place H,rowOf_4 _⟩
        (refine rgN<|kfa O O ?_;refine kl1 O O O<|kca O O (hR)<|aP O dR ?_;refine aM O O O O O O dR ?_;refine aB ?_)
        exact cE (Le.of (by exact ⟨O,O,O,O,O,O,O,O,O,trivial⟩) (by exact ⟨O,O,O,trivial⟩) (by exact O) (by exact O) (by repeat' (first|refine bT ?_ ?_|rfl|exact bV|exact bU|exact bW O))) (cD ⟨_,H,hDf,MoreM.refl H,hO,O⟩)
      · have hR:=rowOf_fn (joinM X H) x.op (by omega)
        (refine rgN<|kfa O O ?_;refine kl1 O O O<|bE [(1000001,600)] (LRow x.op (ptrF (cloF x.op) 600)) [dB 600 x.op] (hR) O O (by exact trivial) O O O O O (by exact (.box O O .nil)) dR<|aP O dR ?_;refine aM O O O O O O dR ?_;refine aB ?_)
        refine cE (σ':=⟨[(6,Ln .i64 (i:Nat)),(7,Lp 7),(8,Lp 8),(0,Lx (some ⟨blk,off,none⟩) l.length cap),(4,.sv (.one (.slc 500 0 l.length 6))),(5,Ln .i64 (d:Nat)),(15,Lx (some ⟨blk,off,none⟩) l.length cap),(16,Ln .i64 (l.length:Nat)),(17,Ln .i64 (i:Nat))],rdB8 x (ptrF (cloF x.op) 600)++dB 600 x.op::[(500,some ⟨137,(rwsV q++zeR (l.length-i)).map .val,false⟩)],joinM X H⟩) (Le.of (by exact ⟨O,O,O,O,O,O,O,O,O,trivial⟩) (by exact ⟨O,O,O,O,trivial⟩) (by exact O) (by exact O) (by repeat' (first|refine bT ?_ ?_|rfl|exact bV|exact bU|exact bW O))) ?_
        refine Leads.fixRsc [] (rdB8 x (ptrF (cloF x.op) 600)) O O (by exact (by repeat' (first|refine bT ?_ ?_|rfl|exact bV|exact bU|exact bW O))) O O fun ρ G2 hR2 hO2 => ?_
        obtain ⟨k1,k2,k3⟩:=owned_join hO hO2
        rw [joinM_assoc]
        exact cD ⟨.func (.func (cloF x.op)) #[] #[pv ρ.1],joinM H G2,DeedV.mono k3 hR2,k2,k1,O⟩
    rintro σ ⟨v,G,hDv,hHG,hOG,rfl⟩
    obtain ⟨f,caps,ev,_⟩:=id hDv
    subst ev
    have hB:=tBounded (joinM X G) x hsx _ rfl
    cases hb:bndI x with
    | false =>
      rw [hb] at hB hok
      have hc:=bad (fun h=>by rw [hok,Bool.and_false] at h;cases h.1)
      obtain ⟨q1,q2⟩:=rs_no (l:=l) (by rw [hc];decide)
      rw [q1,q2,hc]
      (refine aA<|aA<|rgN<|kfa O O ?_;refine kl1 O O O<|K.funcNil O (by kernel_rfl) (r:=false) (.inr ⟨⟨_,_,_,O⟩,O⟩) dR ?_;refine kmv O<|aK O O O (dS O O) ?_;refine gca O O hB O O<|aV O O (dS O O) ?_;refine kpf O O<|kmv O<|aC O O O<|aC O O O<|aC O O O<|aC O O O<|kpt O O<|aB<|aE O ?_;refine aA<|rgN<|kas O<|kas O<|aB<|aI ?_)
      exact cD ⟨[],⟨[_,_],⟨O,O,trivial⟩,O⟩,trivial,O,O⟩
    | true =>
    rw [hb] at hB hok
    rw [cP (show 1≤x.op by omega),cP (show x.op≤17 by omega)] at hok
    have hok:okI x=true:=hok
    by_cases hd:d<takes x.op
    · have hc:=bad (fun h=>by omega)
      obtain ⟨q1,q2⟩:=rs_no (l:=l) (by rw [hc];decide)
      rw [q1,q2,hc]
      (refine aA<|aA<|rgN<|kfa O O ?_;refine kl1 O O O<|K.funcNil O (by kernel_rfl) (r:=false) (.inr ⟨⟨_,_,_,O⟩,O⟩) dR ?_;refine kmv O<|aK O O O (dS O O) ?_;refine gca O O hB O O<|aV O O (dS O O) ?_;refine kpf O O<|kmv O<|gmv O O O<|aN O O (dS O O) ?_;refine aO O O O (dS O O) ?_;refine bK O O (r:=true) (cP (by omega)) (dS O O) ?_;refine kpf O O<|aB<|aE O ?_;refine aA<|rgN<|kas O<|kas O<|aB<|aI ?_)
      exact cD ⟨[],⟨[_,_],⟨O,O,trivial⟩,O⟩,trivial,O,O⟩
    have hix:0+Int.toNat (i:Int)*6=i*6:=by rw [dG];omega
    have hpl:(rwsV q).length=i*6:=by rw [rwsV_len,hqn]
    have hroom:i*6+6≤((rwsV q++zeR (l.length-i)).map CV.val).length:=by rw [cW,cV,hpl,zeR_len];omega
    have hspl:splice ((rwsV q++zeR (l.length-i)).map CV.val) (i*6) ((rowL x.op).map .val++[.val (.func (.func f) #[] caps.toArray)])=(rwsV (q++[(x.op,.func (.func f) #[] caps.toArray)])++zeR (l.length-(i+1))).map CV.val:=by
      rw [rwsV_snoc,show l.length-i=(l.length-(i+1))+1 by omega,zeR_succ]
      unfold splice
      simp only [dH,dM]
      have hml:((rwsV q).map CV.val).length=i*6:=by rw [cW,hpl]
      generalize (rwsV q).map CV.val=R at *
      rw [← hml,List.take_left,List.drop_length_add_append]
      simp [rowVs,rowL]
    have hsub:IntKind.i64.wrap (1-((takes x.op:Nat):Int))=1-((takes x.op:Nat):Int):=cH (by omega)
    have hadd:IntKind.i64.wrap (((d:Nat):Int)+(1-((takes x.op:Nat):Int)))=((d-takes x.op+1:Nat):Int):=by rw [cH (by omega)];omega
    have hinc:IntKind.i64.wrap (((i:Nat):Int)+1)=((i+1:Nat):Int):=by rw [cH (by omega)];omega
    by_cases h16:16<d-takes x.op+1
    · have hc:=bad (fun h=>by omega)
      obtain ⟨q1,q2⟩:=rs_no (l:=l) (by rw [hc];decide)
      rw [q1,q2,hc]
      (refine aA<|aA<|rgN<|kfa O O ?_;refine kl1 O O O<|K.funcNil O (by kernel_rfl) (r:=false) (.inr ⟨⟨_,_,_,O⟩,O⟩) dR ?_;refine kmv O<|aK O O O (dS O O) ?_;refine gca O O hB O O<|aV O O (dS O O) ?_;refine kpf O O<|kmv O<|gmv O O O<|aN O O (dS O O) ?_;refine aO O O O (dS O O) ?_;refine bK O O (r:=false) (cO (by omega)) (dS O O) ?_;refine kpf O O<|aB<|aF O ?_;refine aH ?_;refine aA<|rgN<|kmv O<|kmv O<|aK O O O dR ?_;refine K.indexSlc O O (by omega) hix dR ?_;refine K.store O O O O (by kernel_rfl) hroom hspl dR<|aB<|aA<|rgN<|kmv O<|kfa O O ?_;refine kl1 O O O<|bA O O hsub dR<|kad O O hadd<|kas O<|aB<|aA<|rgN<|kmv O<|aS O O (r:=true) (cP (by omega)) dR<|aB<|aE O ?_;refine aA<|rgN<|kas O<|kas O<|aB<|aI ?_)
      exact cD ⟨[],⟨[_,_],⟨O,O,trivial⟩,O⟩,trivial,O,O⟩
    · rw [if_pos ⟨hok,by omega,by omega⟩] at hsn
      (refine aA<|aA<|rgN<|kfa O O ?_;refine kl1 O O O<|K.funcNil O (by kernel_rfl) (r:=false) (.inr ⟨⟨_,_,_,O⟩,O⟩) dR ?_;refine kmv O<|aK O O O (dS O O) ?_;refine gca O O hB O O<|aV O O (dS O O) ?_;refine kpf O O<|kmv O<|gmv O O O<|aN O O (dS O O) ?_;refine aO O O O (dS O O) ?_;refine bK O O (r:=false) (cO (by omega)) (dS O O) ?_;refine kpf O O<|aB<|aF O ?_;refine aH ?_;refine aA<|rgN<|kmv O<|kmv O<|aK O O O dR ?_;refine K.indexSlc O O (by omega) hix dR ?_;refine K.store O O O O (by kernel_rfl) hroom hspl dR<|aB<|aA<|rgN<|kmv O<|kfa O O ?_;refine kl1 O O O<|bA O O hsub dR<|kad O O hadd<|kas O<|aB<|aA<|rgN<|kmv O<|aS O O (r:=false) (cO (by omega)) dR<|aB<|aF O ?_;refine aH ?_;refine rgN<|kad O O hinc<|kmv O<|aB ?_)
      refine cE (σ':=rwSt (some ⟨blk,off,none⟩) l.length cap (i+1) (d-takes x.op+1) (rwsV (q++[(x.op,.func (.func f) #[] caps.toArray)])++zeR (l.length-(i+1))) [] [] (joinM X G)) (Le.of (by exact ⟨O,O,O,O,O,O,trivial⟩) (by exact ⟨O,trivial⟩) (by exact O) (by exact O) (by repeat' (first|refine bT ?_ ?_|rfl|exact bV|exact bU|exact bW O))) (cD ⟨l.length-(i+1),by omega,i+1,_,_,G,by omega,O,?_,?_,hOG,hsn,O⟩)
      · rw [dH,hq,List.take_add_one,hx,dH]
        rfl
      · intro p hp
        rcases List.mem_append.1 hp with hp|hp
        · exact (hD p hp).mono hHG
        · rw [List.mem_singleton] at hp
          subst hp
          exact hDv
  · have e:i=l.length:=by omega
    subst e
    rw [dF] at hq hdep
    have hz:zeR (l.length-l.length)=[]:=by rw [Nat.sub_self];rfl
    rw [hz,dJ]
    by_cases h1:d=1
    · subst h1
      have hc:chkX l=0:=by unfold chkX;rw [if_neg h64,if_pos hdep]
      obtain ⟨q1,q2⟩:=rs_ok hc
      rw [q1,q2]
      (refine aA<|rgN<|klt O O (cO (by omega))<|aB<|aA<|aF O ?_;refine aJ<|aA<|aA<|rgN<|kmv O<|kne O O (r:=false) O<|aB<|aF O ?_;refine aH ?_;refine aA<|rgN<|kmv O<|kas O<|kas O<|aB<|aI ?_)
      refine cE (σ':=⟨[(2,.sv (.one (.slc 500 0 l.length 6))),(3,Ln .i64 0)],[(500,some ⟨137,(rwsV q).map .val,false⟩)],joinM X H⟩) (Le.of (by exact ⟨O,O,trivial⟩) (by exact ⟨O,trivial⟩) (by exact O) (by exact O) (by repeat' (first|refine bT ?_ ?_|rfl|exact bV|exact bU|exact bW O))) ?_
      refine Leads.closeRes (R:=rowsR l) hO (fun ρ fr g1 g2 g3=>⟨q,fr,cN _ _ _,g3,hq,fun p hp=>(hD p hp).mono (cJ g1)⟩) (cD ?_)
      exact ⟨[(1000001,500)],⟨[_,_],⟨rfl,rfl,trivial⟩,rfl⟩,(by repeat' (first|exact trivial|refine cQ ⟨_,rfl,?_⟩ ?_|refine cQ ⟨_,rfl⟩ ?_|rfl|exact bX _ _ _ _|exact bY _ _ _ _|exact bZ rfl)),rfl,rfl⟩
    · have hc:chkX l=4:=by unfold chkX;rw [if_neg h64,if_neg (fun h=>h1 (by rw [hdep] at h;exact Option.some.inj h))]
      obtain ⟨q1,q2⟩:=rs_no (l:=l) (by rw [hc];decide)
      rw [q1,q2,hc]
      (refine aA<|rgN<|klt O O (cO (by omega))<|aB<|aA<|aF O ?_;refine aJ<|aA<|aA<|rgN<|kmv O<|kne O O (r:=true) (cT (by omega))<|aB<|aE O ?_;refine aA<|rgN<|kas O<|kas O<|aB<|aI ?_)
      exact cD ⟨[],⟨[_,_],⟨O,O,trivial⟩,O⟩,trivial,O,O⟩
theorem gCheck' (l:List Ins) (ad:Option Addr) (cap:Nat) (hin:InsIn X ad l) (hl:l.length<1152921504606846976):PSpec Tryz.prog X 81 [Lx ad l.length cap] (Ln .i64 (chkX l)):=by
  have hR:=tRowsOf X l ad cap hin hl
  refine cF Tryz.func81 rfl (by kernel_rfl) rfl rfl ?_
  intro C
  by_cases h:chkX l=0
  · rw [(rs_ok h).1,(rs_ok h).2] at hR
    rw [h]
    (refine aA<|rgN<|kas O<|aB<|aA<|rgN<|kmv O<|bE [(1000001,500)] (.tup [.one (.slc 500 0 l.length 6),Sn .i64 0]) [(500,some ⟨0,[],.res (rowsR l)⟩)] (hR) O O (by exact trivial) O O O O O (by exact (.box O O .nil)) dR<|kmv O<|kex O O<|kex O O<|kas O<|kas O<|aB ?_;refine aA<|rgN<|kmv O<|kas O<|aB<|aI ?_)
    exact ⟨[_],⟨O,trivial⟩,O⟩
  · rw [(rs_no h).1,(rs_no h).2] at hR
    (refine aA<|rgN<|kas O<|aB<|aA<|rgN<|kmv O<|aU [] [] (hR) O O (by exact trivial) O O O O O (by exact .nil) dR<|kmv O<|kex O O<|kex O O<|kas O<|kas O<|aB ?_;refine aA<|rgN<|kmv O<|kas O<|aB<|aI ?_)
    exact ⟨[_],⟨O,trivial⟩,O⟩
end Go.Proofs.YtamplgnbbanamaaGreatDoor
end
section
namespace Go.Lg.Fml
theorem dep_step {okJ:Ins→Bool} {l:List Ins} {m i d:Nat} {x:Ins} (h:dep okJ 0 l=some m) (hd:dep okJ 0 (l.take i)=some d) (hx:l[i]? = some x):okJ x=true∧takes x.op≤d∧d-takes x.op+1≤16∧dep okJ 0 (l.take (i+1))=some (d-takes x.op+1):=by
  have h1:=dep_snoc hd hx
  by_cases c:okJ x=true∧takes x.op≤d∧d-takes x.op+1≤16
  · rw [if_pos c] at h1
    exact ⟨c.1,c.2.1,c.2.2,h1⟩
  · rw [if_neg c] at h1
    have:=dep_none h1
    rw [h] at this
    cases this
section
variable {V:Type} {one:Ins→List V→Except Int V}
theorem run_snoc {l:List Ins} {i:Nat} {x:Ins} {st:List V} (h:run one (l.take i) [] = .ok st) (hx:l[i]? = some x):run one (l.take (i+1)) []=match one x (st.take (takes x.op)).reverse with | .error e=>.error e | .ok v=>.ok (v::st.drop (takes x.op)):=by
  rw [List.take_add_one,hx,run_app,h]
  simp only [Option.toList_some,run]
  cases one x (st.take (takes x.op)).reverse<;>rfl
end
end Go.Lg.Fml
namespace Go.Proofs.YtamplgnbbanamaaGreatDoor
open Go Go.Lg Go.Lg.Fml Go.Lg.Fld Go.Lg.Arith
set_option maxRecDepth 100000
theorem more_join {C:Ctx} {X H:Nat→Option Obj} (hO:OwnedM C X H):MoreM X (joinM X H)∧MoreM H (joinM X H):=by
  refine ⟨fun b o hb => ?_,fun b o hb=>joinM_in hb⟩
  cases hc:H b with
  | none=>rw [joinM_out hc];exact hb
  | some o'=>have:=(hO.own b o' hc).2.2;rw [hb] at this;cases this
variable (X:Nat→Option Obj)
end Go.Proofs.YtamplgnbbanamaaGreatDoor
end
section
namespace Go.Proofs.YtamplgnbbanamaaGreatDoor
open Go Go.Lg Go.Lg.Fml Go.Lg.Fld Go.Lg.Arith
set_option maxRecDepth 100000
theorem joinS_lib:∀ l:List (List UInt8),joinS l=Lib.join l [44]
  | []=>rfl
  | [a]=>(Lib.join_one a [44]).symm
  | a::b::t=>by
    rw [Lib.join_cons]
    unfold joinS Lib.joinTail
    rw [joinS_lib (b::t),Lib.join_cons,List.map_cons,List.flatten_cons]
    simp [Lib.joinTail]
def txV (l:List (List UInt8)):List Value:=l.map fun t=>.string ⟨t.toArray⟩
def TsIn (Z:Nat→Option Obj) (ad:Option Addr) (l:List (List UInt8)):Prop:=Go.Lg.RowsIn Z ad 1 (l.map fun t=>[Value.string ⟨t.toArray⟩])
theorem txV_rows (l:List (List UInt8)):(l.map fun t=>[Value.string ⟨t.toArray⟩]).flatten=txV l:=by
  unfold txV
  induction l with
  | nil=>rfl
  | cons a t ih=>rw [List.map_cons,List.flatten_cons,ih];rfl
theorem txV_len (l:List (List UInt8)):((txV l).map CV.val).length=l.length*1:=by unfold txV;rw [cW,cW,Nat.mul_one]
theorem txV_app (a b:List (List UInt8)):txV (a++b)=txV a++txV b:=by unfold txV;rw [dH]
theorem texts_tail {Z:Nat→Option Obj} {sb:Nat} {arr:Array Value} {el:TypeId} {fr:Nat×Nat} {ns:List (List UInt8)} {rest cap:Nat} (hZ:Z sb=some (.cells arr el fr)) (hsp:∃ sp,arr.toList=txV ns++sp) (hc:cap=rest→ns.drop rest=[]):
    TsIn Z (some ⟨sb,if cap=rest then 0 else 0+rest*1,none⟩) (ns.drop rest):=by
  have hN:TsIn Z (some ⟨sb,0,none⟩) ns:=rows_in hZ (fun r hr=>by obtain ⟨x,_,rfl⟩:=List.mem_map.1 hr;rfl) (by rw [txV_rows];exact hsp)
  intro i r hi
  by_cases c:cap=rest
  · rw [hc c] at hi;simp at hi
  · rw [if_neg c]
    rw [dL,List.getElem?_drop] at hi
    obtain ⟨blk,off,arr',el',fr',e1,e2,e3,e4⟩:=hN (rest+i) r (by rw [dL];exact hi)
    simp only [Option.some.injEq,Addr.mk.injEq] at e1
    obtain ⟨rfl,rfl,_⟩:=e1
    refine ⟨sb,0+rest*1,arr',el',fr',O,e2,by omega,?_⟩
    rw [← e4,show 0+rest*1+i*1=0+(rest+i)*1 by omega]
def shownX (x:Ins) (a:List (List UInt8)):List UInt8:=if takes x.op=0 then leafS x else ((wordX x.op++[40])++joinS a)++[41]
theorem shownX_len {x:Ins} {a:List (List UInt8)} (hx:okI x=true) (h2:In2 x.k.2) (ha:a.length=takes x.op):(shownX x a).length≤(a.map List.length).sum+50:=by
  unfold shownX
  split
  · have:=leafS_len hx h2;omega
  · have h1:=word_len x.op
    have h2:=joinS_len (l:=a) (n:=(a.map List.length).sum) (by have:=takes_le x.op;omega) (dN _)
    simp only [cV,cY]
    omega
variable (X:Nat→Option Obj)
theorem join_x (ad:Option Addr) (cap:Nat) (l:List (List UInt8)) (hin:TsIn X ad l) (hpos:0<l.length) (hl:l.length≤cap) (hl3:l.length≤3) (hs:(l.map List.length).sum≤3200):PSpec Tryz.prog X 44 [Lx ad l.length cap,Ls [44]] (Ls (joinS l)):=by
  have hjl:=joinS_len hl3 hs
  rw [joinS_lib] at hjl ⊢
  obtain ⟨blk,off,arr0,el0,fr0,rfl,hX0,_,_⟩:=hin 0 _ (by rw [dL,cX hpos];rfl)
  refine PSpec.ofBelow (vals:=[.slice (some ⟨blk,off,none⟩) l.length cap,.string ⟨([44]:List UInt8).toArray⟩]) (v:=.string ⟨(Lib.join l [44]).toArray⟩) (by kernel_rfl) O O fun w hX => ?_
  have hb:=hX _ _ hX0
  have hbk:blk<w.heap.size:=(Array.getElem?_eq_some_iff.1 hb).1
  have hcells:∀ (j:Nat) (x:ByteArray),(l.map fun t=>(⟨t.toArray⟩:ByteArray))[j]? = some x→w.cell? ⟨blk,off+j,none⟩=some (.string x):=fun j x hx=>by
    rw [dL] at hx
    cases ht:l[j]? with
    | none=>rw [ht] at hx;cases hx
    | some t =>
      rw [ht] at hx
      simp only [Option.map_some,Option.some.injEq] at hx
      subst hx
      obtain ⟨blk',off',arr,el,fr,e1,e2,e3,e4⟩:=hin j _ (by rw [dL,ht];rfl)
      simp only [Option.some.injEq,Addr.mk.injEq] at e1
      obtain ⟨rfl,rfl,_⟩:=e1
      have hb2:=hX _ _ e2
      have h5:((arr.toList.drop (off+j*1)).take 1)[0]? = some (.string ⟨t.toArray⟩):=by rw [e4];rfl
      rw [List.getElem?_take,if_pos (by decide),List.getElem?_drop,Nat.add_zero,Array.getElem?_toList,Nat.mul_one] at h5
      simpa [World.cell?,hb2] using h5
  have hmap:((l.map fun t=>(⟨t.toArray⟩:ByteArray)).map fun x=>x.data.toList)=l:=by rw [List.map_map];exact List.map_id _
  have h:=Tryz.strings_Join blk off cap (l.map fun t=>(⟨t.toArray⟩:ByteArray)) ⟨([44]:List UInt8).toArray⟩ w hcells hbk (by rw [cW];omega) (by rw [cW];exact hl) (by rw [hmap];show (Lib.join l [44]).length≤_;omega)
  rw [hmap,cW] at h
  exact h
theorem tItoa (n:Int) (h:0≤n∧n≤7):PSpec Tryz.prog X 70 [Ln .i64 n] (Ls (Lib.itoa n)):=by
  obtain ⟨m,rfl⟩:∃ m:Nat,n=(m:Nat):=⟨n.toNat,by omega⟩
  exact PSpec.ofBelow (vals:=[.int .i64 (m:Nat)]) (v:=.string ⟨(Lib.itoa (m:Nat)).toArray⟩) (by kernel_rfl) rfl rfl (fun w _=>(Tryz.strconv_Itoa_small m (by omega) w).mono fun _ _ ⟨he,hw⟩=>⟨by rw [Lib.itoa_nonneg];exact he,by rw [hw];exact Go.RowKit.Below.refl _ _⟩)
theorem xtab_mono {X Y:Nat→Option Obj} (h:MoreM X Y) (hT:XTab X):XTab Y:=fun w hw=>hT w fun b o hb=>hw b o (h b o hb)
set_option maxHeartbeats 6400000 in
theorem tShown (hT:XTab X) (x:Ins) (hx:smallI x) (hok:okI x=true) (f:FuncId) (caps:List Value) (tad:Option Addr) (tcap:Nat) (ts:List (List UInt8)) (hts:TsIn X tad ts) (hlen:ts.length=takes x.op) (hcap:ts.length≤tcap) (hs:(ts.map List.length).sum≤3200):
    PSpec Tryz.prog X 88 [LRow x.op (.val (.func (.func f) #[] caps.toArray)),LIn x,Lx tad ts.length tcap] (Ls (shownX x ts)):=by
  obtain ⟨h17,hgk,ha7,hb7⟩:=okI_facts hok
  have h2:=hx.2.2.2
  have htk:=takes_le x.op
  by_cases h0:takes x.op=0
  · have hdA:=tItoa X x.a ha7
    have hdB:=tItoa X x.b hb7
    have lA:=Lib.itoa_length_le x.a (by omega) (by omega)
    have lB:=Lib.itoa_length_le x.b (by omega) (by omega)
    have hlf:∀ a b:List UInt8,([102]++a)++([46]++b)=(([102]++a)++[46])++b:=fun a b=>by simp only [dM]
    have c:x.op=1∨x.op=2∨x.op=3∨x.op=4:=by
      unfold takes at h0
      split at h0
      · omega
      · split at h0
        · omega
        · split at h0<;>omega
    rw [show shownX x ts=leafS x from if_pos h0]
    rcases c with c|c|c|c
    · obtain ⟨e1,r1⟩:LI x.k.1 x.k.2=LQ (zz x.k)∧R127 (zz x.k):=⟨LI_q h2 hgk,(zv_in h2 hgk).1⟩
      have hTx:=Text_spec X hT (zz x.k) r1
      rw [← e1] at hTx
      rw [show leafS x=textQ (zz x.k) from if_pos c]
      generalize textQ (zz x.k)=s at *
      clear e1 r1
      refine cF Tryz.func88 rfl (by kernel_rfl) rfl rfl ?_
      intro C
      (refine aA<|rgN<|aL O O O dR<|aL O O O dR<|kas O<|aB<|aA<|aA<|rgN<|kfa O O ?_;refine kl1 O O O<|aB<|aG<|aA<|rgN<|keq O O (r:=true) (cU c)<|kas O<|aB<|aE O ?_;refine aA<|rgN<|kfa O O ?_;refine bJ O O O (by exact nl3 O O O O) dR ?_;refine kca O O (hTx)<|kas O<|aB<|aI ?_)
      exact ⟨[_],⟨O,trivial⟩,O⟩
    · rw [show leafS x=([102]++dg1 x.a)++([46]++dg1 x.b) by unfold leafS;rw [if_neg (by omega),if_pos c],hlf]
      unfold dg1
      generalize Lib.itoa x.a=sa at *
      generalize Lib.itoa x.b=sb at *
      have g1:(⟨([102]:List UInt8).toArray⟩:ByteArray).size+(⟨sa.toArray⟩:ByteArray).size≤9223372036854775807:=by show 1+sa.length≤_;omega
      have g2:(⟨(([102]:List UInt8)++sa).toArray⟩:ByteArray).size+(⟨([46]:List UInt8).toArray⟩:ByteArray).size≤9223372036854775807:=by show (([102]:List UInt8)++sa).length+1≤_;rw [cV];simp only [cY];omega
      have g3:(⟨((([102]:List UInt8)++sa)++[46]).toArray⟩:ByteArray).size+(⟨sb.toArray⟩:ByteArray).size≤9223372036854775807:=by show ((([102]:List UInt8)++sa)++[46]).length+sb.length≤_;rw [cV,cV];simp only [cY];omega
      refine cF Tryz.func88 rfl (by kernel_rfl) rfl rfl ?_
      intro C
      (refine aA<|rgN<|aL O O O dR<|aL O O O dR<|kas O<|aB<|aA<|aA<|rgN<|kfa O O ?_;refine kl1 O O O<|aB<|aG<|aA<|rgN<|keq O O (r:=false) (cR (by omega))<|kas O<|aB<|aF O ?_;refine aA<|rgN<|keq O O (r:=true) (cU c)<|kas O<|aB<|aE O ?_;refine aA<|rgD mixed<|kfa O O ?_;refine kl1 O O O<|kca O O hdA<|bM O O g1 (str_add [102] sa) dR<|bM O O g2 (str_add ([102]++sa) [46]) dR<|kfa O O ?_;refine kl1 O O O<|kca O O hdB<|bM O O g3 (str_add (([102]++sa)++[46]) sb) dR<|kas O<|aB<|rgA ?_;refine aI ?_)
      exact ⟨[_],⟨O,trivial⟩,O⟩
    · rw [show leafS x=([102]++dg1 x.a)++[64] by unfold leafS;rw [if_neg (by omega),if_neg (by omega),if_pos c]]
      unfold dg1
      generalize Lib.itoa x.a=sa at *
      have g1:(⟨([102]:List UInt8).toArray⟩:ByteArray).size+(⟨sa.toArray⟩:ByteArray).size≤9223372036854775807:=by show 1+sa.length≤_;omega
      have g2:(⟨(([102]:List UInt8)++sa).toArray⟩:ByteArray).size+(⟨([64]:List UInt8).toArray⟩:ByteArray).size≤9223372036854775807:=by show (([102]:List UInt8)++sa).length+1≤_;rw [cV];simp only [cY];omega
      refine cF Tryz.func88 rfl (by kernel_rfl) rfl rfl ?_
      intro C
      (refine aA<|rgN<|aL O O O dR<|aL O O O dR<|kas O<|aB<|aA<|aA<|rgN<|kfa O O ?_;refine kl1 O O O<|aB<|aG<|aA<|rgN<|keq O O (r:=false) (cR (by omega))<|kas O<|aB<|aF O ?_;refine aA<|rgN<|keq O O (r:=false) (cR (by omega))<|kas O<|aB<|aF O ?_;refine aA<|rgN<|keq O O (r:=true) (cU c)<|kas O<|aB<|aE O ?_;refine aA<|rgN<|kfa O O ?_;refine kl1 O O O<|kca O O hdA<|bM O O g1 (str_add [102] sa) dR<|bM O O g2 (str_add ([102]++sa) [64]) dR<|kas O<|aB<|aI ?_)
      exact ⟨[_],⟨O,trivial⟩,O⟩
    · rw [show leafS x=[64] by unfold leafS;rw [if_neg (by omega),if_neg (by omega),if_neg (by omega)]]
      refine cF Tryz.func88 rfl (by kernel_rfl) rfl rfl ?_
      intro C
      (refine aA<|rgN<|aL O O O dR<|aL O O O dR<|kas O<|aB<|aA<|aA<|rgN<|kfa O O ?_;refine kl1 O O O<|aB<|aG<|aA<|rgN<|keq O O (r:=false) (cR (by omega))<|kas O<|aB<|aF O ?_;refine aA<|rgN<|keq O O (r:=false) (cR (by omega))<|kas O<|aB<|aF O ?_;refine aA<|rgN<|keq O O (r:=false) (cR (by omega))<|kas O<|aB<|aF O ?_;refine aA<|rgN<|keq O O (r:=true) (cU c)<|kas O<|aB<|aE O ?_;refine aA<|rgN<|kas O<|aB<|aI ?_)
      exact ⟨[_],⟨O,trivial⟩,O⟩
  · have h5:5≤x.op∧x.op≤17:=by
      refine ⟨?_,h17.2⟩
      unfold takes at h0
      split at h0
      · omega
      · split at h0
        · omega
        · split at h0<;>omega
    have hw:wordS x.op=wordX x.op:=if_pos h5
    have hwl:=word_len x.op
    rw [show shownX x ts=((wordX x.op++[40])++joinS ts)++[41] from if_neg h0,← hw]
    rw [← hw] at hwl
    have hjl:=joinS_len (l:=ts) (by omega) hs
    have hJ:=join_x X tad tcap ts hts (by omega) hcap (by omega) hs
    generalize joinS ts=js at *
    have g1:(⟨(wordS x.op).toArray⟩:ByteArray).size+(⟨([40]:List UInt8).toArray⟩:ByteArray).size≤9223372036854775807:=by show (wordS x.op).length+1≤_;omega
    have g2:(⟨(wordS x.op++[40]).toArray⟩:ByteArray).size+(⟨js.toArray⟩:ByteArray).size≤9223372036854775807:=by show (wordS x.op++[40]).length+js.length≤_;rw [cV];simp only [cY];omega
    have g3:(⟨((wordS x.op++[40])++js).toArray⟩:ByteArray).size+(⟨([41]:List UInt8).toArray⟩:ByteArray).size≤9223372036854775807:=by show ((wordS x.op++[40])++js).length+1≤_;rw [cV,cV];simp only [cY];omega
    refine cF Tryz.func88 rfl (by kernel_rfl) rfl rfl ?_
    intro C
    (refine aA<|rgN<|aL O O O dR<|aL O O O dR<|kas O<|aB<|aA<|aA<|rgN<|kfa O O ?_;refine kl1 O O O<|aB<|aG<|aA<|rgN<|keq O O (r:=false) (cR (by omega))<|kas O<|aB<|aF O ?_;refine aA<|rgN<|keq O O (r:=false) (cR (by omega))<|kas O<|aB<|aF O ?_;refine aA<|rgN<|keq O O (r:=false) (cR (by omega))<|kas O<|aB<|aF O ?_;refine aA<|rgN<|keq O O (r:=false) (cR (by omega))<|kas O<|aB<|aF O ?_;refine aH ?_;refine aA<|rgD mixed<|kfa O O ?_;refine kl1 O O O<|bM O O g1 (str_add (wordS x.op) [40]) dR<|kmv O<|kca O O hJ<|bM O O g2 (str_add (wordS x.op++[40]) js) dR<|bM O O g3 (str_add ((wordS x.op++[40])++js) [41]) dR<|kas O<|aB<|rgA ?_;refine aI ?_)
    exact ⟨[_],⟨O,trivial⟩,O⟩
theorem tShow1 (hT:XTab X) (x:Ins) (hx:smallI x) (hok:okI x=true) (f:FuncId) (caps:List Value) (tad:Option Addr) (tcap:Nat) (ts:List (List UInt8)) (hts:TsIn X tad ts) (hlen:ts.length=takes x.op) (hcap:ts.length≤tcap) (hs:(ts.map List.length).sum≤3200):
    PSpec Tryz.prog X 87 [LRow x.op (.val (.func (.func f) #[] caps.toArray)),LIn x,Lx tad ts.length tcap] (.tup [Ss (shownX x ts),Sn .i64 0]):=by
  have hP:=tShown X hT x hx hok f caps tad tcap ts hts hlen hcap hs
  generalize shownX x ts=r at *
  refine cF Tryz.func87 rfl (by kernel_rfl) rfl rfl ?_
  intro C
  (refine aA<|rgN<|aL O O O dR<|aL O O O dR<|kas O<|kas O<|aB<|aA<|rgN<|aK O O O dR ?_;refine aK O O O dR ?_;refine kmv O<|kca O O (hP)<|kas O<|kas O<|aB<|aI ?_)
  exact ⟨[_,_],⟨O,O,trivial⟩,O⟩
abbrev rsSt (rad ad:Option Addr) (n rcap cap i:Nat) (ms:List (Nat×LV)) (mb:List (Nat×Option Box)) (Y:Nat→Option Obj):St:=
  ⟨ms++[(0,Lx rad n rcap),(1,Lx ad n cap),(2,.sv (.one (.val (fnV 87)))),(15,Lx rad n rcap),(16,Ln .i64 (n:Nat)),(17,Ln .i64 (i:Nat))],mb,Y⟩
set_option maxHeartbeats 12800000 in
theorem tRunS (hT:XTab X) (l:List Ins) (hchk:chkX l=0) (ad:Option Addr) (cap:Nat) (hin:InsIn X ad l) (rad:Option Addr) (rcap:Nat) (hrows:RowsOK X rad l):
    PSpec Tryz.prog X 86 [Lx rad l.length rcap,Lx ad l.length cap,.sv (.one (.val (fnV 87)))] (.tup [Ss (showX l),Sn .i64 0]):=by
  obtain ⟨h64,hdep1⟩:=chkX_zero hchk
  refine cF Tryz.func86 rfl (by kernel_rfl) rfl rfl ?_
  intro C
  have hmk:slcBuild Tryz.prog 55 16=some ((List.replicate 16 [Value.string ⟨#[]⟩]).flatten,1,9):=slcBuild_many (z := #[.string ⟨#[]⟩]) (by kernel_rfl) (by kernel_rfl) rfl (by omega)
  (refine aA<|rgN<|kas O<|kas O<|aB<|aA<|rgN<|K.makeSlc0 (m:=16) (bytes:=16) O O hmk (by kernel_rfl) (by omega) O dR ?_;refine kas O<|aB<|aA<|aA<|rgN<|kmv O<|aQ O cC O dR ?_;refine kmv O<|aB<|aG ?_)
  refine cL (fun k σ=>∃ (i:Nat) (st:List (List UInt8)),i≤l.length∧k=l.length-i∧run oneS (l.take i) [] = .ok st∧(st.map List.length).sum≤50*i∧dep okI 0 (l.take i)=some st.length∧σ=rsSt rad ad l.length rcap cap i [(8,.sv (.one (.slc 500 0 st.length 1)))] [(500,some ⟨9,(txV st.reverse).map .val,true⟩)] X) l.length
    ⟨rsSt rad ad l.length rcap cap 0 [(8,.sv (.one (.slc 500 0 0 1)))] [(500,some ⟨9,[],true⟩)] X,Le.ofR [(500,14)] (by exact ⟨rfl,rfl,rfl,rfl,rfl,rfl,rfl,trivial⟩) (by repeat' (first|exact trivial|refine cQ ⟨_,rfl,?_⟩ ?_|refine cQ ⟨_,rfl⟩ ?_|rfl|exact bX _ _ _ _|exact bY _ _ _ _|exact bZ rfl)) (by exact rfl) (by exact rfl) (by repeat' (first|refine bT ?_ ?_|rfl|exact bV|exact bU|exact bW rfl)) (by exact rfl) (by exact rfl),0,[],by omega,by omega,rfl,dN _,rfl,rfl⟩ ?_
  rintro k σ ⟨i,st,hi,rfl,hst,hst2,hdep,rfl⟩
  by_cases hlt:i<l.length
  · obtain ⟨x,hx⟩:∃ x,l[i]? = some x:=⟨_,cX hlt⟩
    have hmem:=dD hx
    have hsx:=hin.small x hmem
    obtain ⟨hok,htk,h16,hdn⟩:=dep_step hdep1 hdep hx
    have hd16:=dep_le (by omega) hdep
    obtain ⟨rblk,roff,rarr,rel,rfr,dv,rfl,hXr,hszr,hcsr,hDv⟩:=hrows.at hx
    obtain ⟨g,gcaps,egv,_⟩:=id hDv
    subst egv
    obtain ⟨blk,off,arr,el,fr,rfl,hX,hsz,hcs,hop⟩:=hin.at hx
    have hio:off+Int.toNat (i:Int)*6=off+i*6:=by simp
    have hior:roff+Int.toNat (i:Int)*6=roff+i*6:=by simp
    have hin0:0≤(i:Int)∧(i:Int)<(l.length:Nat):=by omega
    obtain ⟨rest,hrest⟩:∃ rest,st.length-takes x.op=rest:=⟨_,rfl⟩
    have hsub:IntKind.i64.wrap (((st.length:Nat):Int)-((takes x.op:Nat):Int))=((rest:Nat):Int):=by rw [cH (by omega)];omega
    (refine aA<|rgN<|klt O O (cP (by omega))<|aB<|aA<|aE O ?_;refine aH ?_;refine aA<|aG<|aA<|rgN<|kmv O<|aR O O cC hin0 hior dR<|aY O hXr (by kernel_rfl) hszr hcsr dR<|aP O dR ?_;refine kas O<|aM O O O O O O dR ?_;refine aB<|aA<|rgN<|kmv O<|K.lenSlc O cC O dR ?_;refine kfa O O ?_;refine kl1 O O O<|bA O O hsub dR<|kas O<|aB<|aA ?_)
    refine LWP.le (σ':=⟨[(8,.sv (.one (.slc 500 0 st.length 1))),(0,Lx (some ⟨rblk,roff,none⟩) l.length rcap),(1,Lx (some ⟨blk,off,none⟩) l.length cap),(2,.sv (.one (.val (fnV 87)))),(9,Ln .i64 (i:Nat)),(10,Lp 10),(11,Ln .i64 (rest:Nat)),(15,Lx (some ⟨rblk,roff,none⟩) l.length rcap),(16,Ln .i64 (l.length:Nat)),(17,Ln .i64 (i:Nat))],[(500,some ⟨9,(txV st.reverse).map .val,true⟩),(10,some ⟨137,(rowVs (x.op,.func (.func g) #[] gcaps.toArray)).map .val,false⟩)],X⟩) (Le.of (by exact ⟨O,O,O,O,O,O,O,O,O,O,trivial⟩) (by exact ⟨O,O,trivial⟩) (by exact O) (by exact O) (by repeat' (first|refine bT ?_ ?_|rfl|exact bV|exact bU|exact bW O))) ?_
    refine LWP.freeze O (by exact (by repeat' (first|refine bT ?_ ?_|rfl|exact bV|exact bU|exact bW O))) O fun sb scap sarr sfr hn hFz hcp hfit hsp => ?_
    have hXZ:MoreM X (withBlock X sb (.cells sarr 9 sfr)):=cJ hn
    have hts:st.reverse.drop rest=(st.take (takes x.op)).reverse:=by rw [List.drop_reverse,← hrest,show st.length-(st.length-takes x.op)=takes x.op by omega]
    have hln:((st.take (takes x.op)).reverse).length=takes x.op:=by rw [List.length_reverse,cZ];omega
    have hN:=texts_tail (cap:=scap) (rest:=rest) (cN X sb (.cells sarr 9 sfr)) hsp (fun e=>List.drop_eq_nil_of_le (by rw [List.length_reverse];omega))
    rw [hts] at hN
    have hsum:(st.map List.length).sum=(((st.take (takes x.op)).reverse).map List.length).sum+((st.drop (takes x.op)).map List.length).sum:=by
      rw [List.map_reverse,List.sum_reverse,← List.sum_append,← dH,List.take_append_drop]
    have hP:=tShow1 _ (xtab_mono hXZ hT) x hsx hok g gcaps _ (scap-rest) _ hN hln (by omega) (by omega)
    have hln2:st.length-rest=((st.take (takes x.op)).reverse).length:=by rw [hln];omega
    have hXc:=hXZ _ _ hX
    have hsn:=run_snoc hst hx
    have hnl2:=shownX_len hok hsx.2.2.2 hln
    rw [show oneS x (st.take (takes x.op)).reverse = .ok (shownX x (st.take (takes x.op)).reverse) from rfl] at hsn
    simp only at hsn
    generalize shownX x (st.take (takes x.op)).reverse=u at *
    (refine rgD mixed<|kmv O<|aK O O O dR ?_;refine kmv O<|kmv O<|aR O O cC hin0 hio dR<|aY O hXc (by kernel_rfl) hsz hcs dR<|kmv O<|kmv O<|K.cutLoX O O cC (by omega) O hln2 O dR ?_;refine K.callF (caps:=[]) O O O hP dR ?_;refine kmv O<|kex O O<|kex O O<|kas O<|kas O<|aB<|rgA ?_;refine aA<|aA<|rgN<|kmv O<|kne O O (r:=false) O<|aB<|aF O ?_;refine aH ?_)
    have hspl:txV st.reverse=txV (st.reverse.take rest)++txV (st.reverse.drop rest):=by rw [← txV_app,List.take_append_drop]
    have hsp2:∃ sp,sarr.toList=txV (st.reverse.take rest)++sp:=by
      obtain ⟨sp,hsp⟩:=hsp
      exact ⟨_,by rw [hsp,hspl,dM]⟩
    have hrl:(st.reverse.take rest).length=rest:=by rw [cZ,List.length_reverse];omega
    refine LWP.le (σ':=⟨[(8,.sv (.one (.val (.slice (some ⟨sb,0,none⟩) st.length scap)))),(0,Lx (some ⟨rblk,roff,none⟩) l.length rcap),(1,Lx (some ⟨blk,off,none⟩) l.length cap),(2,.sv (.one (.val (fnV 87)))),(11,Ln .i64 (rest:Nat)),(12,Ls u),(15,Lx (some ⟨rblk,roff,none⟩) l.length rcap),(16,Ln .i64 (l.length:Nat)),(17,Ln .i64 (i:Nat))],[],withBlock X sb (.cells sarr 9 sfr)⟩) (Le.of (by exact ⟨O,O,O,O,O,O,O,O,O,trivial⟩) (by exact trivial) (by exact O) (by exact O) (by repeat' (first|refine bT ?_ ?_|rfl|exact bV|exact bU|exact bW O))) ?_
    refine LWP.thaw (k:=500) (sz:=1) (vals:=txV (st.reverse.take rest)) hn hFz hcp hfit hsp2 O O O (by decide) ?_
    have hl3:((txV (st.reverse.take rest)).map CV.val).length=rest*1:=by rw [txV_len,hrl]
    have hnc:(txV (st.reverse.take rest)).map CV.val++[CV.val (.string ⟨u.toArray⟩)]=(txV (st.reverse.take rest++[u])).map CV.val:=by rw [txV_app,dH];rfl
    have hinc:IntKind.i64.wrap (((i:Nat):Int)+1)=((i+1:Nat):Int):=by rw [cH (by omega)];omega
    have hst':st.reverse.take rest=(st.drop (takes x.op)).reverse:=by rw [List.take_reverse,← hrest,show st.length-(st.length-takes x.op)=takes x.op by omega]
    have hlen2:(u::st.drop (takes x.op)).length=rest+1:=by rw [dI,dA];omega
    (refine rgN<|kmv O<|kmv O<|K.cutSlc O O cC (by omega) dR<|kmv O<|aZ (zs:=[Value.string ⟨#[]⟩]) (sz:=1) (e:=9) (cs':=[.val (.string ⟨u.toArray⟩)]) (by kernel_rfl) O O O O O O dR<|bQ (by_:=16) (e2:=9) (l2:=[.val (.string ⟨u.toArray⟩)]) (nl:=rest+1) (nc:=(txV (st.reverse.take rest++[u])).map .val) O O hl3 O O (dN _) O O (by kernel_rfl) (by kernel_rfl) (by omega) (by omega) O O hnc dR<|kas O<|aB<|rgN<|kad O O hinc<|kmv O<|aB ?_)
    exact ⟨l.length-(i+1),rsSt (some ⟨rblk,roff,none⟩) (some ⟨blk,off,none⟩) l.length rcap cap (i+1) [(8,.sv (.one (.slc 500 0 (rest+1) 1)))] [(500,some ⟨9,(txV (st.reverse.take rest++[u])).map .val,true⟩)] X,by omega,Le.ofR [(500,49)] (by exact ⟨rfl,rfl,rfl,rfl,rfl,rfl,rfl,trivial⟩) (by repeat' (first|exact trivial|refine cQ ⟨_,rfl,?_⟩ ?_|refine cQ ⟨_,rfl⟩ ?_|rfl|exact bX _ _ _ _|exact bY _ _ _ _|exact bZ rfl)) (by exact rfl) (by exact rfl) (by repeat' (first|refine bT ?_ ?_|rfl|exact bV|exact bU|exact bW rfl)) (by exact rfl) (by exact rfl),i+1,u::st.drop (takes x.op),by omega,rfl,hsn,by rw [List.map_cons,List.sum_cons];omega,by rw [hdn,hlen2];congr 1;omega,by rw [hlen2,List.reverse_cons,← hst']⟩
  · have e:i=l.length:=by omega
    subst e
    rw [dF] at hst hdep
    have hl1:st.length=1:=by rw [hdep1] at hdep;exact (Option.some.inj hdep).symm
    match st,hl1,hst with
    | [u],_,hst =>
    rw [show showX l=u by unfold showX;rw [if_pos hchk,hst]]
    show LWP _ _ _ _ _ _
    refine LWP.le (σ':=rsSt rad ad l.length rcap cap l.length [(8,.sv (.one (.slc 500 0 1 1)))] [(500,some ⟨9,[.val (.string ⟨u.toArray⟩)],true⟩)] X) (Le.of (by exact ⟨O,O,O,O,O,O,O,trivial⟩) (by exact ⟨O,trivial⟩) (by exact O) (by exact O) (by repeat' (first|refine bT ?_ ?_|rfl|exact bV|exact bU|exact bW O))) ?_
    (refine aA<|rgN<|klt O O (cO (by omega))<|aB<|aA<|aF O ?_;refine aJ<|aA<|rgN<|kmv O<|K.indexSlc (off':=0) O O (by omega) O dR ?_;refine kl1 O O O<|kas O<|kas O<|aB<|aI ?_)
    exact ⟨[_,_],⟨O,O,trivial⟩,O⟩
set_option maxHeartbeats 3200000 in
theorem gShow' (hT:XTab X) (l:List Ins) (ad:Option Addr) (cap:Nat) (hin:InsIn X ad l) (hbig:l.length<1152921504606846976):PSpec Tryz.prog X 71 [Lx ad l.length cap] (Ls (showX l)):=by
  have hR:=tRowsOf X l ad cap hin hbig
  refine cF Tryz.func71 rfl (by kernel_rfl) rfl rfl ?_
  intro C
  by_cases h:chkX l=0
  · rw [(rs_ok h).1,(rs_ok h).2] at hR
    (refine aA<|rgN<|kas O<|aB<|aA<|rgN<|kmv O<|bE [(1000001,500)] (.tup [.one (.slc 500 0 l.length 6),Sn .i64 0]) [(500,some ⟨0,[],.res (rowsR l)⟩)] (hR) O O (by exact trivial) O O O O O (by exact (.box O O .nil)) dR<|kmv O<|kex O O<|kex O O<|kas O<|kas O<|aB ?_;refine aA<|aA<|rgN<|kmv O<|kne O O ((cS (by omega)))<|aB<|aF O ?_;refine aH ?_;refine aA ?_)
    refine LWP.le (σ':=⟨[(3,.sv (.one (.slc 500 0 l.length 6))),(0,Lx ad l.length cap),(4,Ln .i64 0)],[(500,some ⟨0,[],.res (rowsR l)⟩)],X⟩) (Le.of (by exact ⟨O,O,O,trivial⟩) (by exact ⟨O,trivial⟩) (by exact O) (by exact O) (by repeat' (first|refine bT ?_ ?_|rfl|exact bV|exact bU|exact bW O))) ?_
    refine LWP.fixRes O O O fun ρ H rcap hRr hO _ _ => ?_
    obtain ⟨m1,m2⟩:=more_join hO
    have hP:=tRunS _ (xtab_mono m1 hT) l h ad cap (hin.mono m1) (some ⟨ρ.1,0,none⟩) rcap (rows_fix hRr m2)
    generalize showX l=s at *
    (refine rgN<|kmv O<|kmv O<|kca O O hP<|kmv O<|kex O O<|kex O O<|kas O<|kas O<|aB<|aA<|rgN<|kmv O<|kas O ?_;refine aB<|aI ?_)
    exact ⟨[_],⟨O,trivial⟩,O⟩
  · rw [(rs_no h).1,(rs_no h).2] at hR
    rw [show showX l=[] from if_neg h]
    (refine aA<|rgN<|kas O<|aB<|aA<|rgN<|kmv O<|aU [] [] (hR) O O (by exact trivial) O O O O O (by exact .nil) dR<|kmv O<|kex O O<|kex O O<|kas O<|kas O<|aB ?_;refine aA<|aA<|rgN<|kmv O<|kne O O (r:=true) (cT h)<|aB<|aE O ?_;refine aA<|rgN<|kas O<|aB<|aI ?_)
    exact ⟨[_],⟨O,trivial⟩,O⟩
end Go.Proofs.YtamplgnbbanamaaGreatDoor
end
section
namespace Go.Proofs.YtamplgnbbanamaaGreatDoor
open Go Go.Lg
variable (X:Nat→Option Obj)
theorem WPart_1 (l s:List UInt8) (hn:fitW 4 (s.length:Nat)=true) (hs:s.length<100000000) (hl:l.length<800000000):MSpec Tryz.prog X 55 [Lp 1000000,Ls s] (w1 1000000 1000001 1000002 l) (Lb true) (w1 1000000 1000001 1000003 ((l++leB 4 s.length)++s)++[(1000002,none)]):=by
  have hf:s.length<256^4:=by unfold fitW at hn;simp only [Bool.and_eq_true,decide_eq_true_eq] at hn;exact hn.2
  refine cG Tryz.func55 rfl (by kernel_rfl) rfl rfl (by repeat' (first|refine bT ?_ ?_|rfl|exact bV|exact bU|exact bW rfl)) rfl rfl ?_
  intro C
  have hz:(⟨s.toArray⟩:ByteArray).size=s.length:=rfl
  have wl:IntKind.u64.wrap (((⟨s.toArray⟩:ByteArray).size:Nat):Int)=(s.length:Nat):=by rw [wrap_u64 (by omega)];rfl
  (refine aA<|rgN<|kas O<|aB<|aA<|rgN<|kmv O<|kmv O<|kln O<|kcv O wl ?_;refine aU [(1000003,501)] (w1 1000000 1000001 501 (l++leB 4 s.length)++[(1000002,none)]) (WNum_1_4 X l s.length (by omega) hf (by omega)) O O (by exact (cQ ⟨_,O,O⟩ (cQ ⟨_,O,O⟩ (cQ ⟨_,O,(bX _ _ _ _)⟩ trivial)))) (by exact (bT (bT O (bT O O)) (bT (bT O O) (bT bV O)))) O O O O (by exact (.box O O (.box O O (.box O (bX _ _ _ _) (.dead O .nil))))) dR<|kmv O<|gmv O O O<|gmv O O O<|aU [(1000002,501),(1000003,503)] (w1 1000000 1000001 503 ((l++leB 4 s.length)++s)++[(501,none)]) (WRaw_1 X (l++leB 4 s.length) s (by rw [cV,leB_length];omega)) O O (by exact (cQ ⟨_,O,O⟩ (cQ ⟨_,O,O⟩ (cQ ⟨_,O,(bX _ _ _ _)⟩ trivial)))) (by exact (bT (bT O (bT O O)) (bT (bT O O) (bT bV O)))) O O O O (by exact (.box O O (.box O O (.box O (bX _ _ _ _) (.dead O .nil))))) (dS O O) ?_;refine kpt O O<|kas O<|aB<|aI ?_)
  exact ⟨[(1000003,503)],⟨[_],⟨rfl,trivial⟩,rfl⟩,(by repeat' (first|exact trivial|refine cQ ⟨_,rfl,?_⟩ ?_|refine cQ ⟨_,rfl⟩ ?_|rfl|exact bX _ _ _ _|exact bY _ _ _ _|exact bZ rfl)),rfl,rfl⟩
end Go.Proofs.YtamplgnbbanamaaGreatDoor
end
section
namespace Go.Proofs.YtamplgnbbanamaaGreatDoor
open Go Go.Lg Go.Lg.Fml Go.Lg.Fld Go.Lg.Arith
set_option maxRecDepth 100000
theorem leB1o (n:Nat):leB 1 n=[o8 (n:Nat)]:=by
  simp only [leB]
  congr 1
abbrev LOp (op:Int):LV:=.sv (.agg [.val (.bool (op==2||op==3)),.val (.bool (op==2)),.val (.bool (op==1))])
theorem op_1:LOp 1 = .sv (.agg [.val (.bool false),.val (.bool false),.val (.bool true)]):=rfl
theorem op_2:LOp 2 = .sv (.agg [.val (.bool true),.val (.bool true),.val (.bool false)]):=rfl
theorem op_3:LOp 3 = .sv (.agg [.val (.bool true),.val (.bool false),.val (.bool false)]):=rfl
theorem op_no {op:Int} (h1:op≠1) (h2:op≠2) (h3:op≠3):LOp op = .sv (.agg [.val (.bool false),.val (.bool false),.val (.bool false)]):=by
  unfold LOp
  rw [cR h1,cR h2,cR h3]
  rfl
variable (X:Nat→Option Obj)
set_option maxHeartbeats 6400000 in
theorem tOnly3 (A B K:Bool) (x:Ins) (hx:smallI x):PSpec Tryz.prog X 77 [.sv (.agg [.val (.bool A),.val (.bool B),.val (.bool K)]),LIn x] (Lb ((A||(x.a==0))&&(B||(x.b==0))&&(K||decide (x.k=(false,0))))):=by
  have q:=eqI (b:=x.k.1) (b':=false) (h:=x.k.2/18446744073709551616) (h':=0) (l:=x.k.2%18446744073709551616) (l':=0) _ (eqZ hx.2.2.2)
  rw [show decide (((x.k.1,x.k.2):Nm)=(false,0))=decide (x.k=(false,0)) from rfl] at q
  generalize hr:decide (x.k=(false,0))=r at *
  generalize hp:(x.a==0)=p
  generalize hq:(x.b==0)=s
  cases A<;>cases p<;>cases B<;>cases s<;>cases K
  all_goals
    refine cF Tryz.func77 rfl (by kernel_rfl) rfl rfl ?_
    intro C
    (first|(refine aA<|rgN<|aL O O O dR<|aL O O O dR<|kas O<|aB<|aA<|rgN<|kfa O O ?_;refine kl1 O O O<|kmv O<|aN O O (dS O O) ?_;refine aO O O O (dS O O) ?_;refine bC O O hp (dS O O) ?_;refine kpf O O<|kmv O<|aN O O (dS O O) ?_;refine aO O O O (dS O O) ?_;refine gmv O O O<|aN O O (dS O O) ?_;refine aO O O O (dS O O) ?_;refine bC O O hq (dS O O) ?_;refine bP O O (dS O O) ?_;refine kpt O O<|kmv O<|aN O O (dS O O) ?_;refine aO O O O (dS O O) ?_;refine gmv O O O<|aN O O (dS O O) ?_;refine bJ O O O (by exact nl3 O O O O) (dS O O) ?_;refine aT O O (by exact O) (by exact nl3 O O O O) (dS O O) ?_;refine bR O O O O (by kernel_rfl) q (.inl ⟨O,O⟩) (dS O O) ?_;refine bP O O (dS O O) ?_;refine kpt O O<|kas O<|aB<|aI ?_)|(refine aA<|rgN<|aL O O O dR<|aL O O O dR<|kas O<|aB<|aA<|rgN<|kfa O O ?_;refine kl1 O O O<|kmv O<|aN O O (dS O O) ?_;refine aO O O O (dS O O) ?_;refine bC O O hp (dS O O) ?_;refine kpf O O<|kmv O<|aN O O (dS O O) ?_;refine aO O O O (dS O O) ?_;refine gmv O O O<|aC O O O<|aC O O O<|aC O O O<|bF O O (dS O O) ?_;refine kpt O O<|kmv O<|aN O O (dS O O) ?_;refine aO O O O (dS O O) ?_;refine gmv O O O<|aN O O (dS O O) ?_;refine bJ O O O (by exact nl3 O O O O) (dS O O) ?_;refine aT O O (by exact O) (by exact nl3 O O O O) (dS O O) ?_;refine bR O O O O (by kernel_rfl) q (.inl ⟨O,O⟩) (dS O O) ?_;refine bP O O (dS O O) ?_;refine kpt O O<|kas O<|aB<|aI ?_)|(refine aA<|rgN<|aL O O O dR<|aL O O O dR<|kas O<|aB<|aA<|rgN<|kfa O O ?_;refine kl1 O O O<|kmv O<|aC O O O<|aC O O O<|aC O O O<|kpt O O<|kmv O<|aN O O (dS O O) ?_;refine aO O O O (dS O O) ?_;refine gmv O O O<|aN O O (dS O O) ?_;refine aO O O O (dS O O) ?_;refine bC O O hq (dS O O) ?_;refine bP O O (dS O O) ?_;refine kpt O O<|kmv O<|aN O O (dS O O) ?_;refine aO O O O (dS O O) ?_;refine gmv O O O<|aN O O (dS O O) ?_;refine bJ O O O (by exact nl3 O O O O) (dS O O) ?_;refine aT O O (by exact O) (by exact nl3 O O O O) (dS O O) ?_;refine bR O O O O (by kernel_rfl) q (.inl ⟨O,O⟩) (dS O O) ?_;refine bP O O (dS O O) ?_;refine kpt O O<|kas O<|aB<|aI ?_)|(refine aA<|rgN<|aL O O O dR<|aL O O O dR<|kas O<|aB<|aA<|rgN<|kfa O O ?_;refine kl1 O O O<|kmv O<|aC O O O<|aC O O O<|aC O O O<|kpt O O<|kmv O<|aN O O (dS O O) ?_;refine aO O O O (dS O O) ?_;refine gmv O O O<|aC O O O<|aC O O O<|aC O O O<|bF O O (dS O O) ?_;refine kpt O O<|kmv O<|aN O O (dS O O) ?_;refine aO O O O (dS O O) ?_;refine gmv O O O<|aN O O (dS O O) ?_;refine bJ O O O (by exact nl3 O O O O) (dS O O) ?_;refine aT O O (by exact O) (by exact nl3 O O O O) (dS O O) ?_;refine bR O O O O (by kernel_rfl) q (.inl ⟨O,O⟩) (dS O O) ?_;refine bP O O (dS O O) ?_;refine kpt O O<|kas O<|aB<|aI ?_)|(refine aA<|rgN<|aL O O O dR<|aL O O O dR<|kas O<|aB<|aA<|rgN<|kfa O O ?_;refine kl1 O O O<|kmv O<|aN O O (dS O O) ?_;refine aO O O O (dS O O) ?_;refine bC O O hp (dS O O) ?_;refine kpf O O<|kmv O<|aN O O (dS O O) ?_;refine aO O O O (dS O O) ?_;refine gmv O O O<|aN O O (dS O O) ?_;refine aO O O O (dS O O) ?_;refine bC O O hq (dS O O) ?_;refine bP O O (dS O O) ?_;refine kpt O O<|kmv O<|aN O O (dS O O) ?_;refine aO O O O (dS O O) ?_;refine gmv O O O<|aC O O O<|aC O O O<|aC O O O<|aC O O O<|bF O O (dS O O) ?_;refine kpt O O<|kas O<|aB<|aI ?_)|(refine aA<|rgN<|aL O O O dR<|aL O O O dR<|kas O<|aB<|aA<|rgN<|kfa O O ?_;refine kl1 O O O<|kmv O<|aN O O (dS O O) ?_;refine aO O O O (dS O O) ?_;refine bC O O hp (dS O O) ?_;refine kpf O O<|kmv O<|aN O O (dS O O) ?_;refine aO O O O (dS O O) ?_;refine gmv O O O<|aC O O O<|aC O O O<|aC O O O<|bF O O (dS O O) ?_;refine kpt O O<|kmv O<|aN O O (dS O O) ?_;refine aO O O O (dS O O) ?_;refine gmv O O O<|aC O O O<|aC O O O<|aC O O O<|aC O O O<|bF O O (dS O O) ?_;refine kpt O O<|kas O<|aB<|aI ?_)|(refine aA<|rgN<|aL O O O dR<|aL O O O dR<|kas O<|aB<|aA<|rgN<|kfa O O ?_;refine kl1 O O O<|kmv O<|aC O O O<|aC O O O<|aC O O O<|kpt O O<|kmv O<|aN O O (dS O O) ?_;refine aO O O O (dS O O) ?_;refine gmv O O O<|aN O O (dS O O) ?_;refine aO O O O (dS O O) ?_;refine bC O O hq (dS O O) ?_;refine bP O O (dS O O) ?_;refine kpt O O<|kmv O<|aN O O (dS O O) ?_;refine aO O O O (dS O O) ?_;refine gmv O O O<|aC O O O<|aC O O O<|aC O O O<|aC O O O<|bF O O (dS O O) ?_;refine kpt O O<|kas O<|aB<|aI ?_)|(refine aA<|rgN<|aL O O O dR<|aL O O O dR<|kas O<|aB<|aA<|rgN<|kfa O O ?_;refine kl1 O O O<|kmv O<|aN O O (dS O O) ?_;refine aO O O O (dS O O) ?_;refine bC O O hp (dS O O) ?_;refine kpf O O<|kmv O<|aN O O (dS O O) ?_;refine aO O O O (dS O O) ?_;refine gmv O O O<|aN O O (dS O O) ?_;refine aO O O O (dS O O) ?_;refine bC O O hq (dS O O) ?_;refine bP O O (dS O O) ?_;refine kpt O O<|kmv O<|aC O O O<|aC O O O<|aC O O O<|aD O O<|aD O O<|aD O O<|aD O O<|aC O O O<|kpf O O<|kas O<|aB<|aI ?_)|(refine aA<|rgN<|aL O O O dR<|aL O O O dR<|kas O<|aB<|aA<|rgN<|kfa O O ?_;refine kl1 O O O<|kmv O<|aC O O O<|aC O O O<|aC O O O<|kpt O O<|kmv O<|aN O O (dS O O) ?_;refine aO O O O (dS O O) ?_;refine gmv O O O<|aC O O O<|aC O O O<|aC O O O<|bF O O (dS O O) ?_;refine kpt O O<|kmv O<|aN O O (dS O O) ?_;refine aO O O O (dS O O) ?_;refine gmv O O O<|aC O O O<|aC O O O<|aC O O O<|aC O O O<|bF O O (dS O O) ?_;refine kpt O O<|kas O<|aB<|aI ?_)|(refine aA<|rgN<|aL O O O dR<|aL O O O dR<|kas O<|aB<|aA<|rgN<|kfa O O ?_;refine kl1 O O O<|kmv O<|aC O O O<|aC O O O<|aC O O O<|kpt O O<|kmv O<|aN O O (dS O O) ?_;refine aO O O O (dS O O) ?_;refine gmv O O O<|aN O O (dS O O) ?_;refine aO O O O (dS O O) ?_;refine bC O O hq (dS O O) ?_;refine bP O O (dS O O) ?_;refine kpt O O<|kmv O<|aC O O O<|aC O O O<|aC O O O<|aD O O<|aD O O<|aD O O<|aD O O<|aC O O O<|kpf O O<|kas O<|aB<|aI ?_)|(refine aA<|rgN<|aL O O O dR<|aL O O O dR<|kas O<|aB<|aA<|rgN<|kfa O O ?_;refine kl1 O O O<|kmv O<|aN O O (dS O O) ?_;refine aO O O O (dS O O) ?_;refine bC O O hp (dS O O) ?_;refine kpf O O<|kmv O<|aC O O O<|aC O O O<|aC O O O<|aD O O<|aD O O<|aD O O<|aC O O O<|kpf O O<|kmv O<|aC O O O<|aC O O O<|aC O O O ?_;refine aD O O<|aD O O<|aD O O<|aD O O<|aC O O O<|kpf O O<|kas O<|aB<|aI ?_))
    exact ⟨[_],⟨O,trivial⟩,O⟩
theorem tOnly (x:Ins) (hx:smallI x):PSpec Tryz.prog X 77 [LOp x.op,LIn x] (Lb (plainI x)):=by
  have h:=tOnly3 X (x.op==2||x.op==3) (x.op==2) (x.op==1) x hx
  have e:(((x.op==2||x.op==3)||(x.a==0))&&((x.op==2)||(x.b==0))&&((x.op==1)||decide (x.k=(false,0))))=plainI x:=by
    unfold plainI
    have hb:∀ a b:Int,(a==b)=decide (a=b):=fun a b=>rfl
    rw [hb,hb,hb,hb,hb]
    generalize decide (x.op=1)=a1
    generalize decide (x.op=2)=a2
    generalize decide (x.op=3)=a3
    generalize decide (x.a=0)=b1
    generalize decide (x.b=0)=b2
    generalize decide (x.k=(false,0))=b3
    cases a1<;>cases a2<;>cases a3<;>cases b1<;>cases b2<;>cases b3<;>rfl
  rw [e] at h
  exact h
theorem ePut_0 (n:Nat) (h:n<256):MSpec Tryz.prog X 76 [Lp 1000000,Ln .i64 (n:Nat)] (w0 1000000) (.tup []) (w1 1000000 1000001 1000002 [o8 (n:Nat)]):=by
  have hN:=WNum_0_1 X n (by omega) (by omega)
  rw [leB1o n] at hN
  refine cG Tryz.func76 rfl (by kernel_rfl) rfl rfl (by repeat' (first|refine bT ?_ ?_|rfl|exact bV|exact bU|exact bW rfl)) rfl rfl ?_
  intro C
  have hw:IntKind.u64.wrap ((n:Nat):Int)=((n:Nat):Int):=wrap_u64 (by omega)
  (refine rgN<|kmv O<|kmv O<|kcv O hw ?_;refine aU [(1000001,501),(1000002,502)] (w1 1000000 501 502 [o8 (n:Nat)]) (hN) O O (by exact (cQ ⟨_,O,O⟩ trivial)) (by exact (bT (bT O (bT O O)) O)) O O O O (by exact (.box O O (.box O O (.box O O .nil)))) dR<|aB ?_)
  exact ⟨[(1000001,501),(1000002,502)],⟨[],trivial,rfl⟩,(by repeat' (first|exact trivial|refine cQ ⟨_,rfl,?_⟩ ?_|refine cQ ⟨_,rfl⟩ ?_|rfl|exact bX _ _ _ _|exact bY _ _ _ _|exact bZ rfl)),rfl,rfl⟩
theorem ePut_1 (l:List UInt8) (n:Int) (h:0≤n∧n<256) (hl:l.length<900000000):MSpec Tryz.prog X 76 [Lp 1000000,Ln .i64 n] (w1 1000000 1000001 1000002 l) (.tup []) (w1 1000000 1000001 1000003 (l++[o8 n])++[(1000002,none)]):=by
  obtain ⟨k,rfl⟩:=Int.eq_ofNat_of_zero_le h.1
  have hk:k<256:=by omega
  have hN:=WNum_1_1 X l k (by omega) (by omega) hl
  rw [leB1o k] at hN
  refine cG Tryz.func76 rfl (by kernel_rfl) rfl rfl (by repeat' (first|refine bT ?_ ?_|rfl|exact bV|exact bU|exact bW rfl)) rfl rfl ?_
  intro C
  have hw:IntKind.u64.wrap ((k:Nat):Int)=((k:Nat):Int):=wrap_u64 (by omega)
  (refine rgN<|kmv O<|kmv O<|kcv O hw ?_;refine aU [(1000003,501)] (w1 1000000 1000001 501 (l++[o8 (k:Nat)])++[(1000002,none)]) (hN) O O (by exact (cQ ⟨_,O,O⟩ (cQ ⟨_,O,O⟩ (cQ ⟨_,O,(bX _ _ _ _)⟩ trivial)))) (by exact (bT (bT O (bT O O)) (bT (bT O O) (bT bV O)))) O O O O (by exact (.box O O (.box O O (.box O (bX _ _ _ _) (.dead O .nil))))) dR<|aB ?_)
  exact ⟨[(1000003,501)],⟨[],trivial,rfl⟩,(by repeat' (first|exact trivial|refine cQ ⟨_,rfl,?_⟩ ?_|refine cQ ⟨_,rfl⟩ ?_|rfl|exact bX _ _ _ _|exact bY _ _ _ _|exact bZ rfl)),rfl,rfl⟩
def numX (k:Nm):List UInt8:=sgB k.1::(leB 8 (loW k.2)++leB 8 (hiW k.2))
theorem LI_words {N:Int} (h:In2 N) (b:Bool):LI b N=Li b ((hiW N:Nat):Int) ((loW N:Nat):Int):=by
  obtain ⟨h1,h2,h3⟩:=words h
  unfold LI
  have e1:N/18446744073709551616=((hiW N:Nat):Int):=by unfold In2 at h;unfold hiW;omega
  have e2:N%18446744073709551616=((loW N:Nat):Int):=by unfold loW;omega
  rw [e1,e2]
set_option maxHeartbeats 3200000 in
theorem ePutNum (l:List UInt8) (k:Nm) (hk:In2 k.2) (hl:l.length<800000000):MSpec Tryz.prog X 93 [Lp 1000000,LI k.1 k.2] (w1 1000000 1000001 1000002 l) (.tup []) (w1 1000000 1000001 1000003 (l++numX k)++[(1000002,none)]):=by
  rw [LI_words hk]
  obtain ⟨_,h2,h3⟩:=words hk
  have hp:(256:Nat)^8=18446744073709551616:=by decide
  obtain ⟨b,N⟩:=k
  unfold numX
  simp only at hk h2 h3 ⊢
  generalize loW N=lo at *
  generalize hiW N=hi at *
  have p1:=fun n h=>ePut_1 X l n h (by omega)
  have p2:=WNum_1_8 X (l++[sgB b]) lo (by omega) (by omega) (by rw [cV,cY];omega)
  have p3:=WNum_1_8 X ((l++[sgB b])++leB 8 lo) hi (by omega) (by omega) (by rw [cV,cV,cY,leB_length];omega)
  have hfin:l++sgB b::(leB 8 lo++leB 8 hi)=((l++[sgB b])++leB 8 lo)++leB 8 hi:=by simp
  rw [hfin]
  refine cG Tryz.func93 rfl (by kernel_rfl) rfl rfl (by repeat' (first|refine bT ?_ ?_|rfl|exact bV|exact bU|exact bW rfl)) rfl rfl ?_
  intro C
  cases b with
  | false =>
    have p1:MSpec Tryz.prog X 76 [Lp 1000000,Ln .i64 0] (w1 1000000 1000001 1000002 l) (.tup []) (w1 1000000 1000001 1000003 (l++[sgB false])++[(1000002,none)]):=p1 0 ⟨by decide,by decide⟩
    (refine aA<|rgN<|aL O O O dR<|aB<|aA<|rgN<|kas O<|aB<|aA<|aA<|rgN<|kfa O O ?_;refine kl1 O O O<|aB<|aF O ?_;refine aH ?_;refine aA<|rgN<|kmv O<|kmv O<|aU [(1000003,501)] (w1 1000000 1000001 501 (l++[sgB false])++[(1000002,none)]) (p1) O O (by exact (cQ ⟨_,O,O⟩ (cQ ⟨_,O,O⟩ (cQ ⟨_,O,(bX _ _ _ _)⟩ trivial)))) (by exact (bT (bT O (bT O O)) (bT (bT O O) (bT bV O)))) O O O O (by exact (.box O O (.box O O (.box O (bX _ _ _ _) (.dead O .nil))))) dR<|aB<|aA<|rgN<|kmv O<|kfa O O ?_;refine kl1 O O O<|aU [(1000002,501),(1000003,502)] (w1 1000000 1000001 502 ((l++[sgB false])++leB 8 lo)++[(501,none)]) (p2) O O (by exact (cQ ⟨_,O,O⟩ (cQ ⟨_,O,O⟩ (cQ ⟨_,O,(bX _ _ _ _)⟩ trivial)))) (by exact (bT (bT O (bT O O)) (bT (bT O O) (bT bV O)))) O O O O (by exact (.box O O (.box O O (.box O (bX _ _ _ _) (.dead O .nil))))) dR<|aB<|rgN<|kmv O<|kfa O O ?_;refine kl1 O O O<|aU [(1000002,502),(1000003,503)] (w1 1000000 1000001 503 (((l++[sgB false])++leB 8 lo)++leB 8 hi)++[(502,none)]) (p3) O O (by exact (cQ ⟨_,O,O⟩ (cQ ⟨_,O,O⟩ (cQ ⟨_,O,(bX _ _ _ _)⟩ trivial)))) (by exact (bT (bT O (bT O O)) (bT (bT O O) (bT bV O)))) O O O O (by exact (.box O O (.box O O (.box O (bX _ _ _ _) (.dead O .nil))))) dR<|aB ?_)
    exact ⟨[(1000003,503)],⟨[],trivial,rfl⟩,(by repeat' (first|exact trivial|refine cQ ⟨_,rfl,?_⟩ ?_|refine cQ ⟨_,rfl⟩ ?_|rfl|exact bX _ _ _ _|exact bY _ _ _ _|exact bZ rfl)),rfl,rfl⟩
  | true =>
    have p1:MSpec Tryz.prog X 76 [Lp 1000000,Ln .i64 1] (w1 1000000 1000001 1000002 l) (.tup []) (w1 1000000 1000001 1000003 (l++[sgB true])++[(1000002,none)]):=p1 1 ⟨by decide,by decide⟩
    (refine aA<|rgN<|aL O O O dR<|aB<|aA<|rgN<|kas O<|aB<|aA<|aA<|rgN<|kfa O O ?_;refine kl1 O O O<|aB<|aE O ?_;refine rgN<|kas O<|aB<|aA<|rgN<|kmv O<|kmv O<|aU [(1000003,501)] (w1 1000000 1000001 501 (l++[sgB true])++[(1000002,none)]) (p1) O O (by exact (cQ ⟨_,O,O⟩ (cQ ⟨_,O,O⟩ (cQ ⟨_,O,(bX _ _ _ _)⟩ trivial)))) (by exact (bT (bT O (bT O O)) (bT (bT O O) (bT bV O)))) O O O O (by exact (.box O O (.box O O (.box O (bX _ _ _ _) (.dead O .nil))))) dR<|aB<|aA<|rgN<|kmv O<|kfa O O ?_;refine kl1 O O O<|aU [(1000002,501),(1000003,502)] (w1 1000000 1000001 502 ((l++[sgB true])++leB 8 lo)++[(501,none)]) (p2) O O (by exact (cQ ⟨_,O,O⟩ (cQ ⟨_,O,O⟩ (cQ ⟨_,O,(bX _ _ _ _)⟩ trivial)))) (by exact (bT (bT O (bT O O)) (bT (bT O O) (bT bV O)))) O O O O (by exact (.box O O (.box O O (.box O (bX _ _ _ _) (.dead O .nil))))) dR<|aB<|rgN<|kmv O<|kfa O O ?_;refine kl1 O O O<|aU [(1000002,502),(1000003,503)] (w1 1000000 1000001 503 (((l++[sgB true])++leB 8 lo)++leB 8 hi)++[(502,none)]) (p3) O O (by exact (cQ ⟨_,O,O⟩ (cQ ⟨_,O,O⟩ (cQ ⟨_,O,(bX _ _ _ _)⟩ trivial)))) (by exact (bT (bT O (bT O O)) (bT (bT O O) (bT bV O)))) O O O O (by exact (.box O O (.box O O (.box O (bX _ _ _ _) (.dead O .nil))))) dR<|aB ?_)
    exact ⟨[(1000003,503)],⟨[],trivial,rfl⟩,(by repeat' (first|exact trivial|refine cQ ⟨_,rfl,?_⟩ ?_|refine cQ ⟨_,rfl⟩ ?_|rfl|exact bX _ _ _ _|exact bY _ _ _ _|exact bZ rfl)),rfl,rfl⟩
set_option maxHeartbeats 3200000 in
theorem ePutIns (l:List UInt8) (x:Ins) (hx:smallI x) (hok:okI x=true) (hl:l.length<700000000):MSpec Tryz.prog X 78 [Lp 1000000,LOp x.op,LIn x] (w1 1000000 1000001 1000002 l) (.tup []) (w1 1000000 1000001 1000003 (l++encI x)++[(1000002,none)]):=by
  obtain ⟨h17,hgk,ha7,hb7⟩:=okI_facts hok
  have hk2:=hx.2.2.2
  obtain ⟨op,a,b,k⟩:=x
  simp only at h17 hgk ha7 hb7 hk2 ⊢
  have p1:=ePut_1 X l op (by omega) (by omega)
  have pa:=ePut_1 X (l++[o8 op]) a (by omega) (by rw [cV,cY];omega)
  have pb:=ePut_1 X ((l++[o8 op])++[o8 a]) b (by omega) (by rw [cV,cV,cY,cY];omega)
  have pk:=ePutNum X (l++[o8 op]) k hk2 (by rw [cV,cY];omega)
  by_cases c1:op=1
  · subst c1
    rw [show encI ⟨1,a,b,k⟩=o8 1::numX k from rfl,show l++o8 1::numX k=(l++[o8 1])++numX k by simp,op_1]
    refine cG Tryz.func78 rfl (by kernel_rfl) rfl rfl (by repeat' (first|refine bT ?_ ?_|rfl|exact bV|exact bU|exact bW rfl)) rfl rfl ?_
    intro C
    (refine aA<|rgN<|aL O O O dR<|aL O O O dR<|aB<|aA<|rgN<|kmv O<|kfa O O ?_;refine kl1 O O O<|aU [(1000003,501)] (w1 1000000 1000001 501 (l++[o8 1])++[(1000002,none)]) (p1) O O (by exact (cQ ⟨_,O,O⟩ (cQ ⟨_,O,O⟩ (cQ ⟨_,O,(bX _ _ _ _)⟩ trivial)))) (by exact (bT (bT O (bT O O)) (bT (bT O O) (bT bV O)))) O O O O (by exact (.box O O (.box O O (.box O (bX _ _ _ _) (.dead O .nil))))) dR<|aB<|aA<|aA<|rgN<|kfa O O ?_;refine kl1 O O O<|aB<|aF O ?_;refine aH ?_;refine aA<|aA<|rgN<|kfa O O ?_;refine kl1 O O O<|aB<|aF O ?_;refine aH ?_;refine aA<|rgN<|kfa O O ?_;refine kl1 O O O<|aB<|aE O ?_;refine rgN<|kmv O<|kfa O O ?_;refine bJ O O O (by exact nl3 O O O O) dR ?_;refine aU [(1000002,501),(1000003,502)] (w1 1000000 1000001 502 ((l++[o8 1])++numX k)++[(501,none)]) (pk) O O (by exact (cQ ⟨_,O,O⟩ (cQ ⟨_,O,O⟩ (cQ ⟨_,O,(bX _ _ _ _)⟩ trivial)))) (by exact (bT (bT O (bT O O)) (bT (bT O O) (bT bV O)))) O O O O (by exact (.box O O (.box O O (.box O (bX _ _ _ _) (.dead O .nil))))) dR<|aB ?_)
    exact ⟨[(1000003,502)],⟨[],trivial,rfl⟩,(by repeat' (first|exact trivial|refine cQ ⟨_,rfl,?_⟩ ?_|refine cQ ⟨_,rfl⟩ ?_|rfl|exact bX _ _ _ _|exact bY _ _ _ _|exact bZ rfl)),rfl,rfl⟩
  by_cases c2:op=2
  · subst c2
    rw [show encI ⟨2,a,b,k⟩=[o8 2,o8 a,o8 b] from rfl,show l++[o8 2,o8 a,o8 b]=((l++[o8 2])++[o8 a])++[o8 b] by simp,op_2]
    refine cG Tryz.func78 rfl (by kernel_rfl) rfl rfl (by repeat' (first|refine bT ?_ ?_|rfl|exact bV|exact bU|exact bW rfl)) rfl rfl ?_
    intro C
    (refine aA<|rgN<|aL O O O dR<|aL O O O dR<|aB<|aA<|rgN<|kmv O<|kfa O O ?_;refine kl1 O O O<|aU [(1000003,501)] (w1 1000000 1000001 501 (l++[o8 2])++[(1000002,none)]) (p1) O O (by exact (cQ ⟨_,O,O⟩ (cQ ⟨_,O,O⟩ (cQ ⟨_,O,(bX _ _ _ _)⟩ trivial)))) (by exact (bT (bT O (bT O O)) (bT (bT O O) (bT bV O)))) O O O O (by exact (.box O O (.box O O (.box O (bX _ _ _ _) (.dead O .nil))))) dR<|aB<|aA<|aA<|rgN<|kfa O O ?_;refine kl1 O O O<|aB<|aE O ?_;refine rgN<|kmv O<|kfa O O ?_;refine kl1 O O O<|aU [(1000002,501),(1000003,502)] (w1 1000000 1000001 502 ((l++[o8 2])++[o8 a])++[(501,none)]) (pa) O O (by exact (cQ ⟨_,O,O⟩ (cQ ⟨_,O,O⟩ (cQ ⟨_,O,(bX _ _ _ _)⟩ trivial)))) (by exact (bT (bT O (bT O O)) (bT (bT O O) (bT bV O)))) O O O O (by exact (.box O O (.box O O (.box O (bX _ _ _ _) (.dead O .nil))))) dR<|aB<|aA<|aA<|rgN<|kfa O O ?_;refine kl1 O O O<|aB<|aE O ?_;refine rgN<|kmv O<|kfa O O ?_;refine kl1 O O O<|aU [(1000002,502),(1000003,503)] (w1 1000000 1000001 503 (((l++[o8 2])++[o8 a])++[o8 b])++[(502,none)]) (pb) O O (by exact (cQ ⟨_,O,O⟩ (cQ ⟨_,O,O⟩ (cQ ⟨_,O,(bX _ _ _ _)⟩ trivial)))) (by exact (bT (bT O (bT O O)) (bT (bT O O) (bT bV O)))) O O O O (by exact (.box O O (.box O O (.box O (bX _ _ _ _) (.dead O .nil))))) dR<|aB<|aA<|rgN<|kfa O O ?_;refine kl1 O O O<|aB<|aF O ?_;refine aH ?_)
    exact ⟨[(1000003,503)],⟨[],trivial,rfl⟩,(by repeat' (first|exact trivial|refine cQ ⟨_,rfl,?_⟩ ?_|refine cQ ⟨_,rfl⟩ ?_|rfl|exact bX _ _ _ _|exact bY _ _ _ _|exact bZ rfl)),rfl,rfl⟩
  by_cases c3:op=3
  · subst c3
    rw [show encI ⟨3,a,b,k⟩=[o8 3,o8 a] from rfl,show l++[o8 3,o8 a]=(l++[o8 3])++[o8 a] by simp,op_3]
    refine cG Tryz.func78 rfl (by kernel_rfl) rfl rfl (by repeat' (first|refine bT ?_ ?_|rfl|exact bV|exact bU|exact bW rfl)) rfl rfl ?_
    intro C
    (refine aA<|rgN<|aL O O O dR<|aL O O O dR<|aB<|aA<|rgN<|kmv O<|kfa O O ?_;refine kl1 O O O<|aU [(1000003,501)] (w1 1000000 1000001 501 (l++[o8 3])++[(1000002,none)]) (p1) O O (by exact (cQ ⟨_,O,O⟩ (cQ ⟨_,O,O⟩ (cQ ⟨_,O,(bX _ _ _ _)⟩ trivial)))) (by exact (bT (bT O (bT O O)) (bT (bT O O) (bT bV O)))) O O O O (by exact (.box O O (.box O O (.box O (bX _ _ _ _) (.dead O .nil))))) dR<|aB<|aA<|aA<|rgN<|kfa O O ?_;refine kl1 O O O<|aB<|aE O ?_;refine rgN<|kmv O<|kfa O O ?_;refine kl1 O O O<|aU [(1000002,501),(1000003,502)] (w1 1000000 1000001 502 ((l++[o8 3])++[o8 a])++[(501,none)]) (pa) O O (by exact (cQ ⟨_,O,O⟩ (cQ ⟨_,O,O⟩ (cQ ⟨_,O,(bX _ _ _ _)⟩ trivial)))) (by exact (bT (bT O (bT O O)) (bT (bT O O) (bT bV O)))) O O O O (by exact (.box O O (.box O O (.box O (bX _ _ _ _) (.dead O .nil))))) dR<|aB<|aA<|aA<|rgN<|kfa O O ?_;refine kl1 O O O<|aB<|aF O ?_;refine aH ?_;refine aA<|rgN<|kfa O O ?_;refine kl1 O O O<|aB<|aF O ?_;refine aH ?_)
    exact ⟨[(1000003,502)],⟨[],trivial,rfl⟩,(by repeat' (first|exact trivial|refine cQ ⟨_,rfl,?_⟩ ?_|refine cQ ⟨_,rfl⟩ ?_|rfl|exact bX _ _ _ _|exact bY _ _ _ _|exact bZ rfl)),rfl,rfl⟩
  rw [show encI ⟨op,a,b,k⟩=[o8 op] by unfold encI;simp only;rw [if_neg c1,if_neg c2,if_neg c3],op_no c1 c2 c3]
  refine cG Tryz.func78 rfl (by kernel_rfl) rfl rfl (by repeat' (first|refine bT ?_ ?_|rfl|exact bV|exact bU|exact bW rfl)) rfl rfl ?_
  intro C
  (refine aA<|rgN<|aL O O O dR<|aL O O O dR<|aB<|aA<|rgN<|kmv O<|kfa O O ?_;refine kl1 O O O<|aU [(1000003,501)] (w1 1000000 1000001 501 (l++[o8 op])++[(1000002,none)]) (p1) O O (by exact (cQ ⟨_,O,O⟩ (cQ ⟨_,O,O⟩ (cQ ⟨_,O,(bX _ _ _ _)⟩ trivial)))) (by exact (bT (bT O (bT O O)) (bT (bT O O) (bT bV O)))) O O O O (by exact (.box O O (.box O O (.box O (bX _ _ _ _) (.dead O .nil))))) dR<|aB<|aA<|aA<|rgN<|kfa O O ?_;refine kl1 O O O<|aB<|aF O ?_;refine aH ?_;refine aA<|aA<|rgN<|kfa O O ?_;refine kl1 O O O<|aB<|aF O ?_;refine aH ?_;refine aA<|rgN<|kfa O O ?_;refine kl1 O O O<|aB<|aF O ?_;refine aH ?_)
  exact ⟨[(1000003,501)],⟨[],trivial,rfl⟩,(by repeat' (first|exact trivial|refine cQ ⟨_,rfl,?_⟩ ?_|refine cQ ⟨_,rfl⟩ ?_|rfl|exact bX _ _ _ _|exact bY _ _ _ _|exact bZ rfl)),rfl,rfl⟩
abbrev enSt (rad ad:Option Addr) (n rcap cap i:Nat) (B:List UInt8) (Y:Nat→Option Obj):St:=
  ⟨[(0,Lx ad n cap),(6,Lp 18),(23,Lx rad n rcap),(24,Ln .i64 (n:Nat)),(25,Ln .i64 (i:Nat))],w1 18 601 500 B,Y⟩
set_option maxHeartbeats 6400000 in
theorem gEncode' (l:List Ins) (ad:Option Addr) (cap:Nat) (hin:InsIn X ad l) (hbig:l.length<1152921504606846976):PSpec Tryz.prog X 54 [Lx ad l.length cap] (.tup [Ss (encTX l),Sn .i64 (encErr l)]):=by
  have hR:=tRowsOf X l ad cap hin hbig
  refine cF Tryz.func54 rfl (by kernel_rfl) rfl rfl ?_
  intro C
  by_cases h:chkX l=0
  · rw [(rs_ok h).1,(rs_ok h).2] at hR
    have h64:=(chkX_zero h).1
    have hall:=chkX_ok h
    (refine aA<|rgN<|kas O<|kas O<|aB<|aA<|rgN<|kmv O<|bE [(1000001,500)] (.tup [.one (.slc 500 0 l.length 6),Sn .i64 0]) [(500,some ⟨0,[],.res (rowsR l)⟩)] (hR) O O (by exact trivial) O O O O O (by exact (.box O O .nil)) dR<|kmv O<|kex O O<|kex O O<|kas O<|kas O ?_;refine aB<|aA<|aA<|rgN<|kmv O<|kne O O ((cS (by omega)))<|aB<|aF O ?_;refine aH ?_;refine aA ?_)
    refine LWP.le (σ':=⟨[(4,.sv (.one (.slc 500 0 l.length 6))),(0,Lx ad l.length cap)],[(500,some ⟨0,[],.res (rowsR l)⟩)],X⟩) (Le.of (by exact ⟨O,O,trivial⟩) (by exact ⟨O,trivial⟩) (by exact O) (by exact O) (by repeat' (first|refine bT ?_ ?_|rfl|exact bV|exact bU|exact bW O))) ?_
    refine LWP.fixRes O O O fun ρ H rcap hRr hO _ _ => ?_
    obtain ⟨m1,m2⟩:=more_join hO
    have hrows:=rows_fix hRr m2
    replace hin:=hin.mono m1
    generalize joinM X H=Y at *
    have p1:=ePut_0 Y l.length (by omega)
    (refine rgN<|aT O O (by exact O) (by exact nl2 O O O) dR ?_;refine aL O O O dR<|kas O<|aB<|aA<|rgN<|kmv O<|kmv O<|aQ O cC O dR ?_;refine aU [(1000000,18),(1000001,601),(1000002,602)] (w1 18 601 602 [o8 (l.length:Nat)]) (p1) O O (by exact (cQ ⟨_,O,O⟩ trivial)) (by exact (bT (bT O (bT O O)) O)) O O O O (by exact (.box O O (.box O O (.box O O .nil)))) dR<|aB<|aA<|aA<|rgN<|kmv O<|aQ O cC O dR ?_;refine kmv O<|aB<|aG ?_)
    refine cL (fun m σ=>∃ i:Nat,i≤l.length∧m=l.length-i∧(∀ x∈l.take i,plainI x=true)∧σ=enSt (some ⟨ρ.1,0,none⟩) ad l.length rcap cap i (o8 (l.length:Nat)::encIs (l.take i)) Y) l.length
      ⟨enSt (some ⟨ρ.1,0,none⟩) ad l.length rcap cap 0 (o8 (l.length:Nat)::encIs (l.take 0)) Y,Le.ofR [(500,602)] (by exact ⟨rfl,rfl,rfl,rfl,rfl,trivial⟩) (by repeat' (first|exact trivial|refine cQ ⟨_,rfl,?_⟩ ?_|refine cQ ⟨_,rfl⟩ ?_|rfl|exact bX _ _ _ _|exact bY _ _ _ _|exact bZ rfl)) (by exact rfl) (by exact rfl) (by repeat' (first|refine bT ?_ ?_|rfl|exact bV|exact bU|exact bW rfl)) (by exact rfl) (by exact rfl),0,Nat.zero_le _,rfl,fun x hx=>absurd hx (by simp),rfl⟩ ?_
    rintro m σ ⟨i,hi,rfl,hpl,rfl⟩
    have hBl:=encIs_len (l.take i)
    rw [cZ] at hBl
    by_cases hlt:i<l.length
    · obtain ⟨x,hx⟩:∃ x,l[i]? = some x:=⟨_,cX hlt⟩
      have hmem:=dD hx
      have hsx:=hin.small x hmem
      have hok:=hall x hmem
      obtain ⟨rblk,roff,rarr,rel,rfr,dv,hrad,hXr,hszr,hcsr,hDv⟩:=hrows.at hx
      simp only [Option.some.injEq,Addr.mk.injEq] at hrad
      obtain ⟨rfl,rfl,_⟩:=hrad
      obtain ⟨g,gcaps,egv,_⟩:=id hDv
      subst egv
      obtain ⟨blk,off,arr,el,fr,rfl,hX,hsz,hcs,hop⟩:=hin.at hx
      have hio:off+Int.toNat (i:Int)*6=off+i*6:=by simp
      have hior:0+Int.toNat (i:Int)*6=0+i*6:=by simp
      have hin0:0≤(i:Int)∧(i:Int)<(l.length:Nat):=by omega
      have hO:=tOnly Y x hsx
      cases hp:plainI x with
      | false =>
        have he:encErr l=1:=by
          unfold encErr
          rw [if_pos h,if_neg]
          intro ha
          have:=List.all_eq_true.1 ha x hmem
          rw [hp] at this
          cases this
        rw [show encTX l=[] by unfold encTX;rw [he];rfl,he]
        rw [hp] at hO
        (refine aA<|rgN<|klt O O (cP (by omega))<|aB<|aA<|aE O ?_;refine aH ?_;refine aA<|aG<|aA<|rgN<|kmv O<|aR O O cC hin0 hior dR<|aY O hXr (by kernel_rfl) hszr hcsr dR<|aP O dR ?_;refine kas O<|aM O O O O O O dR ?_;refine aB<|aA<|aA<|rgD mixed<|kfa O O ?_;refine bJ O O O O dR ?_;refine kmv O<|kmv O<|aR O O cC hin0 hio dR<|aY O hX (by kernel_rfl) hsz hcs dR<|kca O O hO<|aV O O dR<|aB<|rgA ?_;refine aE O ?_;refine aA<|rgN<|kas O<|kas O<|aB<|aI ?_)
        exact ⟨[_,_],⟨O,O,trivial⟩,O⟩
      | true =>
        rw [hp] at hO
        have hnext:o8 (l.length:Nat)::encIs (l.take (i+1))=(o8 (l.length:Nat)::encIs (l.take i))++encI x:=by
          rw [List.take_add_one,hx,encIs_app]
          simp [encIs]
        have q:=ePutIns Y (o8 (l.length:Nat)::encIs (l.take i)) x hsx hok (by rw [dI];omega)
        rw [← hnext] at q
        have hinc:IntKind.i64.wrap (((i:Nat):Int)+1)=((i+1:Nat):Int):=by rw [cH (by omega)];omega
        (refine aA<|rgN<|klt O O (cP (by omega))<|aB<|aA<|aE O ?_;refine aH ?_;refine aA<|aG<|aA<|rgN<|kmv O<|aR O O cC hin0 hior dR<|aY O hXr (by kernel_rfl) hszr hcsr dR<|aP O dR ?_;refine kas O<|aM O O O O O O dR ?_;refine aB<|aA<|aA<|rgD mixed<|kfa O O ?_;refine bJ O O O O dR ?_;refine kmv O<|kmv O<|aR O O cC hin0 hio dR<|aY O hX (by kernel_rfl) hsz hcs dR<|kca O O hO<|aV O O dR<|aB<|rgA ?_;refine aF O ?_;refine aH ?_;refine rgD mixed<|kmv O<|kfa O O ?_;refine bJ O O O O dR ?_;refine kmv O<|kmv O<|aR O O cC hin0 hio dR<|aY O hX (by kernel_rfl) hsz hcs dR<|aU [(1000000,18),(1000001,601),(1000002,500),(1000003,605)] (w1 18 601 605 (o8 (l.length:Nat)::encIs (l.take (i+1)))++[(500,none)]) (q) O O (by exact (cQ ⟨_,O,O⟩ (cQ ⟨_,O,O⟩ (cQ ⟨_,O,(bX _ _ _ _)⟩ trivial)))) (by exact (bT (bT O (bT O O)) (bT (bT O O) (bT (bT O bV) O)))) O O O O (by exact (.box O O (.box O O (.box O (bX _ _ _ _) (.dead O .nil))))) dR<|aB<|rgA ?_;refine rgN<|kad O O hinc<|kmv O<|aB ?_)
        exact ⟨_,enSt (some ⟨ρ.1,0,none⟩) (some ⟨blk,off,none⟩) l.length rcap cap (i+1) (o8 (l.length:Nat)::encIs (l.take (i+1))) Y,by omega,Le.ofR [(500,605)] (by exact ⟨rfl,rfl,rfl,rfl,rfl,trivial⟩) (by repeat' (first|exact trivial|refine cQ ⟨_,rfl,?_⟩ ?_|refine cQ ⟨_,rfl⟩ ?_|rfl|exact bX _ _ _ _|exact bY _ _ _ _|exact bZ rfl)) (by exact rfl) (by exact rfl) (by repeat' (first|refine bT ?_ ?_|rfl|exact bV|exact bU|exact bW rfl)) (by exact rfl) (by exact rfl),i+1,by omega,rfl,(fun y hy=>by
          rw [List.take_add_one,hx] at hy
          rcases List.mem_append.1 hy with hy|hy
          · exact hpl y hy
          · simp only [Option.toList_some,List.mem_singleton] at hy;rw [hy];exact hp),rfl⟩
    · have e:i=l.length:=by omega
      subst e
      rw [dF] at hpl
      have he:encErr l=0:=by
        unfold encErr
        rw [if_pos h,if_pos (List.all_eq_true.2 hpl)]
      rw [show encTX l=o8 (l.length:Nat)::encIs l by unfold encTX;rw [if_pos he];rfl,he,dF]
      have q:=String_1 Y (o8 (l.length:Nat)::encIs l)
      (refine aA<|rgN<|klt O O (cO (by omega))<|aB<|aA<|aF O ?_;refine aJ<|aA<|rgN<|kmv O<|aU [(1000000,18),(1000001,601),(1000002,500)] (w1 18 601 500 (o8 (l.length:Nat)::encIs l)) (q) O O (by exact (cQ ⟨_,O,O⟩ (cQ ⟨_,O,O⟩ (cQ ⟨_,O,(bX _ _ _ _)⟩ trivial)))) (by exact (bT (bT O (bT O O)) (bT (bT O O) (bT (bT O bV) O)))) O O O O (by exact (.box O O (.box O O (.box O (bX _ _ _ _) .nil)))) dR<|kas O<|kas O<|aB<|aI ?_)
      exact ⟨[_,_],⟨O,O,trivial⟩,O⟩
  · rw [(rs_no h).1,(rs_no h).2] at hR
    have he:encErr l=chkX l:=if_neg h
    rw [show encTX l=[] by unfold encTX;rw [he,if_neg h],he]
    (refine aA<|rgN<|kas O<|kas O<|aB<|aA<|rgN<|kmv O<|aU [] [] (hR) O O (by exact trivial) O O O O O (by exact .nil) dR<|kmv O<|kex O O<|kex O O<|kas O<|kas O ?_;refine aB<|aA<|aA<|rgN<|kmv O<|kne O O (r:=true) (cT h)<|aB<|aE O ?_;refine aA<|rgN<|kmv O<|kas O<|kas O<|aB<|aI ?_)
    exact ⟨[_,_],⟨O,O,trivial⟩,O⟩
end Go.Proofs.YtamplgnbbanamaaGreatDoor
end
section
namespace Go.Proofs.YtamplgnbbanamaaGreatDoor
open Go Go.Lg Go.Lg.Fml Go.Lg.Fld Go.Lg.Arith
set_option maxRecDepth 100000
def eS:List UInt8×Bool→UInt8×List UInt8×Bool
  | (c::t,false)=>(c,t,false)
  | (l,_)=>(0,l,true)
def eW:List UInt8×Bool→Nat×List UInt8×Bool
  | (l,b)=>if b=false∧8≤l.length then (le (l.take 8),l.drop 8,false) else (0,l,true)
def eN (x:List UInt8×Bool):(Nm×Bool)×List UInt8×Bool:=
  if 1<(eS x).1.toNat then (((false,0),false),(eS x).2)
  else (((decide ((eS x).1.toNat=1),(((eW (eS x).2).1+18446744073709551616*(eW (eW (eS x).2).2).1:Nat):Int)),true),(eW (eW (eS x).2).2).2)
def eI (x:List UInt8×Bool):(Ins×Bool)×List UInt8×Bool:=
  if (eS x).1.toNat=1 then ((⟨1,0,0,(eN (eS x).2).1.1⟩,(eN (eS x).2).1.2),(eN (eS x).2).2)
  else if (eS x).1.toNat=2 then ((⟨2,((eS (eS x).2).1.toNat:Nat),((eS (eS (eS x).2).2).1.toNat:Nat),(false,0)⟩,true),(eS (eS (eS x).2).2).2)
  else if (eS x).1.toNat=3 then ((⟨3,((eS (eS x).2).1.toNat:Nat),0,(false,0)⟩,true),(eS (eS x).2).2)
  else ((⟨((eS x).1.toNat:Nat),0,0,(false,0)⟩,true),(eS x).2)
def eIs (x:List UInt8×Bool):Nat→Option (List Ins×List UInt8×Bool)
  | 0=>some ([],x)
  | n+1=>match eIs x n with
    | none=>none
    | some (q,y)=>if (eI y).1.2=true then some (q++[(eI y).1.1],(eI y).2) else none
def Lss (x y:List UInt8×Bool):Prop:=y.1.length≤x.1.length∧(x.2=true→y.2=true)
theorem Lss.trans {x y z:List UInt8×Bool} (h:Lss x y) (h':Lss y z):Lss x z:=⟨Nat.le_trans h'.1 h.1,fun e=>h'.2 (h.2 e)⟩
theorem eS_less (x:List UInt8×Bool):Lss x (eS x).2:=by
  obtain ⟨l,b⟩:=x
  cases b<;>cases l<;>simp [eS,Lss]
theorem eW_less (x:List UInt8×Bool):Lss x (eW x).2:=by
  obtain ⟨l,b⟩:=x
  unfold eW
  simp only
  by_cases h:b=false∧8≤l.length
  · rw [if_pos h];exact ⟨by simp only [dA];omega,fun e=>(by rw [h.1] at e;cases e)⟩
  · rw [if_neg h];exact ⟨dN _,fun _=>rfl⟩
theorem eW_lt (x:List UInt8×Bool):(eW x).1<18446744073709551616:=by
  obtain ⟨l,b⟩:=x
  unfold eW
  simp only
  split
  · have:=le_lt (l.take 8)
    have hp:(256:Nat)^8=18446744073709551616:=by decide
    have h8:(l.take 8).length=8:=by rw [cZ];omega
    rw [h8] at this
    simp only
    omega
  · show 0<18446744073709551616
    omega
theorem eN_less (x:List UInt8×Bool):Lss x (eN x).2:=by
  unfold eN
  split
  · exact eS_less x
  · exact ((eS_less x).trans (eW_less _)).trans (eW_less _)
theorem eN_in2 (x:List UInt8×Bool):In2 (eN x).1.1.2:=by
  unfold eN In2
  split
  · show 0≤(0:Int)∧(0:Int)<340282366920938463463374607431768211456
    omega
  · have:=eW_lt (eS x).2
    have:=eW_lt (eW (eS x).2).2
    simp only
    omega
theorem eI_less (x:List UInt8×Bool):Lss x (eI x).2:=by
  unfold eI
  split
  · exact (eS_less x).trans (eN_less _)
  · split
    · exact ((eS_less x).trans (eS_less _)).trans (eS_less _)
    · split
      · exact (eS_less x).trans (eS_less _)
      · exact eS_less x
theorem eI_small (x:List UInt8×Bool):smallI (eI x).1.1:=by
  have h1:=(eS x).1.toNat_lt
  have h2:=(eS (eS x).2).1.toNat_lt
  have h3:=(eS (eS (eS x).2).2).1.toNat_lt
  have h4:=eN_in2 (eS x).2
  have h5:In2 (0:Int):=⟨by decide,by decide⟩
  unfold eI smallI
  split
  · exact ⟨by simp only;omega,by simp only;omega,by simp only;omega,h4⟩
  · split
    · exact ⟨by simp only;omega,by simp only;omega,by simp only;omega,h5⟩
    · split
      · exact ⟨by simp only;omega,by simp only;omega,by simp only;omega,h5⟩
      · exact ⟨by simp only;omega,by simp only;omega,by simp only;omega,h5⟩
theorem eIs_len {x:List UInt8×Bool}:∀ {n:Nat} {q:List Ins} {y:List UInt8×Bool},eIs x n=some (q,y)→q.length=n∧Lss x y∧∀ z∈q,smallI z
  | 0,q,y,h=>by
    simp only [eIs,Option.some.injEq,Prod.mk.injEq] at h
    obtain ⟨rfl,rfl⟩:=h
    exact ⟨rfl,⟨dN _,id⟩,fun z hz=>absurd hz (by simp)⟩
  | n+1,q,y,h=>by
    simp only [eIs] at h
    cases hp:eIs x n with
    | none=>rw [hp] at h;cases h
    | some p =>
      obtain ⟨q0,y0⟩:=p
      rw [hp] at h
      simp only at h
      split at h
      · simp only [Option.some.injEq,Prod.mk.injEq] at h
        obtain ⟨rfl,rfl⟩:=h
        obtain ⟨h1,h2,h3⟩:=eIs_len hp
        refine ⟨by rw [cV,h1];rfl,h2.trans (eI_less y0),fun z hz => ?_⟩
        rcases List.mem_append.1 hz with hz|hz
        · exact h3 z hz
        · rw [List.mem_singleton] at hz;subst hz;exact eI_small y0
      · cases h
theorem eIs_none {x:List UInt8×Bool} {i:Nat} (h:eIs x i=none):∀ k,eIs x (i+k)=none
  | 0=>h
  | k+1=>by rw [← Nat.add_assoc];simp only [eIs];rw [eIs_none h k]
theorem eIs_front (x:List UInt8×Bool):∀ n,eIs x (n+1)=if (eI x).1.2=true then (eIs (eI x).2 n).map (fun p=>((eI x).1.1::p.1,p.2)) else none
  | 0=>by simp only [eIs];split<;>rfl
  | n+1=>by
    show (match eIs x (n+1) with|none=>none|some (q,y)=>if (eI y).1.2=true then some (q++[(eI y).1.1],(eI y).2) else none)=_
    rw [eIs_front x n]
    by_cases c:(eI x).1.2=true
    · rw [if_pos c,if_pos c]
      simp only [eIs]
      cases eIs (eI x).2 n with
      | none=>rfl
      | some p =>
        obtain ⟨q,y⟩:=p
        simp only [Option.map_some]
        by_cases d:(eI y).1.2=true
        · rw [if_pos d,if_pos d];rfl
        · rw [if_neg d,if_neg d];rfl
    · rw [if_neg c,if_neg c]
theorem eW_get (r:List UInt8):(8≤r.length→eW (r,false)=(le (r.take 8),r.drop 8,false))∧(¬ 8≤r.length→(eW (r,false)).2.2=true):=⟨fun h=>if_pos ⟨rfl,h⟩,fun h=>by unfold eW;simp only;rw [if_neg (fun c=>h c.2)]⟩
theorem eI_get (l:List UInt8):(∃ x r,getI l=some (x,r)∧eI (l,false)=((x,true),r,false))∨(getI l=none∧((eI (l,false)).1.2=false∨(eI (l,false)).2.2=true)):=by
  cases l with
  | nil=>exact .inr ⟨rfl,.inr rfl⟩
  | cons o r =>
    unfold getI eI
    rw [show eS (o::r,false)=(o,r,false) from rfl]
    simp only
    by_cases e1:o.toNat=1
    · rw [if_pos e1,if_pos e1]
      cases r with
      | nil=>exact .inr ⟨rfl,.inr (by unfold eN;rw [show eS ([],false)=(0,[],true) from rfl];rfl)⟩
      | cons s r =>
        unfold eN
        rw [show eS (s::r,false)=(s,r,false) from rfl]
        simp only
        by_cases hs:1<s.toNat
        · rw [if_pos hs,if_neg (by omega)]
          exact .inr ⟨O,.inl O⟩
        · rw [if_neg hs]
          by_cases h16:16≤r.length
          · rw [if_pos ⟨by omega,h16⟩]
            rw [(eW_get r).1 (by omega)]
            simp only
            rw [(eW_get (r.drop 8)).1 (by rw [dA];omega)]
            refine .inl ⟨_,_,O,?_⟩
            rw [List.drop_drop]
          · rw [if_neg (fun h=>h16 h.2)]
            refine .inr ⟨O,.inr ?_⟩
            simp only
            by_cases h8:8≤r.length
            · rw [(eW_get r).1 h8]
              exact (eW_get (r.drop 8)).2 (by rw [dA];omega)
            · exact (eW_less _).2 ((eW_get r).2 h8)
    · rw [if_neg e1,if_neg e1]
      by_cases e2:o.toNat=2
      · rw [if_pos e2,if_pos e2]
        match r with
        | []=>exact .inr ⟨rfl,.inr rfl⟩
        | [a]=>exact .inr ⟨rfl,.inr rfl⟩
        | a::b::r=>exact .inl ⟨_,_,rfl,rfl⟩
      · rw [if_neg e2,if_neg e2]
        by_cases e3:o.toNat=3
        · rw [if_pos e3,if_pos e3]
          match r with
          | []=>exact .inr ⟨rfl,.inr rfl⟩
          | a::r=>exact .inl ⟨_,_,rfl,rfl⟩
        · rw [if_neg e3,if_neg e3]
          exact .inl ⟨_,_,O,O⟩
theorem eIs_bad {x:List UInt8×Bool} (hb:x.2=true) {n:Nat} {q:List Ins} {y:List UInt8×Bool} (h:eIs x n=some (q,y)):y.2=true:=(eIs_len h).2.1.2 hb
theorem eIs_get:∀ (n:Nat) (l:List UInt8),(∃ q r,getIs n l=some (q,r)∧eIs (l,false) n=some (q,r,false))∨(getIs n l=none∧(eIs (l,false) n=none∨∃ q y,eIs (l,false) n=some (q,y)∧y.2=true))
  | 0,l=>.inl ⟨[],l,rfl,rfl⟩
  | n+1,l=>by
    rw [eIs_front]
    simp only [getIs]
    rcases eI_get l with ⟨x,r,h1,h2⟩|⟨h1,h2⟩
    · rw [h1,h2,if_pos rfl]
      simp only
      rcases eIs_get n r with ⟨q,r2,h3,h4⟩|⟨h3,h4⟩
      · rw [h3,h4]
        exact .inl ⟨_,_,O,O⟩
      · rw [h3]
        rcases h4 with h4|⟨q,y,h4,h5⟩
        · rw [h4];exact .inr ⟨rfl,.inl rfl⟩
        · rw [h4];exact .inr ⟨rfl,.inr ⟨_,_,rfl,h5⟩⟩
    · rw [h1]
      refine .inr ⟨O,?_⟩
      rcases h2 with h2|h2
      · rw [if_neg (by rw [h2];decide)];exact .inl rfl
      · by_cases c:(eI (l,false)).1.2=true
        · rw [if_pos c]
          cases hp:eIs (eI (l,false)).2 n with
          | none=>exact .inl rfl
          | some p =>
            obtain ⟨q,y⟩:=p
            exact .inr ⟨_,_,O,eIs_bad h2 hp⟩
        · rw [if_neg c];exact .inl rfl
theorem decX_e (s:List UInt8):decX s=match eIs (eS (s,false)).2 (eS (s,false)).1.toNat with
    | none=>none
    | some (q,y)=>if (!y.2&&(y.1==[]))=true∧chkX q=0 then some q else none:=by
  cases s with
  | nil=>rfl
  | cons n r =>
    rw [show eS (n::r,false)=(n,r,false) from rfl]
    simp only [decX]
    rcases eIs_get n.toNat r with ⟨q,r2,h3,h4⟩|⟨h3,h4⟩
    · rw [h3,h4]
      cases r2 with
      | nil =>
        simp only
        by_cases c:chkX q=0
        · rw [if_pos c,if_pos ⟨rfl,c⟩]
        · rw [if_neg c,if_neg (fun h=>c h.2)]
      | cons a r2 =>
        simp only
        rw [if_neg (fun h=>by simp at h)]
    · rw [h3]
      rcases h4 with h4|⟨q,y,h4,h5⟩
      · rw [h4]
      · rw [h4]
        simp only
        rw [if_neg (fun h=>by rw [h5] at h;simp at h)]
variable (X:Nat→Option Obj)
theorem eNum1 (l:List UInt8) (b:Bool) (hl:l.length<4611686018427387904):MSpec Tryz.prog X 34 [Lp 1000000,Ln .i64 1] (rd 1000000 l b) (Ln .u64 ((eS (l,b)).1.toNat:Nat)) (rd 1000000 (eS (l,b)).2.1 (eS (l,b)).2.2):=by
  cases b with
  | true=>have h:=Num_no X l true 1 rfl;cases l<;>exact h
  | false=>cases l with
    | nil=>exact Num_no X [] false 1 rfl
    | cons c t =>
      have h1:=Num_ok X (c::t) 1 rfl (by simp) hl
      rw [show ((c::t).take 1)=[c] from rfl,show ((c::t).drop 1)=t from rfl,show le [c]=c.toNat by simp [le]] at h1
      exact h1
theorem eNum8 (l:List UInt8) (b:Bool) (hl:l.length<4611686018427387904):MSpec Tryz.prog X 34 [Lp 1000000,Ln .i64 8] (rd 1000000 l b) (Ln .u64 ((eW (l,b)).1:Nat)) (rd 1000000 (eW (l,b)).2.1 (eW (l,b)).2.2):=by
  by_cases h:b=false∧8≤l.length
  · rw [show eW (l,b)=(le (l.take 8),l.drop 8,false) from if_pos h]
    obtain ⟨rfl,h4⟩:=h
    exact Num_ok X l 8 O h4 hl
  · rw [show eW (l,b)=(0,l,true) from if_neg h]
    refine Num_no X l b 8 ?_
    unfold rawOk
    cases b with
    | true=>rfl
    | false=>rw [cO (by simp only [true_and] at h;omega)];rfl
theorem eTake (l:List UInt8) (b:Bool) (hl:l.length<4611686018427387904):MSpec Tryz.prog X 79 [Lp 1000000] (rd 1000000 l b) (Ln .i64 ((eS (l,b)).1.toNat:Nat)) (rd 1000000 (eS (l,b)).2.1 (eS (l,b)).2.2):=by
  have h:=eNum1 X l b hl
  have hk:=(eS (l,b)).1.toNat_lt
  generalize (eS (l,b)).1.toNat=k at *
  generalize (eS (l,b)).2.1=l2 at *
  generalize (eS (l,b)).2.2=b2 at *
  refine cG Tryz.func79 rfl (by kernel_rfl) rfl rfl rfl rfl rfl ?_
  intro C
  have hw:IntKind.i64.wrap ((k:Nat):Int)=((k:Nat):Int):=cH (by omega)
  (refine aA<|rgN<|kas O<|aB<|aA<|rgN<|kmv O<|aU [] (rd 1000000 l2 b2) (h) O O (by exact (cQ ⟨_,O,O⟩ trivial)) (by exact (bT (bT O (bT O O)) O)) O O O O (by exact (.box O O .nil)) dR<|kcv O hw ?_;refine kas O<|aB<|aI ?_)
  exact ⟨[],⟨[_],⟨O,trivial⟩,O⟩,⟨⟨_,O,O⟩,trivial⟩,O,O⟩
set_option maxHeartbeats 1600000 in
theorem eTakeNum (l:List UInt8) (b:Bool) (hl:l.length<4611686018427387904):MSpec Tryz.prog X 94 [Lp 1000000] (rd 1000000 l b) (.tup [SI (eN (l,b)).1.1.1 (eN (l,b)).1.1.2,Sb (eN (l,b)).1.2]) (rd 1000000 (eN (l,b)).2.1 (eN (l,b)).2.2):=by
  have h1:=eTake X l b hl
  have g1:=(eS_less (l,b)).1
  unfold eN
  rcases hy1:eS (l,b) with ⟨c,l1,b1⟩
  rw [hy1] at h1 g1
  simp only at h1 g1 ⊢
  have hc:=c.toNat_lt
  by_cases c1:1<c.toNat
  · rw [if_pos c1]
    refine cG Tryz.func94 rfl (by kernel_rfl) rfl rfl rfl rfl rfl ?_
    intro C
    (refine aA<|rgN<|aP O dR ?_;refine kas O<|aB<|aA<|rgN<|kmv O<|aU [] (rd 1000000 l1 b1) (h1) O O (by exact (cQ ⟨_,O,O⟩ trivial)) (by exact (bT (bT O (bT O O)) O)) O O O O (by exact (.box O O .nil)) dR<|kas O<|aB<|aA<|aA<|rgN<|kmv O<|aS O O (r:=true) (cP (by omega)) dR<|aB ?_;refine aE O ?_;refine aA<|rgN<|aT O O (by exact O) (by exact nl3 O O O O) dR ?_;refine aM O O O O O O dR ?_;refine kas O<|aB<|aI ?_)
    exact ⟨[],⟨[_,_],⟨⟨_,_,O,O,O,.inl ⟨AggT.h,O⟩⟩,O,trivial⟩,O⟩,⟨⟨_,O,O⟩,trivial⟩,O,O⟩
  · rw [if_neg c1]
    have h2:=eNum8 X l1 b1 (by omega)
    have g2:=(eW_less (l1,b1)).1
    have k2:=eW_lt (l1,b1)
    rcases hy2:eW (l1,b1) with ⟨lo,l2,b2⟩
    rw [hy2] at h2 g2 k2
    simp only at h2 g2 k2 ⊢
    have h3:=eNum8 X l2 b2 (by omega)
    have k3:=eW_lt (l2,b2)
    rcases hy3:eW (l2,b2) with ⟨hi,l3,b3⟩
    rw [hy3] at h3 k3
    simp only at h3 k3 ⊢
    have e1:((lo+18446744073709551616*hi:Nat):Int)/18446744073709551616=((hi:Nat):Int):=by omega
    have e2:((lo+18446744073709551616*hi:Nat):Int)%18446744073709551616=((lo:Nat):Int):=by omega
    unfold SI
    rw [e1,e2]
    have hsg:(((c.toNat:Nat):Int)==1)=decide (c.toNat=1):=by
      by_cases h:c.toNat=1
      · rw [h];rfl
      · rw [cO h];exact cR (by omega)
    generalize decide (c.toNat=1)=sg at *
    refine cG Tryz.func94 rfl (by kernel_rfl) rfl rfl rfl rfl rfl ?_
    intro C
    (refine aA<|rgN<|aP O dR ?_;refine kas O<|aB<|aA<|rgN<|kmv O<|aU [] (rd 1000000 l1 b1) (h1) O O (by exact (cQ ⟨_,O,O⟩ trivial)) (by exact (bT (bT O (bT O O)) O)) O O O O (by exact (.box O O .nil)) dR<|kas O<|aB<|aA<|aA<|rgN<|kmv O<|aS O O (r:=false) (cO (by omega)) dR<|aB ?_;refine aF O ?_;refine aH ?_;refine aA<|rgN<|kmv O<|keq O O hsg<|aT O O (by exact O) (by exact nl3 O O O O) dR ?_;refine aP O dR ?_;refine aM O O O O O O dR ?_;refine aB<|aA<|rgN<|kmv O<|aU [] (rd 1000000 l2 b2) (h2) O O (by exact (cQ ⟨_,O,O⟩ trivial)) (by exact (bT (bT O (bT O O)) O)) O O O O (by exact (.box O O .nil)) dR<|kfa O O ?_;refine bG O O O O O (nl3 O O O O) dR<|aB<|aA<|rgN<|kmv O<|aU [] (rd 1000000 l3 b3) (h3) O O (by exact (cQ ⟨_,O,O⟩ trivial)) (by exact (bT (bT O (bT O O)) O)) O O O O (by exact (.box O O .nil)) dR<|kfa O O ?_;refine bG O O O O O (nl3 O O O O) dR<|aB<|aA<|rgN<|aK O O O dR ?_;refine aM O O O O O O dR ?_;refine kas O<|aB<|aI ?_)
    exact ⟨[],⟨[_,_],⟨⟨_,_,O,O,O,.inl ⟨AggT.h,O⟩⟩,O,trivial⟩,O⟩,⟨⟨_,O,O⟩,trivial⟩,O,O⟩
theorem rowL_no {op:Int} (h1:op≠1) (h2:op≠2) (h3:op≠3):rowL op=[.string ⟨(wordS op).toArray⟩,.int .i64 (takes op:Nat),.bool false,.bool false,.bool false]:=by
  unfold rowL
  rw [cR h1,cR h2,cR h3]
  rfl
set_option maxHeartbeats 3200000 in
theorem eTakeIns (l:List UInt8) (b:Bool) (hl:l.length<4611686018427387904):MSpec Tryz.prog X 80 [Lp 1000000] (rd 1000000 l b) (.tup [.agg ((insV (eI (l,b)).1.1).map .val),Sb (eI (l,b)).1.2]) (rd 1000000 (eI (l,b)).2.1 (eI (l,b)).2.2):=by
  have h1:=eTake X l b hl
  have g1:=(eS_less (l,b)).1
  unfold eI
  rcases hy1:eS (l,b) with ⟨c,l1,b1⟩
  rw [hy1] at h1 g1
  simp only at h1 g1 ⊢
  have hc:=c.toNat_lt
  by_cases c1:c.toNat=1
  · rw [if_pos c1]
    rw [c1] at h1
    have h1:MSpec Tryz.prog X 79 [Lp 1000000] (rd 1000000 l b) (Ln .i64 1) (rd 1000000 l1 b1):=h1
    have h2:=eTakeNum X l1 b1 (by omega)
    rcases hy2:eN (l1,b1) with ⟨⟨⟨kb,kN⟩,is⟩,l2,b2⟩
    rw [hy2] at h2
    simp only at h2 ⊢
    refine cG Tryz.func80 rfl (by kernel_rfl) rfl rfl rfl rfl rfl ?_
    intro C
    (refine aA<|rgN<|aP O dR ?_;refine kas O<|aB<|aA<|rgN<|kmv O<|aU [] (rd 1000000 l1 b1) (h1) O O (by exact (cQ ⟨_,O,O⟩ trivial)) (by exact (bT (bT O (bT O O)) O)) O O O O (by exact (.box O O .nil)) dR<|aT O O (by exact O) (by exact nl6 O O O O O O O) dR ?_;refine aP O dR ?_;refine aM O O O O O O dR ?_;refine kas O<|aB<|aA<|rgN<|kfa O O ?_;refine kl1 O O O<|kca O O (rowOf_1 X)<|K.fieldAgg (m:=3) (l':=[.val (.bool false),.val (.bool false),.val (.bool true)]) O Tryz.underlying137 O (by kernel_rfl) O dR ?_;refine aP O dR ?_;refine aM O O O O O O dR ?_;refine aB<|aA<|aA<|rgN<|kfa O O ?_;refine kl1 O O O<|aB<|aF O ?_;refine aH ?_;refine aA<|aA<|rgN<|kfa O O ?_;refine kl1 O O O<|aB<|aF O ?_;refine aH ?_;refine aA<|aA<|rgN<|kfa O O ?_;refine kl1 O O O<|aB<|aE O ?_;refine rgN<|kmv O<|aU [] (rd 1000000 l2 b2) (h2) O O (by exact (cQ ⟨_,O,O⟩ trivial)) (by exact (bT (bT O (bT O O)) O)) O O O O (by exact (.box O O .nil)) dR<|kmv O<|kex O O<|kex O O<|kfa O O ?_;refine K.store O O O O (by kernel_rfl) (dN 6) O dR<|kas O<|aB<|aA<|rgN<|aK O O O dR ?_;refine kmv O<|aM O O O O O O dR ?_;refine kas O<|aB<|aI ?_)
    exact ⟨[],⟨[_,_],⟨⟨_,_,O,O,O,.inl ⟨AggT.h,O⟩⟩,O,trivial⟩,O⟩,⟨⟨_,O,O⟩,trivial⟩,O,O⟩
  rw [if_neg c1]
  by_cases c2:c.toNat=2
  · rw [if_pos c2]
    rw [c2] at h1
    have h1:MSpec Tryz.prog X 79 [Lp 1000000] (rd 1000000 l b) (Ln .i64 2) (rd 1000000 l1 b1):=h1
    have h2:=eTake X l1 b1 (by omega)
    have g2:=(eS_less (l1,b1)).1
    rcases hy2:eS (l1,b1) with ⟨ca,l2,b2⟩
    rw [hy2] at h2 g2
    simp only at h2 g2 ⊢
    have h3:=eTake X l2 b2 (by omega)
    rcases hy3:eS (l2,b2) with ⟨cb,l3,b3⟩
    rw [hy3] at h3
    simp only at h3 ⊢
    refine cG Tryz.func80 rfl (by kernel_rfl) rfl rfl rfl rfl rfl ?_
    intro C
    (refine aA<|rgN<|aP O dR ?_;refine kas O<|aB<|aA<|rgN<|kmv O<|aU [] (rd 1000000 l1 b1) (h1) O O (by exact (cQ ⟨_,O,O⟩ trivial)) (by exact (bT (bT O (bT O O)) O)) O O O O (by exact (.box O O .nil)) dR<|aT O O (by exact O) (by exact nl6 O O O O O O O) dR ?_;refine aP O dR ?_;refine aM O O O O O O dR ?_;refine kas O<|aB<|aA<|rgN<|kfa O O ?_;refine kl1 O O O<|kca O O (rowOf_2 X)<|K.fieldAgg (m:=3) (l':=[.val (.bool true),.val (.bool true),.val (.bool false)]) O Tryz.underlying137 O (by kernel_rfl) O dR ?_;refine aP O dR ?_;refine aM O O O O O O dR ?_;refine aB<|aA<|aA<|rgN<|kfa O O ?_;refine kl1 O O O<|aB<|aE O ?_;refine rgN<|kmv O<|aU [] (rd 1000000 l2 b2) (h2) O O (by exact (cQ ⟨_,O,O⟩ trivial)) (by exact (bT (bT O (bT O O)) O)) O O O O (by exact (.box O O .nil)) dR<|kfa O O ?_;refine bG O O O O O (nl6 O O O O O O O) dR<|aB<|aA<|aA<|rgN<|kfa O O ?_;refine kl1 O O O<|aB<|aE O ?_;refine rgN<|kmv O<|aU [] (rd 1000000 l3 b3) (h3) O O (by exact (cQ ⟨_,O,O⟩ trivial)) (by exact (bT (bT O (bT O O)) O)) O O O O (by exact (.box O O .nil)) dR<|kfa O O ?_;refine bG O O O O O (nl6 O O O O O O O) dR<|aB<|aA<|aA<|rgN<|kfa O O ?_;refine kl1 O O O<|aB<|aF O ?_;refine aH ?_;refine aA<|rgN<|aK O O O dR ?_;refine kmv O<|aM O O O O O O dR ?_;refine kas O<|aB<|aI ?_)
    exact ⟨[],⟨[_,_],⟨⟨_,_,O,O,O,.inl ⟨AggT.h,O⟩⟩,O,trivial⟩,O⟩,⟨⟨_,O,O⟩,trivial⟩,O,O⟩
  rw [if_neg c2]
  by_cases c3:c.toNat=3
  · rw [if_pos c3]
    rw [c3] at h1
    have h1:MSpec Tryz.prog X 79 [Lp 1000000] (rd 1000000 l b) (Ln .i64 3) (rd 1000000 l1 b1):=h1
    have h2:=eTake X l1 b1 (by omega)
    rcases hy2:eS (l1,b1) with ⟨ca,l2,b2⟩
    rw [hy2] at h2
    simp only at h2 ⊢
    refine cG Tryz.func80 rfl (by kernel_rfl) rfl rfl rfl rfl rfl ?_
    intro C
    (refine aA<|rgN<|aP O dR ?_;refine kas O<|aB<|aA<|rgN<|kmv O<|aU [] (rd 1000000 l1 b1) (h1) O O (by exact (cQ ⟨_,O,O⟩ trivial)) (by exact (bT (bT O (bT O O)) O)) O O O O (by exact (.box O O .nil)) dR<|aT O O (by exact O) (by exact nl6 O O O O O O O) dR ?_;refine aP O dR ?_;refine aM O O O O O O dR ?_;refine kas O<|aB<|aA<|rgN<|kfa O O ?_;refine kl1 O O O<|kca O O (rowOf_3 X)<|K.fieldAgg (m:=3) (l':=[.val (.bool true),.val (.bool false),.val (.bool false)]) O Tryz.underlying137 O (by kernel_rfl) O dR ?_;refine aP O dR ?_;refine aM O O O O O O dR ?_;refine aB<|aA<|aA<|rgN<|kfa O O ?_;refine kl1 O O O<|aB<|aE O ?_;refine rgN<|kmv O<|aU [] (rd 1000000 l2 b2) (h2) O O (by exact (cQ ⟨_,O,O⟩ trivial)) (by exact (bT (bT O (bT O O)) O)) O O O O (by exact (.box O O .nil)) dR<|kfa O O ?_;refine bG O O O O O (nl6 O O O O O O O) dR<|aB<|aA<|aA<|rgN<|kfa O O ?_;refine kl1 O O O<|aB<|aF O ?_;refine aH ?_;refine aA<|aA<|rgN<|kfa O O ?_;refine kl1 O O O<|aB<|aF O ?_;refine aH ?_;refine aA<|rgN<|aK O O O dR ?_;refine kmv O<|aM O O O O O O dR ?_;refine kas O<|aB<|aI ?_)
    exact ⟨[],⟨[_,_],⟨⟨_,_,O,O,O,.inl ⟨AggT.h,O⟩⟩,O,trivial⟩,O⟩,⟨⟨_,O,O⟩,trivial⟩,O,O⟩
  rw [if_neg c3]
  generalize hop:((c.toNat:Nat):Int)=op at *
  have hno:=rowL_no (op:=op) (by omega) (by omega) (by omega)
  by_cases c5:5≤op∧op≤17
  · have hR:=rowOf_fn X op c5
    unfold LRow at hR
    rw [hno] at hR
    refine cG Tryz.func80 rfl (by kernel_rfl) rfl rfl rfl rfl rfl ?_
    intro C
    (refine aA<|rgN<|aP O dR ?_;refine kas O<|aB<|aA<|rgN<|kmv O<|aU [] (rd 1000000 l1 b1) (h1) O O (by exact (cQ ⟨_,O,O⟩ trivial)) (by exact (bT (bT O (bT O O)) O)) O O O O (by exact (.box O O .nil)) dR<|aT O O (by exact O) (by exact nl6 O O O O O O O) dR ?_;refine aP O dR ?_;refine aM O O O O O O dR ?_;refine kas O<|aB<|aA<|rgN<|kfa O O ?_;refine kl1 O O O<|bE [(1000001,600)] (.sv (.agg [.val (.string ⟨(wordS op).toArray⟩),.val (.int .i64 (takes op:Nat)),.val (.bool false),.val (.bool false),.val (.bool false),ptrF (cloF op) 600])) [dB 600 op] (hR) O O (by exact trivial) O O O O O (by exact (.box O O .nil)) dR<|K.fieldAgg (m:=3) (l':=[.val (.bool false),.val (.bool false),.val (.bool false)]) O Tryz.underlying137 O (by kernel_rfl) O dR ?_;refine aP O dR ?_;refine aM O O O O O O dR ?_;refine aB<|aA<|aA<|rgN<|kfa O O ?_;refine kl1 O O O<|aB<|aF O ?_;refine aH ?_;refine aA<|aA<|rgN<|kfa O O ?_;refine kl1 O O O<|aB<|aF O ?_;refine aH ?_;refine aA<|aA<|rgN<|kfa O O ?_;refine kl1 O O O<|aB<|aF O ?_;refine aH ?_;refine aA<|rgN<|aK O O O dR ?_;refine kmv O<|aM O O O O O O dR ?_;refine kas O<|aB<|aI ?_)
    exact ⟨[],⟨[_,_],⟨⟨_,_,O,O,O,.inl ⟨AggT.h,O⟩⟩,O,trivial⟩,O⟩,⟨⟨_,O,O⟩,trivial⟩,O,O⟩
  · have hR:=rowOf_leaf X op (by omega)
    generalize leafV op=v at *
    unfold LRow at hR
    rw [hno] at hR
    refine cG Tryz.func80 rfl (by kernel_rfl) rfl rfl rfl rfl rfl ?_
    intro C
    (refine aA<|rgN<|aP O dR ?_;refine kas O<|aB<|aA<|rgN<|kmv O<|aU [] (rd 1000000 l1 b1) (h1) O O (by exact (cQ ⟨_,O,O⟩ trivial)) (by exact (bT (bT O (bT O O)) O)) O O O O (by exact (.box O O .nil)) dR<|aT O O (by exact O) (by exact nl6 O O O O O O O) dR ?_;refine aP O dR ?_;refine aM O O O O O O dR ?_;refine kas O<|aB<|aA<|rgN<|kfa O O ?_;refine kl1 O O O<|kca O O hR<|K.fieldAgg (m:=3) (l':=[.val (.bool false),.val (.bool false),.val (.bool false)]) O Tryz.underlying137 O (by kernel_rfl) O dR ?_;refine aP O dR ?_;refine aM O O O O O O dR ?_;refine aB<|aA<|aA<|rgN<|kfa O O ?_;refine kl1 O O O<|aB<|aF O ?_;refine aH ?_;refine aA<|aA<|rgN<|kfa O O ?_;refine kl1 O O O<|aB<|aF O ?_;refine aH ?_;refine aA<|aA<|rgN<|kfa O O ?_;refine kl1 O O O<|aB<|aF O ?_;refine aH ?_;refine aA<|rgN<|aK O O O dR ?_;refine kmv O<|aM O O O O O O dR ?_;refine kas O<|aB<|aI ?_)
    exact ⟨[],⟨[_,_],⟨⟨_,_,O,O,O,.inl ⟨AggT.h,O⟩⟩,O,trivial⟩,O⟩,⟨⟨_,O,O⟩,trivial⟩,O,O⟩
def zeI (k:Nat):List Value:=(List.replicate k [Value.int .i64 0,.int .i64 0,.int .i64 0,.bool false,.int .u64 0,.int .u64 0]).flatten
theorem zeI_succ (k:Nat):zeI (k+1)=[Value.int .i64 0,.int .i64 0,.int .i64 0,.bool false,.int .u64 0,.int .u64 0]++zeI k:=by unfold zeI;rw [List.replicate_succ,List.flatten_cons]
theorem zeI_len (k:Nat):(zeI k).length=k*6:=by
  induction k with
  | zero=>rfl
  | succ k ih=>rw [zeI_succ,cV,ih];simp;omega
theorem inssV_snoc2 (q:List Ins) (x:Ins):inssV (q++[x])=inssV q++insV x:=by unfold inssV;rw [dH,List.flatten_append];simp
def gdR (s:List UInt8):LV:=match decX s with|some l=>.tup [.one (.slc 1000001 0 l.length 6),Sn .i64 0]|none=>.tup [Vnil,Sn .i64 4]
def gdBx (s:List UInt8):List (Nat×Option Box):=match decX s with|some l=>[(1000001,some ⟨66,(inssV l).map .val,true⟩)]|none=>[]
theorem gd_none {s:List UInt8} (h:decX s=none):gdR s = .tup [Vnil,Sn .i64 4]∧gdBx s=[]:=by unfold gdR gdBx;rw [h];exact ⟨rfl,rfl⟩
theorem gd_some {s:List UInt8} {l:List Ins} (h:decX s=some l):gdR s = .tup [.one (.slc 1000001 0 l.length 6),Sn .i64 0]∧gdBx s=[(1000001,some ⟨66,(inssV l).map .val,true⟩)]:=by unfold gdR gdBx;rw [h];exact ⟨rfl,rfl⟩
theorem gdBx_use (s:List UInt8):((gdBx s).all fun p=>match p.2 with|some b=>b.cells.all (CV.inUse (gdBx s))|none=>true)=true:=by
  cases h:decX s with
  | none=>rw [(gd_none h).2];rfl
  | some l=>rw [(gd_some h).2];simp only [List.all_cons,List.all_nil,vals_use,Bool.and_true]
theorem gdR_use (s:List UInt8):LV.inUse (gdBx s) (gdR s)=true:=by
  cases h:decX s with
  | none=>rw [(gd_none h).1,(gd_none h).2];rfl
  | some l=>rw [(gd_some h).1,(gd_some h).2];rfl
abbrev deSt (m i:Nat) (l:List UInt8) (b:Bool) (cells:List Value) (Y:Nat→Option Obj):St:=
  ⟨[(4,Lp 700),(5,.sv (.one (.slc 600 0 m 6))),(15,Ln .i64 (m:Nat)),(16,Ln .i64 (i:Nat))],rd 700 l b++[(600,some ⟨66,cells.map .val,false⟩)],Y⟩
set_option maxHeartbeats 6400000 in
theorem gDecodeM (s:List UInt8) (hs:s.length≤1099511627776):MSpec Tryz.prog X 59 [Ls s] [] (gdR s) (gdBx s):=by
  have hD:=decX_e s
  have h1:=eTake X s false (by omega)
  have g1:=(eS_less (s,false)).1
  rcases hy1:eS (s,false) with ⟨c,l1,b1⟩
  rw [hy1] at h1 g1 hD
  simp only at h1 g1 hD
  have hc:=c.toNat_lt
  generalize c.toNat=m at *
  refine cG Tryz.func59 rfl (by kernel_rfl) rfl (gdR_use s) (gdBx_use s) rfl rfl ?_
  intro C
  have hmk:slcBuild Tryz.prog 68 m=some (zeI m,6,66):=slcBuild_many (z := #[.int .i64 0,.int .i64 0,.int .i64 0,.bool false,.int .u64 0,.int .u64 0]) (by kernel_rfl) (by kernel_rfl) rfl (by omega)
  have hR:=Read_spec X s
  (refine aA<|rgN<|kas O<|kas O<|aB<|aA<|rgN<|kmv O<|bE [(1000001,700)] (Lp 700) (rd 700 s false) (hR) O O (by exact trivial) O O O O O (by exact (.box O O .nil)) dR<|kas O<|aB<|aA<|rgN<|kmv O ?_;refine aU [(1000000,700)] (rd 700 l1 b1) (h1) O O (by exact (cQ ⟨_,O,O⟩ trivial)) (by exact (bT (bT O (bT O O)) O)) O O O O (by exact (.box O O .nil)) dR<|K.makeSlc (m:=m) (bytes:=48) O O hmk (by kernel_rfl) (by omega) O O dR<|kas O<|aB<|aA<|aA<|rgN<|kmv O<|K.lenSlc O cC O dR ?_;refine kmv O<|aB<|aG ?_)
  refine cL (fun k σ=>∃ (i:Nat) (q:List Ins) (l:List UInt8) (b:Bool),i≤m∧k=m-i∧eIs (l1,b1) i=some (q,l,b)∧σ=deSt m i l b (inssV q++zeI (m-i)) X) m
    ⟨deSt m 0 l1 b1 (inssV []++zeI (m-0)) X,Le.ofR [(700,700),(600,13)] (by exact ⟨rfl,rfl,rfl,rfl,trivial⟩) (by repeat' (first|exact trivial|refine cQ ⟨_,rfl,?_⟩ ?_|refine cQ ⟨_,rfl⟩ ?_|rfl|exact bX _ _ _ _|exact bY _ _ _ _|exact bZ rfl)) (by exact rfl) (by exact rfl) (by repeat' (first|refine bT ?_ ?_|rfl|exact bV|exact bU|exact bW rfl)) (by exact rfl) (by exact rfl),0,[],l1,b1,Nat.zero_le _,rfl,rfl,rfl⟩ ?_
  rintro k σ ⟨i,q,l,b,hi,rfl,hq,rfl⟩
  obtain ⟨hqn,⟨hll,_⟩,hqs⟩:=eIs_len hq
  simp only at hll
  by_cases hlt:i<m
  · have hT:=eTakeIns X l b (by omega)
    have hnx:eIs (l1,b1) (i+1)=if (eI (l,b)).1.2=true then some (q++[(eI (l,b)).1.1],(eI (l,b)).2) else none:=by simp only [eIs,hq]
    rcases hy:eI (l,b) with ⟨⟨x,is⟩,l2,b2⟩
    rw [hy] at hT hnx
    simp only at hT hnx
    cases is with
    | false =>
      rw [if_neg (by decide)] at hnx
      have:=eIs_none hnx (m-(i+1))
      rw [show i+1+(m-(i+1))=m by omega] at this
      rw [this] at hD
      obtain ⟨q1,q2⟩:=gd_none hD
      rw [q1,q2]
      (refine aA<|rgN<|klt O O (cP (by omega))<|aB<|aA<|aE O ?_;refine aH ?_;refine aA<|aG<|aA<|rgN<|kmv O<|kas O<|aB<|aA<|rgN<|kmv O<|aU [(1000000,700)] (rd 700 l2 b2) (hT) O O (by exact (cQ ⟨_,O,O⟩ trivial)) (by exact (bT (bT O (bT O O)) O)) O O O O (by exact (.box O O .nil)) dR<|kmv O<|kex O O<|kex O O ?_;refine aP O dR ?_;refine aM O O O O O O dR ?_;refine kas O<|aB<|aA<|aA<|rgN<|kmv O<|aV O O dR<|aB<|aE O ?_;refine aA<|rgN<|kas O<|kas O<|aB<|aI ?_)
      exact ⟨[],⟨[_,_],⟨O,O,trivial⟩,O⟩,trivial,O,O⟩
    | true =>
      rw [if_pos rfl] at hnx
      have hix:0+Int.toNat (i:Int)*6=i*6:=by rw [dG];omega
      have hpl:(inssV q).length=i*6:=by have:=inssV_len q;rw [cW] at this;rw [this,hqn]
      have hroom:i*6+6≤((inssV q++zeI (m-i)).map CV.val).length:=by rw [cW,cV,hpl,zeI_len];omega
      have hspl:splice ((inssV q++zeI (m-i)).map CV.val) (i*6) ((insV x).map CV.val)=(inssV (q++[x])++zeI (m-(i+1))).map CV.val:=by
        rw [inssV_snoc2,show m-i=(m-(i+1))+1 by omega,zeI_succ]
        unfold splice
        simp only [dH,dM]
        have hml:((inssV q).map CV.val).length=i*6:=by rw [cW,hpl]
        generalize (inssV q).map CV.val=R at *
        rw [← hml,List.take_left,List.drop_length_add_append]
        simp [insV]
      have hinc:IntKind.i64.wrap (((i:Nat):Int)+1)=((i+1:Nat):Int):=by rw [cH (by omega)];omega
      (refine aA<|rgN<|klt O O (cP (by omega))<|aB<|aA<|aE O ?_;refine aH ?_;refine aA<|aG<|aA<|rgN<|kmv O<|kas O<|aB<|aA<|rgN<|kmv O<|aU [(1000000,700)] (rd 700 l2 b2) (hT) O O (by exact (cQ ⟨_,O,O⟩ trivial)) (by exact (bT (bT O (bT O O)) O)) O O O O (by exact (.box O O .nil)) dR<|kmv O<|kex O O<|kex O O ?_;refine aP O dR ?_;refine aM O O O O O O dR ?_;refine kas O<|aB<|aA<|aA<|rgN<|kmv O<|aV O O dR<|aB<|aF O ?_;refine aH ?_;refine rgN<|kmv O<|kmv O<|aK O O O dR ?_;refine K.indexSlc O O (by omega) hix dR ?_;refine K.store O O O O (by kernel_rfl) hroom hspl dR<|aB<|rgN<|kad O O hinc<|kmv O<|aB ?_)
      exact ⟨m-(i+1),deSt m (i+1) l2 b2 (inssV (q++[x])++zeI (m-(i+1))) X,by omega,Le.of (by exact ⟨O,O,O,O,trivial⟩) (by exact ⟨O,O,trivial⟩) (by exact O) (by exact O) (by repeat' (first|refine bT ?_ ?_|rfl|exact bV|exact bU|exact bW O)),i+1,q++[x],l2,b2,by omega,O,hnx,O⟩
  · have e:i=m:=by omega
    subst e
    rw [hq] at hD
    simp only at hD
    have hz:zeI (i-i)=[]:=by rw [Nat.sub_self];rfl
    rw [hz,dJ]
    rw [← hqn] at *
    clear hqn
    (refine aA<|rgN<|klt O O (cO (by omega))<|aB<|aA<|aF O ?_;refine aJ<|aA<|aA ?_)
    refine LWP.le (σ':=⟨[(5,.sv (.one (.slc 600 0 q.length 6))),(4,Lp 700)],(600,some ⟨66,(inssV q).map .val,false⟩)::rd 700 l b,X⟩) (Le.of (by exact ⟨O,O,trivial⟩) (by exact ⟨O,O,trivial⟩) (by exact O) (by exact O) (by repeat' (first|refine bT ?_ ?_|rfl|exact bV|exact bU|exact bW O))) ?_
    refine LWP.freeze O O O fun sb scap sarr sfr hn hFz hcp hfit hsp => ?_
    have hin:InsIn (withBlock X sb (.cells sarr 66 sfr)) (some ⟨sb,0,none⟩) q:=⟨rows_in (cN _ _ _) (fun r hr=>by obtain ⟨x,_,rfl⟩:=List.mem_map.1 hr;rfl) hsp,hqs⟩
    have hC:=gCheck' _ q (some ⟨sb,0,none⟩) scap hin (by omega)
    have hDn:=Done_spec (withBlock X sb (.cells sarr 66 sfr)) l b _ rfl
    by_cases hd:(!b&&(l==[]))=true
    · rw [hd] at hDn
      by_cases hk:chkX q=0
      · rw [if_pos ⟨hd,hk⟩] at hD
        obtain ⟨q1,q2⟩:=gd_some hD
        rw [q1,q2]
        rw [hk] at hC
        (refine rgN<|kmv O<|aU [(1000000,700)] (rd 700 l b) (hDn) O O (by exact (cQ ⟨_,O,O⟩ trivial)) (by exact (bT (bT O (bT O O)) O)) O O O O (by exact (.box O O .nil)) dR<|aV O O dR<|kmv O<|gmv O O O<|gca O O hC O O<|aX O O (r:=false) O (dS O O) ?_;refine kpf O O<|aB<|aF O ?_;refine aH ?_;refine aA ?_)
        refine LWP.le (σ':=⟨[(5,.sv (.one (.val (.slice (some ⟨sb,0,none⟩) q.length scap))))],[],withBlock X sb (.cells sarr 66 sfr)⟩) (Le.of (by exact ⟨O,trivial⟩) (by exact trivial) (by exact O) (by exact O) (by repeat' (first|refine bT ?_ ?_|rfl|exact bV|exact bU|exact bW O))) ?_
        refine LWP.thaw (k:=600) (sz:=6) (vals:=inssV q) hn hFz hcp hfit hsp O O O (by decide) ?_
        (refine rgN<|kmv O<|kas O<|kas O<|aB<|aI ?_)
        exact ⟨[(1000001,600)],⟨[_,_],⟨rfl,rfl,trivial⟩,rfl⟩,(by repeat' (first|exact trivial|refine cQ ⟨_,rfl,?_⟩ ?_|refine cQ ⟨_,rfl⟩ ?_|rfl|exact bX _ _ _ _|exact bY _ _ _ _|exact bZ rfl)),rfl,rfl⟩
      · rw [if_neg (fun h=>hk h.2)] at hD
        obtain ⟨q1,q2⟩:=gd_none hD
        rw [q1,q2]
        (refine rgN<|kmv O<|aU [(1000000,700)] (rd 700 l b) (hDn) O O (by exact (cQ ⟨_,O,O⟩ trivial)) (by exact (bT (bT O (bT O O)) O)) O O O O (by exact (.box O O .nil)) dR<|aV O O dR<|kmv O<|gmv O O O<|gca O O hC O O<|aX O O (r:=true) (cT hk) (dS O O) ?_;refine kpf O O<|aB<|aE O ?_;refine aA<|rgN<|kas O<|kas O<|aB<|aI ?_)
        exact ⟨[],⟨[_,_],⟨O,O,trivial⟩,O⟩,trivial,O,O⟩
    · rw [if_neg (fun h=>hd h.1)] at hD
      obtain ⟨q1,q2⟩:=gd_none hD
      rw [q1,q2]
      rw [Bool.not_eq_true] at hd
      rw [hd] at hDn
      (refine rgN<|kmv O<|aU [(1000000,700)] (rd 700 l b) (hDn) O O (by exact (cQ ⟨_,O,O⟩ trivial)) (by exact (bT (bT O (bT O O)) O)) O O O O (by exact (.box O O .nil)) dR<|aV O O dR<|kmv O<|aC O O O<|aC O O O<|aC O O O<|kpt O O<|aB<|aE O ?_;refine aA<|rgN<|kas O<|kas O<|aB<|aI ?_)
      exact ⟨[],⟨[_,_],⟨O,O,trivial⟩,O⟩,trivial,O,O⟩
end Go.Proofs.YtamplgnbbanamaaGreatDoor
end
section
namespace Go.Proofs.YtamplgnbbanamaaGreatDoor
open Go Go.Lg Go.Lg.Fml Go.Lg.Fld Go.Lg.Arith
set_option maxRecDepth 100000
theorem eqT_expr {o a b o' a' b':Int} {s s':Bool} {h l h' l':Int} (r:Bool) (hr:(o==o'&&(a==a'&&(b==b'&&(s==s'&&(h==h'&&l==l')))))=r) (w:World):
    (Op.equalIn 10000 66 (.agg [.int .i64 o,.int .i64 a,.int .i64 b,.bool s,.int .u64 h,.int .u64 l].toArray) (.agg [.int .i64 o',.int .i64 a',.int .i64 b',.bool s',.int .u64 h',.int .u64 l'].toArray)).run Tryz.prog w = .ok r w:=by
  subst hr
  rw [show (10000:Nat)=9999+1 from rfl,run_equalIn_agg w 9999 66 _ _ (by kernel_rfl) (by kernel_rfl)]
  simp only [Program.fieldsOf,Tryz.underlying66]
  go_simp
  by_cases e1:o=o'
  · by_cases e2:a=a'
    · by_cases e3:b=b'
      · by_cases e4:s=s'
        · by_cases e5:h=h'
          · by_cases e6:l=l'<;>simp [e1,e2,e3,e4,e5,e6]
          · simp [e1,e2,e3,e4,e5]
        · simp [e1,e2,e3,e4]
      · simp [e1,e2,e3]
    · simp [e1,e2]
  · simp [e1]
theorem eqT_retrofitref11 {o a b o' a' b':Int} {s s':Bool} {h l h' l':Int} (r:Bool) (hr:(o==o'&&(a==a'&&(b==b'&&(s==s'&&(h==h'&&l==l')))))=r) (w:World):
    (Op.equalIn 10000 70 (.agg [.int .i64 o,.int .i64 a,.int .i64 b,.bool s,.int .u64 h,.int .u64 l].toArray) (.agg [.int .i64 o',.int .i64 a',.int .i64 b',.bool s',.int .u64 h',.int .u64 l'].toArray)).run Tryz.prog w = .ok r w:=by
  subst hr
  rw [show (10000:Nat)=9999+1 from rfl,run_equalIn_agg w 9999 70 _ _ (by kernel_rfl) (by kernel_rfl)]
  simp only [Program.fieldsOf,Tryz.underlying70]
  go_simp
  by_cases e1:o=o'
  · by_cases e2:a=a'
    · by_cases e3:b=b'
      · by_cases e4:s=s'
        · by_cases e5:h=h'
          · by_cases e6:l=l'<;>simp [e1,e2,e3,e4,e5,e6]
          · simp [e1,e2,e3,e4,e5]
        · simp [e1,e2,e3,e4]
      · simp [e1,e2,e3]
    · simp [e1,e2]
  · simp [e1]
theorem insEq {x y:Ins} (hx:In2 x.k.2) (hy:In2 y.k.2):(x.op==y.op&&(x.a==y.a&&(x.b==y.b&&(x.k.1==y.k.1&&(x.k.2/18446744073709551616==y.k.2/18446744073709551616&&x.k.2%18446744073709551616==y.k.2%18446744073709551616)))))=decide (x=y):=by
  obtain ⟨o,a,b,k,m⟩:=x
  obtain ⟨o',a',b',k',m'⟩:=y
  have h:=eqN (b:=k) (b':=k') hx hy
  rw [show (k==k'&&(m/18446744073709551616==m'/18446744073709551616&&m%18446744073709551616==m'%18446744073709551616))=decide (((k,m):Nm)=(k',m')) from h]
  by_cases e1:o=o'
  · by_cases e2:a=a'
    · by_cases e3:b=b'
      · by_cases e4:((k,m):Nm)=(k',m')
        · rw [e1,e2,e3,e4];simp
        · rw [cO e4,cO (fun e=>e4 (congrArg Ins.k e))];simp
      · rw [cO (fun e=>e3 (congrArg Ins.b e)),show (b==b')=false from cR e3];simp
    · rw [cO (fun e=>e2 (congrArg Ins.a e)),show (a==a')=false from cR e2];simp
  · rw [cO (fun e=>e1 (congrArg Ins.op e)),show (o==o')=false from cR e1];simp
variable (X:Nat→Option Obj)
theorem gShow (hT:XTab X) (l:List Ins) (ad:Option Addr) (cap:Nat) (hin:InsIn X ad l) (hl:l.length<1152921504606846976):PSpec Tryz.prog X 71 [Lx ad l.length cap] (Ls (showX l)):=by
  exact gShow' X hT l ad cap hin hl
theorem gDecode_no (s:List UInt8) (hs:s.length≤1099511627776) (h:decX s=none):PSpec Tryz.prog X 59 [Ls s] (.tup [Vnil,Sn .i64 4]):=by
  have hM:=gDecodeM X s hs
  obtain ⟨q1,q2⟩:=gd_none h
  rw [q1,q2] at hM
  exact hM.plain
theorem gDecode_ok (s:List UInt8) (hs:s.length≤1099511627776) {l:List Ins} (h:decX s=some l):MSpec Tryz.prog X 59 [Ls s] [] (.tup [.one (.slc 1000001 0 l.length 6),Sn .i64 0]) [(1000001,some ⟨66,(inssV l).map .val,true⟩)]:=by
  have hM:=gDecodeM X s hs
  obtain ⟨q1,q2⟩:=gd_some h
  rw [q1,q2] at hM
  exact hM
end Go.Proofs.YtamplgnbbanamaaGreatDoor
end
section
namespace Go.Proofs.YtamplgnbbanamaaGreatDoor
open Go Go.Lg Go.Lg.Fml Go.Lg.Fld Go.Lg.Arith
set_option maxRecDepth 100000
variable (X:Nat→Option Obj)
def sizeB (rs:List Rl):Prop := ∀ r∈rs,r.ex.length<9223372036854775808∧∀ c∈r.ex,c.length<9223372036854775808
def grtR (r:Rl):Bool:=decide (12<r.ex.length)||r.ex.any fun c=>decide (80<c.length)
def grtP (rs:List Rl):Bool:=decide (30<rs.length)||rs.any grtR
theorem grtP_false {rs:List Rl} (h:grtP rs=false):rs.length≤30∧∀ r∈rs,r.ex.length≤12∧∀ c∈r.ex,c.length≤80:=by
  unfold grtP at h
  rw [Bool.or_eq_false_iff,decide_eq_false_iff_not] at h
  refine ⟨by omega,fun r hr => ?_⟩
  have h1:grtR r=false:=by have:=List.any_eq_false.1 h.2 r hr;simpa using this
  unfold grtR at h1
  rw [Bool.or_eq_false_iff,decide_eq_false_iff_not] at h1
  refine ⟨by omega,fun c hc => ?_⟩
  have:=List.any_eq_false.1 h1.2 c hc
  simpa using this
set_option maxHeartbeats 3200000 in
theorem great12_spec (p:Pg) (ad:Option Addr) (cap:Nat) (hin:RulesIn X ad p.rs) (hbig:p.rs.length<9223372036854775808) (hsz:sizeB p.rs):
    PSpec Tryz.prog X 8 [LPg p.va p.vb ad p.rs.length cap] (Lb (grtP p.rs)):=by
  obtain ⟨va,vb,rs⟩:=p
  simp only at hin hbig hsz ⊢
  refine cF Tryz.func8 rfl (by kernel_rfl) rfl rfl ?_
  intro C
  unfold grtP
  by_cases h1:30<rs.length
  · rw [cP h1]
    (refine aA<|rgN<|aL O O O dR<|kas O<|aB<|aA<|aA<|rgN<|kfa O O ?_;refine kl1 O O O<|aQ O cC O dR ?_;refine aS O O (cP (by omega)) dR<|aB<|aE O ?_;refine aA<|rgN<|kas O<|aB<|aI ?_)
    exact ⟨[_],⟨O,trivial⟩,O⟩
  rw [cO h1,Bool.false_or]
  (refine aA<|rgN<|aL O O O dR<|kas O<|aB<|aA<|aA<|rgN<|kfa O O ?_;refine kl1 O O O<|aQ O cC O dR ?_;refine aS O O (cO (by omega)) dR<|aB<|aF O ?_;refine aH ?_;refine aA<|aA<|rgN<|kas O<|aB<|aG ?_)
  refine cL (fun m σ=>∃ i:Nat,i≤rs.length∧m=rs.length-i∧(rs.take i).any grtR=false∧σ=⟨[(1,Lp 1),(3,Ln .i64 (i:Nat))],[v3B 24 1 va vb ad rs.length cap],X⟩) rs.length
    ⟨_,Le.of (by exact ⟨rfl,rfl,trivial⟩) (by exact ⟨rfl,trivial⟩) (by exact rfl) (by exact rfl) (by repeat' (first|refine bT ?_ ?_|rfl|exact bV|exact bU|exact bW rfl)),0,by omega,by omega,rfl,rfl⟩ ?_
  rintro m σ ⟨i,hi,rfl,hany,rfl⟩
  by_cases hlt:i<rs.length
  case neg =>
    have e:i=rs.length:=by omega
    subst e
    rw [dF] at hany
    rw [hany]
    (refine aA<|aA<|rgN<|kmv O<|kfa O O ?_;refine kl1 O O O<|aQ O cC O dR ?_;refine klt O O (cO (by omega))<|aB<|aF O ?_;refine aJ<|aA<|rgN<|kas O<|aB<|aI ?_)
    exact ⟨[_],⟨O,trivial⟩,O⟩
  obtain ⟨r,hr⟩:∃ r,rs[i]? = some r:=⟨_,cX hlt⟩
  obtain ⟨blk,off,arr,el,fr,ead,ecap,rfl,hX,hsiz,hcs,g1,g2,g3,hE⟩:=hin.get hr
  have hio:off+Int.toNat (i:Int)*3=off+i*3:=by simp
  obtain ⟨hel,hcl⟩:=hsz r (dD hr)
  have hyes:grtR r=true→rs.any grtR=true:=fun h=>List.any_eq_true.2 ⟨r,dD hr,h⟩
  by_cases h12:12<r.ex.length
  · rw [hyes (by unfold grtR;rw [cP h12];rfl)]
    (refine aA<|aA<|rgN<|kmv O<|kfa O O ?_;refine kl1 O O O<|aQ O cC O dR ?_;refine klt O O (cP (by omega))<|aB<|aE O ?_;refine aH ?_;refine aA<|aG<|aA<|aA<|rgN<|kfa O O ?_;refine kl1 O O O<|kmv O<|aR O O cC (by omega) hio dR<|bH O O dR ?_;refine aW O hX O g3 dR<|aQ O cC O dR ?_;refine aS O O (cP (by omega)) dR<|aB<|aE O ?_;refine aA<|rgN<|kas O<|aB<|aI ?_)
    exact ⟨[_],⟨O,trivial⟩,O⟩
  (refine aA<|aA<|rgN<|kmv O<|kfa O O ?_;refine kl1 O O O<|aQ O cC O dR ?_;refine klt O O (cP (by omega))<|aB<|aE O ?_;refine aH ?_;refine aA<|aG<|aA<|aA<|rgN<|kfa O O ?_;refine kl1 O O O<|kmv O<|aR O O cC (by omega) hio dR<|bH O O dR ?_;refine aW O hX O g3 dR<|aQ O cC O dR ?_;refine aS O O (cO (by omega)) dR<|aB<|aF O ?_;refine aH ?_;refine aA<|rgN<|kas O<|aB<|aG ?_)
  refine cL (fun m σ=>∃ k:Nat,k≤r.ex.length∧m=r.ex.length-k∧(r.ex.take k).any (fun c=>decide (80<c.length))=false∧σ=⟨[(1,Lp 1),(3,Ln .i64 (i:Nat)),(4,Ln .i64 (k:Nat))],[v3B 24 1 va vb (some ⟨blk,off,none⟩) rs.length cap],X⟩) r.ex.length
    ⟨_,Le.of (by exact ⟨rfl,rfl,rfl,trivial⟩) (by exact ⟨rfl,trivial⟩) (by exact rfl) (by exact rfl) (by repeat' (first|refine bT ?_ ?_|rfl|exact bV|exact bU|exact bW rfl)),0,by omega,by omega,rfl,rfl⟩ ?_
  rintro m σ ⟨k,hk,rfl,hany2,rfl⟩
  by_cases hkl:k<r.ex.length
  case neg =>
    have e:k=r.ex.length:=by omega
    subst e
    rw [dF] at hany2
    have hno:grtR r=false:=by unfold grtR;rw [cO h12,hany2];rfl
    have hnx:(rs.take (i+1)).any grtR=false:=by rw [take_snoc hr,List.any_append,hany];simp [hno]
    have hadd:IntKind.i64.wrap ((i:Int)+1)=((i+1:Nat):Int):=by rw [cH (by omega)];omega
    (refine aA<|aA<|rgN<|kmv O<|kfa O O ?_;refine kl1 O O O<|kmv O<|aR O O cC (by omega) hio dR<|bH O O dR ?_;refine aW O hX O g3 dR<|aQ O cC O dR ?_;refine klt O O (cO (by omega))<|aB<|aF O ?_;refine aJ<|rgN<|kmv O<|kad O O hadd<|kas O<|aB ?_)
    exact ⟨_,⟨[(1,Lp 1),(3,Ln .i64 (i+1:Nat))],[v3B 24 1 va vb (some ⟨blk,off,none⟩) rs.length cap],X⟩,by omega,Le.of (by exact ⟨O,O,trivial⟩) (by exact ⟨O,trivial⟩) (by exact O) (by exact O) (by repeat' (first|refine bT ?_ ?_|rfl|exact bV|exact bU|exact bW O)),i+1,by omega,O,hnx,O⟩
  obtain ⟨c,hc⟩:∃ c,r.ex[k]? = some c:=⟨_,cX hkl⟩
  obtain ⟨eb,eo,earr,eel,efr,vad,vcap,rfl,hEX,hec,hI⟩:=hE.get hc
  have hio3:eo+Int.toNat (k:Int)*1=eo+k*1:=by simp
  by_cases h80:80<c.length
  · rw [hyes (by unfold grtR;rw [cO h12,Bool.false_or];exact List.any_eq_true.2 ⟨c,dD hc,cP h80⟩)]
    (refine aA<|aA<|rgN<|kmv O<|kfa O O ?_;refine kl1 O O O<|kmv O<|aR O O cC (by omega) hio dR<|bH O O dR ?_;refine aW O hX O g3 dR<|aQ O cC O dR ?_;refine klt O O (cP (by omega))<|aB<|aE O ?_;refine aH ?_;refine aA<|aG<|aA<|rgN<|kfa O O ?_;refine kl1 O O O<|kmv O<|aR O O cC (by omega) hio dR<|bH O O dR ?_;refine aW O hX O g3 dR<|kmv O<|aR O O cC (by omega) hio3 dR<|aW O hEX O hec dR<|aQ O cC O dR ?_;refine aS O O (cP (by omega)) dR<|aB<|aE O ?_;refine aA<|rgN<|kas O<|aB<|aI ?_)
    exact ⟨[_],⟨O,trivial⟩,O⟩
  have hnx:(r.ex.take (k+1)).any (fun c=>decide (80<c.length))=false:=by rw [take_snoc hc,List.any_append,hany2];simp;omega
  have hadd:IntKind.i64.wrap ((k:Int)+1)=((k+1:Nat):Int):=by rw [cH (by omega)];omega
  (refine aA<|aA<|rgN<|kmv O<|kfa O O ?_;refine kl1 O O O<|kmv O<|aR O O cC (by omega) hio dR<|bH O O dR ?_;refine aW O hX O g3 dR<|aQ O cC O dR ?_;refine klt O O (cP (by omega))<|aB<|aE O ?_;refine aH ?_;refine aA<|aG<|aA<|rgN<|kfa O O ?_;refine kl1 O O O<|kmv O<|aR O O cC (by omega) hio dR<|bH O O dR ?_;refine aW O hX O g3 dR<|kmv O<|aR O O cC (by omega) hio3 dR<|aW O hEX O hec dR<|aQ O cC O dR ?_;refine aS O O (cO (by omega)) dR<|aB<|aF O ?_;refine aH ?_;refine rgN<|kmv O<|kad O O hadd<|kas O<|aB ?_)
  exact ⟨_,⟨[(1,Lp 1),(3,Ln .i64 (i:Nat)),(4,Ln .i64 (k+1:Nat))],[v3B 24 1 va vb (some ⟨blk,off,none⟩) rs.length cap],X⟩,by omega,Le.of (by exact ⟨O,O,O,trivial⟩) (by exact ⟨O,trivial⟩) (by exact O) (by exact O) (by repeat' (first|refine bT ?_ ?_|rfl|exact bV|exact bU|exact bW O)),k+1,by omega,O,hnx,O⟩
theorem at_ne {α:Type} {l m:List α} {i:Nat} {x y:α} (hx:l[i]? = some x) (hy:m[i]? = some y) (h:x≠y):l≠m:=fun e=>by
  rw [e,hy] at hx
  exact h (Option.some.inj hx).symm
set_option maxHeartbeats 12800000 in
theorem same12_spec (p p2:Pg) (ad:Option Addr) (cap:Nat) (hin:RulesIn X ad p.rs) (hbig:p.rs.length<4611686018427387904) (hsz:sizeR p.rs) (bd:Option Addr) (cap2:Nat) (hin2:RulesIn X bd p2.rs) (hbig2:p2.rs.length<4611686018427387904) (hsz2:sizeR p2.rs):
    PSpec Tryz.prog X 16 [LPg p.va p.vb ad p.rs.length cap,LPg p2.va p2.vb bd p2.rs.length cap2] (Lb (decide (p=p2))):=by
  obtain ⟨va,vb,rs⟩:=p
  obtain ⟨va2,vb2,qs⟩:=p2
  simp only at hin hbig hsz hin2 hbig2 hsz2 ⊢
  refine cF Tryz.func16 rfl (by kernel_rfl) rfl rfl ?_
  intro C
  by_cases d1:va=va2
  case neg =>
    rw [cO (fun e=>d1 (congrArg Pg.va e))]
    (refine aA<|rgN<|aL O O O dR<|aL O O O dR<|kas O<|aB<|aA<|aA<|rgN<|kfa O O ?_;refine kl1 O O O<|kfa O O ?_;refine kl1 O O O<|kne O O (cT (by omega))<|kmv O<|aC O O O<|aC O O O<|aC O O O<|aC O O O<|aC O O O<|kpt O O<|kmv O<|aC O O O<|aC O O O<|aC O O O<|aC O O O ?_;refine aC O O O<|aC O O O<|aC O O O<|kpt O O<|aB<|aE O ?_;refine aA<|rgN<|kas O<|aB<|aI ?_)
    exact ⟨[_],⟨O,trivial⟩,O⟩
  by_cases d2:vb=vb2
  case neg =>
    rw [cO (fun e=>d2 (congrArg Pg.vb e))]
    (refine aA<|rgN<|aL O O O dR<|aL O O O dR<|kas O<|aB<|aA<|aA<|rgN<|kfa O O ?_;refine kl1 O O O<|kfa O O ?_;refine kl1 O O O<|kne O O (cS (by omega))<|kmv O<|aN O O (dS O O) ?_;refine aO O O O (dS O O) ?_;refine aN O O (dS O O) ?_;refine aO O O O (dS O O) ?_;refine aX O O (cT (by omega)) (dS O O) ?_;refine kpf O O<|kmv O<|aC O O O<|aC O O O<|aC O O O<|aC O O O<|aC O O O<|aC O O O<|aC O O O<|kpt O O<|aB<|aE O ?_;refine aA<|rgN<|kas O<|aB<|aI ?_)
    exact ⟨[_],⟨O,trivial⟩,O⟩
  by_cases d3:rs.length=qs.length
  case neg =>
    rw [cO (fun e=>d3 (congrArg (fun p:Pg=>p.rs.length) e))]
    (refine aA<|rgN<|aL O O O dR<|aL O O O dR<|kas O<|aB<|aA<|aA<|rgN<|kfa O O ?_;refine kl1 O O O<|kfa O O ?_;refine kl1 O O O<|kne O O (cS (by omega))<|kmv O<|aN O O (dS O O) ?_;refine aO O O O (dS O O) ?_;refine aN O O (dS O O) ?_;refine aO O O O (dS O O) ?_;refine aX O O (cS (by omega)) (dS O O) ?_;refine kpf O O<|kmv O<|aN O O (dS O O) ?_;refine aO O O O (dS O O) ?_;refine aQ O cC O (dS O O) ?_;refine aN O O (dS O O) ?_;refine aO O O O (dS O O) ?_;refine aQ O cC O (dS O O) ?_;refine aX O O (cT (by omega)) (dS O O) ?_;refine kpf O O<|aB<|aE O ?_;refine aA<|rgN<|kas O<|aB<|aI ?_)
    exact ⟨[_],⟨O,trivial⟩,O⟩
  have hno:rs≠qs→decide ((⟨va,vb,rs⟩:Pg)=⟨va2,vb2,qs⟩)=false:=fun h=>cO (fun e=>h (congrArg Pg.rs e))
  have hyes:rs=qs→decide ((⟨va,vb,rs⟩:Pg)=⟨va2,vb2,qs⟩)=true:=fun h=>cP (by rw [d1,d2,h])
  (refine aA<|rgN<|aL O O O dR<|aL O O O dR<|kas O<|aB<|aA<|aA<|rgN<|kfa O O ?_;refine kl1 O O O<|kfa O O ?_;refine kl1 O O O<|kne O O (cS (by omega))<|kmv O<|aN O O (dS O O) ?_;refine aO O O O (dS O O) ?_;refine aN O O (dS O O) ?_;refine aO O O O (dS O O) ?_;refine aX O O (cS (by omega)) (dS O O) ?_;refine kpf O O<|kmv O<|aN O O (dS O O) ?_;refine aO O O O (dS O O) ?_;refine aQ O cC O (dS O O) ?_;refine aN O O (dS O O) ?_;refine aO O O O (dS O O) ?_;refine aQ O cC O (dS O O) ?_;refine aX O O (cS (by omega)) (dS O O) ?_;refine kpf O O<|aB<|aF O ?_;refine aH ?_;refine aA<|aA<|rgN<|kas O<|aB<|aG ?_)
  refine cL (fun m σ=>∃ i:Nat,i≤rs.length∧m=rs.length-i∧rs.take i=qs.take i∧σ=⟨[(2,Lp 2),(3,Lp 3),(5,Ln .i64 (i:Nat))],[v3B 29 2 va vb ad rs.length cap,v3B 29 3 va2 vb2 bd qs.length cap2],X⟩) rs.length
    ⟨_,Le.of (by exact ⟨rfl,rfl,rfl,trivial⟩) (by exact ⟨rfl,rfl,trivial⟩) (by exact rfl) (by exact rfl) (by repeat' (first|refine bT ?_ ?_|rfl|exact bV|exact bU|exact bW rfl)),0,by omega,by omega,rfl,rfl⟩ ?_
  rintro m σ ⟨i,hi,rfl,heq,rfl⟩
  by_cases hlt:i<rs.length
  case neg =>
    have e:i=rs.length:=by omega
    rw [e,dF,d3,dF] at heq
    rw [hyes heq]
    (refine aA<|aA<|rgN<|kmv O<|kfa O O ?_;refine kl1 O O O<|aQ O cC O dR ?_;refine klt O O (cO (by omega))<|aB<|aF O ?_;refine aJ<|aA<|rgN<|kas O<|aB<|aI ?_)
    exact ⟨[_],⟨O,trivial⟩,O⟩
  obtain ⟨r,hr⟩:∃ r,rs[i]? = some r:=⟨_,cX hlt⟩
  obtain ⟨q,hq⟩:∃ q,qs[i]? = some q:=⟨_,cX (by omega)⟩
  obtain ⟨blk,off,arr,el,fr,ead,ecap,rfl,hX,hsiz,hcs,g1,g2,g3,hE⟩:=hin.get hr
  obtain ⟨qblk,qoff,qarr,qel,qfr,qead,qcap,rfl,hqX,hqsiz,hqcs,_,_,_,hF⟩:=hin2.get hq
  have hio:off+Int.toNat (i:Int)*3=off+i*3:=by simp
  have hqio:qoff+Int.toNat (i:Int)*3=qoff+i*3:=by simp
  obtain ⟨hel,hcl⟩:=hsz r (dD hr)
  obtain ⟨hql,hdl⟩:=hsz2 q (dD hq)
  have hno2:=fun h:r≠q=>hno (at_ne hr hq h)
  (refine aA<|aA<|rgN<|kmv O<|kfa O O ?_;refine kl1 O O O<|aQ O cC O dR ?_;refine klt O O (cP (by omega))<|aB<|aE O ?_;refine aH ?_;refine aA<|aG<|aA<|rgN<|kfa O O ?_;refine kl1 O O O<|kmv O<|aR O O cC (by omega) hio dR<|aY O hX (by kernel_rfl) hsiz hcs dR<|aP O dR ?_;refine aM O O O O O O dR ?_;refine aB<|aA<|rgN<|kfa O O ?_;refine kl1 O O O<|kmv O<|aR O O cC (by omega) hqio dR<|aY O hqX (by kernel_rfl) hqsiz hqcs dR<|aP O dR ?_;refine aM O O O O O O dR ?_;refine aB<|aA<|aA ?_)
  refine LWP.le (σ':=⟨[(2,Lp 2),(3,Lp 3),(5,Ln .i64 (i:Nat)),(6,Lp 6),(7,Lp 7)],[v3B 51 7 q.nw q.old qead q.ex.length qcap,v3B 51 6 r.nw r.old ead r.ex.length ecap,v3B 29 2 va vb (some ⟨blk,off,none⟩) rs.length cap,v3B 29 3 va2 vb2 (some ⟨qblk,qoff,none⟩) qs.length cap2],X⟩) (Le.of (by exact ⟨O,O,O,O,O,trivial⟩) (by exact ⟨O,O,O,O,trivial⟩) (by exact O) (by exact O) (by repeat' (first|refine bT ?_ ?_|rfl|exact bV|exact bU|exact bW O))) ?_
  by_cases f1:r.nw=q.nw
  case neg =>
    rw [hno2 (fun e=>f1 (congrArg Rl.nw e))]
    (refine rgN<|kfa O O ?_;refine kl1 O O O<|kfa O O ?_;refine kl1 O O O<|kne O O (cT (by omega))<|kmv O<|aC O O O<|aC O O O<|aC O O O<|aC O O O<|aC O O O<|kpt O O<|kmv O<|aC O O O<|aC O O O<|aC O O O<|aC O O O ?_;refine aC O O O<|aC O O O<|aC O O O<|kpt O O<|aB<|aE O ?_;refine aA<|rgN<|kas O<|aB<|aI ?_)
    exact ⟨[_],⟨O,trivial⟩,O⟩
  by_cases f2:r.old=q.old
  case neg =>
    rw [hno2 (fun e=>f2 (congrArg Rl.old e))]
    (refine rgN<|kfa O O ?_;refine kl1 O O O<|kfa O O ?_;refine kl1 O O O<|kne O O (cS (by omega))<|kmv O<|aN O O (dS O O) ?_;refine aO O O O (dS O O) ?_;refine aN O O (dS O O) ?_;refine aO O O O (dS O O) ?_;refine aX O O (cT (by omega)) (dS O O) ?_;refine kpf O O<|kmv O<|aC O O O<|aC O O O<|aC O O O<|aC O O O<|aC O O O<|aC O O O<|aC O O O<|kpt O O<|aB<|aE O ?_;refine aA<|rgN<|kas O<|aB<|aI ?_)
    exact ⟨[_],⟨O,trivial⟩,O⟩
  by_cases f3:r.ex.length=q.ex.length
  case neg =>
    rw [hno2 (fun e=>f3 (congrArg (fun p:Rl=>p.ex.length) e))]
    (refine rgN<|kfa O O ?_;refine kl1 O O O<|kfa O O ?_;refine kl1 O O O<|kne O O (cS (by omega))<|kmv O<|aN O O (dS O O) ?_;refine aO O O O (dS O O) ?_;refine aN O O (dS O O) ?_;refine aO O O O (dS O O) ?_;refine aX O O (cS (by omega)) (dS O O) ?_;refine kpf O O<|kmv O<|aN O O (dS O O) ?_;refine aO O O O (dS O O) ?_;refine aQ O cC O (dS O O) ?_;refine aN O O (dS O O) ?_;refine aO O O O (dS O O) ?_;refine aQ O cC O (dS O O) ?_;refine aX O O (cT (by omega)) (dS O O) ?_;refine kpf O O<|aB<|aE O ?_;refine aA<|rgN<|kas O<|aB<|aI ?_)
    exact ⟨[_],⟨O,trivial⟩,O⟩
  have hno3:=fun h:r.ex≠q.ex=>hno2 (fun e=>h (congrArg Rl.ex e))
  (refine rgN<|kfa O O ?_;refine kl1 O O O<|kfa O O ?_;refine kl1 O O O<|kne O O (cS (by omega))<|kmv O<|aN O O (dS O O) ?_;refine aO O O O (dS O O) ?_;refine aN O O (dS O O) ?_;refine aO O O O (dS O O) ?_;refine aX O O (cS (by omega)) (dS O O) ?_;refine kpf O O<|kmv O<|aN O O (dS O O) ?_;refine aO O O O (dS O O) ?_;refine aQ O cC O (dS O O) ?_;refine aN O O (dS O O) ?_;refine aO O O O (dS O O) ?_;refine aQ O cC O (dS O O) ?_;refine aX O O (cS (by omega)) (dS O O) ?_;refine kpf O O<|aB<|aF O ?_;refine aH ?_;refine aA<|rgN<|kas O<|aB<|aG ?_)
  refine cL (fun m σ=>∃ k:Nat,k≤r.ex.length∧m=r.ex.length-k∧r.ex.take k=q.ex.take k∧σ=⟨[(2,Lp 2),(3,Lp 3),(5,Ln .i64 (i:Nat)),(6,Lp 6),(7,Lp 7),(8,Ln .i64 (k:Nat))],[v3B 51 7 q.nw q.old qead q.ex.length qcap,v3B 51 6 r.nw r.old ead r.ex.length ecap,v3B 29 2 va vb (some ⟨blk,off,none⟩) rs.length cap,v3B 29 3 va2 vb2 (some ⟨qblk,qoff,none⟩) qs.length cap2],X⟩) r.ex.length
    ⟨_,Le.of (by exact ⟨rfl,rfl,rfl,rfl,rfl,rfl,trivial⟩) (by exact ⟨rfl,rfl,rfl,rfl,trivial⟩) (by exact rfl) (by exact rfl) (by repeat' (first|refine bT ?_ ?_|rfl|exact bV|exact bU|exact bW rfl)),0,by omega,by omega,rfl,rfl⟩ ?_
  rintro m σ ⟨k,hk,rfl,hek,rfl⟩
  by_cases hkl:k<r.ex.length
  case neg =>
    have e:k=r.ex.length:=by omega
    rw [e,dF,f3,dF] at hek
    have hrq:r=q:=by
      obtain ⟨n1,o1,x1⟩:=r
      obtain ⟨n2,o2,x2⟩:=q
      simp only at f1 f2 hek
      rw [f1,f2,hek]
    have hnx:rs.take (i+1)=qs.take (i+1):=by rw [take_snoc hr,take_snoc hq,heq,hrq]
    have hadd:IntKind.i64.wrap ((i:Int)+1)=((i+1:Nat):Int):=by rw [cH (by omega)];omega
    (refine aA<|aA<|rgN<|kmv O<|kfa O O ?_;refine kl1 O O O<|aQ O cC O dR ?_;refine klt O O (cO (by omega))<|aB<|aF O ?_;refine aJ<|rgN<|kmv O<|kad O O hadd<|kas O<|aB ?_)
    exact ⟨_,⟨[(2,Lp 2),(3,Lp 3),(5,Ln .i64 (i+1:Nat))],[v3B 29 2 va vb (some ⟨blk,off,none⟩) rs.length cap,v3B 29 3 va2 vb2 (some ⟨qblk,qoff,none⟩) qs.length cap2],X⟩,by omega,Le.of (by exact ⟨O,O,O,trivial⟩) (by exact ⟨O,O,trivial⟩) (by exact O) (by exact O) (by repeat' (first|refine bT ?_ ?_|rfl|exact bV|exact bU|exact bW O)),i+1,by omega,O,hnx,O⟩
  obtain ⟨c,hc⟩:∃ c,r.ex[k]? = some c:=⟨_,cX hkl⟩
  obtain ⟨d,hd⟩:∃ d,q.ex[k]? = some d:=⟨_,cX (by omega)⟩
  obtain ⟨eb,eo,earr,eel,efr,vad,vcap,rfl,hEX,hec,hI⟩:=hE.get hc
  obtain ⟨fb,fo,farr,fel,ffr,wad,wcap,rfl,hFX,hfc,hJ⟩:=hF.get hd
  have hio3:eo+Int.toNat (k:Int)*1=eo+k*1:=by simp
  have hfio:fo+Int.toNat (k:Int)*1=fo+k*1:=by simp
  have hcb:=hcl c (dD hc)
  have hno4:=fun h:c≠d=>hno3 (at_ne hc hd h)
  by_cases f4:c.length=d.length
  case neg =>
    rw [hno4 (fun e=>f4 (congrArg List.length e))]
    (refine aA<|aA<|rgN<|kmv O<|kfa O O ?_;refine kl1 O O O<|aQ O cC O dR ?_;refine klt O O (cP (by omega))<|aB<|aE O ?_;refine aH ?_;refine aA<|aG<|aA<|aA<|rgD mixed<|kfa O O ?_;refine kl1 O O O<|kmv O<|aR O O cC (by omega) hio3 dR<|aW O hEX O hec dR<|aQ O cC O dR ?_;refine kfa O O ?_;refine kl1 O O O<|kmv O<|aR O O cC (by omega) hfio dR<|aW O hFX O hfc dR<|aQ O cC O dR ?_;refine kne O O (cT (by omega))<|aB<|rgA ?_;refine aE O ?_;refine aA<|rgN<|kas O<|aB<|aI ?_)
    exact ⟨[_],⟨O,trivial⟩,O⟩
  (refine aA<|aA<|rgN<|kmv O<|kfa O O ?_;refine kl1 O O O<|aQ O cC O dR ?_;refine klt O O (cP (by omega))<|aB<|aE O ?_;refine aH ?_;refine aA<|aG<|aA<|aA<|rgD mixed<|kfa O O ?_;refine kl1 O O O<|kmv O<|aR O O cC (by omega) hio3 dR<|aW O hEX O hec dR<|aQ O cC O dR ?_;refine kfa O O ?_;refine kl1 O O O<|kmv O<|aR O O cC (by omega) hfio dR<|aW O hFX O hfc dR<|aQ O cC O dR ?_;refine kne O O (cS (by omega))<|aB<|rgA ?_;refine aF O ?_;refine aH ?_;refine aA<|rgN<|kas O<|aB<|aG ?_)
  refine cL (fun m σ=>∃ n:Nat,n≤c.length∧m=c.length-n∧c.take n=d.take n∧σ=⟨[(2,Lp 2),(3,Lp 3),(5,Ln .i64 (i:Nat)),(6,Lp 6),(7,Lp 7),(8,Ln .i64 (k:Nat)),(9,Ln .i64 (n:Nat))],[v3B 51 7 q.nw q.old (some ⟨fb,fo,none⟩) q.ex.length qcap,v3B 51 6 r.nw r.old (some ⟨eb,eo,none⟩) r.ex.length ecap,v3B 29 2 va vb (some ⟨blk,off,none⟩) rs.length cap,v3B 29 3 va2 vb2 (some ⟨qblk,qoff,none⟩) qs.length cap2],X⟩) c.length
    ⟨_,Le.of (by exact ⟨rfl,rfl,rfl,rfl,rfl,rfl,rfl,trivial⟩) (by exact ⟨rfl,rfl,rfl,rfl,trivial⟩) (by exact rfl) (by exact rfl) (by repeat' (first|refine bT ?_ ?_|rfl|exact bV|exact bU|exact bW rfl)),0,by omega,by omega,rfl,rfl⟩ ?_
  rintro m σ ⟨n,hn,rfl,hen,rfl⟩
  by_cases hnl:n<c.length
  case neg =>
    have e:n=c.length:=by omega
    rw [e,dF,f4,dF] at hen
    have hnx:r.ex.take (k+1)=q.ex.take (k+1):=by rw [take_snoc hc,take_snoc hd,hek,hen]
    have hadd:IntKind.i64.wrap ((k:Int)+1)=((k+1:Nat):Int):=by rw [cH (by omega)];omega
    (refine aA<|aA<|rgN<|kmv O<|kfa O O ?_;refine kl1 O O O<|kmv O<|aR O O cC (by omega) hio3 dR<|aW O hEX O hec dR<|aQ O cC O dR ?_;refine klt O O (cO (by omega))<|aB<|aF O ?_;refine aJ<|rgN<|kmv O<|kad O O hadd<|kas O<|aB ?_)
    exact ⟨_,⟨[(2,Lp 2),(3,Lp 3),(5,Ln .i64 (i:Nat)),(6,Lp 6),(7,Lp 7),(8,Ln .i64 (k+1:Nat))],[v3B 51 7 q.nw q.old (some ⟨fb,fo,none⟩) q.ex.length qcap,v3B 51 6 r.nw r.old (some ⟨eb,eo,none⟩) r.ex.length ecap,v3B 29 2 va vb (some ⟨blk,off,none⟩) rs.length cap,v3B 29 3 va2 vb2 (some ⟨qblk,qoff,none⟩) qs.length cap2],X⟩,by omega,Le.of (by exact ⟨O,O,O,O,O,O,trivial⟩) (by exact ⟨O,O,O,O,trivial⟩) (by exact O) (by exact O) (by repeat' (first|refine bT ?_ ?_|rfl|exact bV|exact bU|exact bW O)),k+1,by omega,O,hnx,O⟩
  obtain ⟨x,hx⟩:∃ x,c[n]? = some x:=⟨_,cX hnl⟩
  obtain ⟨y,hy⟩:∃ y,d[n]? = some y:=⟨_,cX (by omega)⟩
  obtain ⟨xb,xo,xarr,xel,xfr,rfl,hxX,hxz,hxc,_⟩:=hI.at hx
  obtain ⟨yb,yo,yarr,yel,yfr,rfl,hyX,hyz,hyc,_⟩:=hJ.at hy
  have hxo:xo+Int.toNat (n:Int)*6=xo+n*6:=by simp
  have hyo:yo+Int.toNat (n:Int)*6=yo+n*6:=by simp
  have qe:=insEq (x:=x) (y:=y) (hI.small x (dD hx)).2.2.2 (hJ.small y (dD hy)).2.2.2
  by_cases f5:x=y
  case neg =>
    rw [hno4 (at_ne hx hy f5)]
    rw [cO f5] at qe
    have qx:=eqT_retrofitref11 (o:=x.op) (o':=y.op) (a:=x.a) (a':=y.a) (b:=x.b) (b':=y.b) (s:=x.k.1) (s':=y.k.1) (h:=x.k.2/18446744073709551616) (h':=y.k.2/18446744073709551616) (l:=x.k.2%18446744073709551616) (l':=y.k.2%18446744073709551616) false qe
    (refine aA<|aA<|rgN<|kmv O<|kfa O O ?_;refine kl1 O O O<|kmv O<|aR O O cC (by omega) hio3 dR<|aW O hEX O hec dR<|aQ O cC O dR ?_;refine klt O O (cP (by omega))<|aB<|aE O ?_;refine aH ?_;refine aA<|aG<|aA<|rgD mixed<|kfa O O ?_;refine kl1 O O O<|kmv O<|aR O O cC (by omega) hio3 dR<|aW O hEX O hec dR<|kmv O<|aR O O cC (by omega) hxo dR<|aY O hxX (by kernel_rfl) hxz hxc dR<|kfa O O ?_;refine kl1 O O O<|kmv O<|aR O O cC (by omega) hfio dR<|aW O hFX O hfc dR<|kmv O<|aR O O cC (by omega) hyo dR<|aY O hyX (by kernel_rfl) hyz hyc dR<|bR (c:=true) O O O O (by kernel_rfl) qx (.inr ⟨O,O⟩) dR<|aB<|rgA ?_;refine aE O ?_;refine aA<|rgN<|kas O<|aB<|aI ?_)
    exact ⟨[_],⟨O,trivial⟩,O⟩
  rw [cP f5] at qe
  have qx:=eqT_retrofitref11 (o:=x.op) (o':=y.op) (a:=x.a) (a':=y.a) (b:=x.b) (b':=y.b) (s:=x.k.1) (s':=y.k.1) (h:=x.k.2/18446744073709551616) (h':=y.k.2/18446744073709551616) (l:=x.k.2%18446744073709551616) (l':=y.k.2%18446744073709551616) true qe
  have hnx:c.take (n+1)=d.take (n+1):=by rw [take_snoc hx,take_snoc hy,hen,f5]
  have hadd:IntKind.i64.wrap ((n:Int)+1)=((n+1:Nat):Int):=by rw [cH (by omega)];omega
  (refine aA<|aA<|rgN<|kmv O<|kfa O O ?_;refine kl1 O O O<|kmv O<|aR O O cC (by omega) hio3 dR<|aW O hEX O hec dR<|aQ O cC O dR ?_;refine klt O O (cP (by omega))<|aB<|aE O ?_;refine aH ?_;refine aA<|aG<|aA<|rgD mixed<|kfa O O ?_;refine kl1 O O O<|kmv O<|aR O O cC (by omega) hio3 dR<|aW O hEX O hec dR<|kmv O<|aR O O cC (by omega) hxo dR<|aY O hxX (by kernel_rfl) hxz hxc dR<|kfa O O ?_;refine kl1 O O O<|kmv O<|aR O O cC (by omega) hfio dR<|aW O hFX O hfc dR<|kmv O<|aR O O cC (by omega) hyo dR<|aY O hyX (by kernel_rfl) hyz hyc dR<|bR (c:=false) O O O O (by kernel_rfl) qx (.inr ⟨O,O⟩) dR<|aB<|rgA ?_;refine aF O ?_;refine aH ?_;refine rgN<|kmv O<|kad O O hadd<|kas O<|aB ?_)
  exact ⟨_,⟨[(2,Lp 2),(3,Lp 3),(5,Ln .i64 (i:Nat)),(6,Lp 6),(7,Lp 7),(8,Ln .i64 (k:Nat)),(9,Ln .i64 (n+1:Nat))],[v3B 51 7 q.nw q.old (some ⟨fb,fo,none⟩) q.ex.length qcap,v3B 51 6 r.nw r.old (some ⟨eb,eo,none⟩) r.ex.length ecap,v3B 29 2 va vb (some ⟨blk,off,none⟩) rs.length cap,v3B 29 3 va2 vb2 (some ⟨qblk,qoff,none⟩) qs.length cap2],X⟩,by omega,Le.of (by exact ⟨O,O,O,O,O,O,O,trivial⟩) (by exact ⟨O,O,O,O,trivial⟩) (by exact O) (by exact O) (by repeat' (first|refine bT ?_ ?_|rfl|exact bV|exact bU|exact bW O)),n+1,by omega,O,hnx,O⟩
end Go.Proofs.YtamplgnbbanamaaGreatDoor
end
section
namespace Go.Proofs.YtamplgnbbanamaaGreatDoor
open Go Go.Lg Go.Lg.Fml Go.Lg.Fld Go.RowKit Go.ChangeShapes Go.WideShapes Go.Joins
set_option maxRecDepth 100000
section
variable {H:Type} {enc:TypeId×Value→H} {w:World}
theorem open_inss_l {fuel:Nat} {lv:List Value} {xx:DataW H×List MemPlace} (h:DataW.trod enc Tryz.prog w 0 (fun _=>true) true fuel 68 lv=some xx):
    ∃ (ad:Option Addr) (cap:Nat) (l:List Ins),lv=[.slice ad l.length cap]∧l.length<9223372036854775808∧InsIn (fun b=>w.heap[b]?) ad l:=by
  obtain ⟨ad,cap,rows,rfl,h1,h2,h3,h4⟩:=open_rows_l (e:=66) (sz:=6) (by kernel_rfl) (by kernel_rfl) (by decide) h
  obtain ⟨l,rfl,h5⟩:=map_of (f:=insV) (q:=smallI) (vs:=rows) (fun u hu=>by
    obtain ⟨hlen,n,x,hx⟩:=h4 u hu
    obtain ⟨y0,y1,y2,y3,n',_,_,g0,g1,g2,g3⟩:=trod_struct4 (t:=66) Tryz.underlying66 hx
    obtain ⟨c0,c1,c2,c3,c4,c5,rfl⟩:∃ c0 c1 c2 c3 c4 c5,u=[c0,c1,c2,c3,c4,c5]:=by
      match u,hlen with
      | [c0,c1,c2,c3,c4,c5],_=>exact ⟨c0,c1,c2,c3,c4,c5,rfl⟩
    obtain ⟨k0,e0,_,wa0⟩:=DataW.trod_int (k:=.i64) (by kernel_rfl) g0
    obtain ⟨k1,e1,_,wa1⟩:=DataW.trod_int (k:=.i64) (by kernel_rfl) g1
    obtain ⟨k2,e2,_,wa2⟩:=DataW.trod_int (k:=.i64) (by kernel_rfl) g2
    obtain ⟨z0,z1,z2,m',_,_,j0,j1,j2⟩:=Deep.trod_struct3 (t:=64) Tryz.underlying64 g3
    obtain ⟨b,e3,_⟩:=DataW.trod_bool (by kernel_rfl) j0
    obtain ⟨x,e4,_,wa4⟩:=DataW.trod_int (k:=.u64) (by kernel_rfl) j1
    obtain ⟨y,e5,_,wa5⟩:=DataW.trod_int (k:=.u64) (by kernel_rfl) j2
    have q0:c0 = .int .i64 k0:=by simpa using (show ([c0,c1,c2,c3,c4,c5].drop 0).take 1=[.int .i64 k0] from e0)
    have q1:c1 = .int .i64 k1:=by simpa using (show ([c0,c1,c2,c3,c4,c5].drop 1).take 1=[.int .i64 k1] from e1)
    have q2:c2 = .int .i64 k2:=by simpa using (show ([c0,c1,c2,c3,c4,c5].drop 2).take 1=[.int .i64 k2] from e2)
    have q3:c3 = .bool b:=by simpa using (show ((([c0,c1,c2,c3,c4,c5].drop 3).take 3).drop 0).take 1=[.bool b] from e3)
    have q4:c4 = .int .u64 x:=by simpa using (show ((([c0,c1,c2,c3,c4,c5].drop 3).take 3).drop 1).take 1=[.int .u64 x] from e4)
    have q5:c5 = .int .u64 y:=by simpa using (show ((([c0,c1,c2,c3,c4,c5].drop 3).take 3).drop 2).take 1=[.int .u64 y] from e5)
    subst q0 q1 q2 q3 q4 q5
    have b0:=bounds_i64 wa0
    have b1:=bounds_i64 wa1
    have b2:=bounds_i64 wa2
    have b4:=bounds_u64 wa4
    have b5:=bounds_u64 wa5
    refine ⟨⟨k0,k1,k2,(b,x*18446744073709551616+y)⟩,?_,by show -9223372036854775808≤k0∧k0<9223372036854775808;omega,by show -9223372036854775808≤k1∧k1<9223372036854775808;omega,by show -9223372036854775808≤k2∧k2<9223372036854775808;omega,by show 0≤x*18446744073709551616+y;omega,by show x*18446744073709551616+y<_;omega⟩
    unfold insV
    show _=[Value.int .i64 k0,.int .i64 k1,.int .i64 k2,.bool b,.int .u64 ((x*18446744073709551616+y)/18446744073709551616),.int .u64 ((x*18446744073709551616+y)%18446744073709551616)]
    rw [show (x*18446744073709551616+y)/18446744073709551616=x by omega,show (x*18446744073709551616+y)%18446744073709551616=y by omega])
  exact ⟨ad,cap,l,by rw [cW],by rw [cW] at h1;unfold maxLen at h2;omega,⟨h3,h5⟩⟩
theorem open_codes_l {fuel:Nat} {lv:List Value} {xx:DataW H×List MemPlace} (h:DataW.trod enc Tryz.prog w 0 (fun _=>true) true fuel 44 lv=some xx):
    ∃ (ad:Option Addr) (cap:Nat) (cs:List (List Ins)),lv=[.slice ad cs.length cap]∧cs.length<9223372036854775808∧CodesIn (fun b=>w.heap[b]?) ad cs∧∀ c∈cs,c.length<9223372036854775808:=by
  obtain ⟨ad,cap,rows,rfl,h1,h2,h3,h4⟩:=open_rows_l (e:=68) (sz:=1) (by kernel_rfl) (by kernel_rfl) (by decide) h
  obtain ⟨ts,rfl,h5⟩:=map_of (f:=fun t:List Ins×Option Addr×Nat=>[Value.slice t.2.1 t.1.length t.2.2]) (q:=fun t=>InsIn (fun b=>w.heap[b]?) t.2.1 t.1∧t.1.length<9223372036854775808) (vs:=rows) (fun u hu=>by
    obtain ⟨hlen,n,x,hx⟩:=h4 u hu
    obtain ⟨vad,vcap,ns,e1,k1,hF⟩:=open_inss_l hx
    exact ⟨(ns,vad,vcap),e1,hF,k1⟩)
  refine ⟨ad,cap,ts.map (·.1),by rw [cW,cW],by rw [cW] at h1 ⊢;unfold maxLen at h2;omega,⟨fun i r hr => ?_⟩,fun r hr => ?_⟩
  · rw [dL] at hr
    cases ht:ts[i]? with
    | none=>rw [ht] at hr;cases hr
    | some t =>
      rw [ht] at hr
      simp only [Option.map_some,Option.some.injEq] at hr
      subst hr
      obtain ⟨blk,off,arr,el,fr,g1,g2,g3,g4⟩:=h3 i _ (by rw [dL,ht];rfl)
      have g5:arr[off+i]? = some (.slice t.2.1 t.1.length t.2.2):=by
        have:=congrArg (fun l:List Value=>l[0]?) g4
        simpa [List.getElem?_take,List.getElem?_drop] using this
      exact ⟨blk,off,arr,el,fr,t.2.1,t.2.2,g1,g2,g3,g5,(h5 t (dD ht)).1⟩
  · obtain ⟨t,ht,rfl⟩:=List.mem_map.1 hr
    exact (h5 t ht).2
theorem open_rules_l {fuel:Nat} {lv:List Value} {xx:DataW H×List MemPlace} (h:DataW.trod enc Tryz.prog w 0 (fun _=>true) true fuel 22 lv=some xx):
    ∃ (ad:Option Addr) (cap:Nat) (rs:List Rl),lv=[.slice ad rs.length cap]∧rs.length<9223372036854775808∧RulesIn (fun b=>w.heap[b]?) ad rs∧sizeB rs:=by
  obtain ⟨ad,cap,rows,rfl,h1,h2,h3,h4⟩:=open_rows_l (e:=46) (sz:=3) (by kernel_rfl) (by kernel_rfl) (by decide) h
  obtain ⟨ts,rfl,h5⟩:=map_of (f:=fun t:Rl×Option Addr×Nat=>[.int .i64 t.1.nw,.int .i64 t.1.old,.slice t.2.1 t.1.ex.length t.2.2]) (q:=fun t=>(CodesIn (fun b=>w.heap[b]?) t.2.1 t.1.ex∧smallR t.1)∧t.1.ex.length<9223372036854775808∧∀ c∈t.1.ex,c.length<9223372036854775808) (vs:=rows) (fun u hu=>by
    obtain ⟨hlen,n,x,hx⟩:=h4 u hu
    obtain ⟨y0,y1,y2,n',_,_,g0,g1,g2⟩:=Deep.trod_struct3 (t:=46) Tryz.underlying46 hx
    obtain ⟨e0',e1',e2',rfl⟩:∃ c0 c1 c2,u=[c0,c1,c2]:=by
      match u,hlen with
      | [c0,c1,c2],_=>exact ⟨c0,c1,c2,rfl⟩
    obtain ⟨k,e0,_,wa0⟩:=DataW.trod_int (k:=.i64) (by kernel_rfl) g0
    obtain ⟨o,e1,_,wa1⟩:=DataW.trod_int (k:=.i64) (by kernel_rfl) g1
    obtain ⟨ead,ecap,cs,e2,hl,hF,hFl⟩:=open_codes_l g2
    have q0:e0' = .int .i64 k:=by simpa using (show ([e0',e1',e2'].drop 0).take 1=[.int .i64 k] from e0)
    have q1:e1' = .int .i64 o:=by simpa using (show ([e0',e1',e2'].drop 1).take 1=[.int .i64 o] from e1)
    have q2:e2' = .slice ead cs.length ecap:=by simpa using (show ([e0',e1',e2'].drop 2).take 1=[.slice ead cs.length ecap] from e2)
    subst q0 q1 q2
    have b0:=bounds_i64 wa0
    have b1:=bounds_i64 wa1
    exact ⟨(⟨k,o,cs⟩,ead,ecap),O,⟨hF,(show -9223372036854775808≤k∧k<9223372036854775808 by omega),(show -9223372036854775808≤o∧o<9223372036854775808 by omega)⟩,hl,hFl⟩)
  refine ⟨ad,cap,ts.map (·.1),by rw [cW,cW],by rw [cW] at h1 ⊢;unfold maxLen at h2;omega,⟨fun i c hc => ?_,fun c hc => ?_⟩,fun c hc => ?_⟩
  · rw [dL] at hc
    cases ht:ts[i]? with
    | none=>rw [ht] at hc;cases hc
    | some t =>
      rw [ht] at hc
      simp only [Option.map_some,Option.some.injEq] at hc
      subst hc
      obtain ⟨blk,off,arr,el,fr,g1,g2,g3,g4⟩:=h3 i _ (by rw [dL,ht];rfl)
      exact ⟨blk,off,arr,el,fr,t.2.1,t.2.2,g1,g2,g3,g4,(h5 t (dD ht)).1.1⟩
  · obtain ⟨t,ht,rfl⟩:=List.mem_map.1 hc
    exact (h5 t ht).1.2
  · obtain ⟨t,ht,rfl⟩:=List.mem_map.1 hc
    exact (h5 t ht).2
theorem cellsPg:Tryz.prog.cellsOf 24=3:=by kernel_rfl
theorem open_prog {r:Reach} {b0:Nat} {v:Value} {d:DataW H} {p:List MemPlace} (hv:Value.okWide Tryz.prog w r b0 24 v) (h:DataW.Trod enc Tryz.prog w 0 (fun _=>true) true 24 v d p):
    ∃ (va vb:Int) (ad:Option Addr) (cap:Nat) (rs:List Rl),v = .agg #[.int .i64 va,.int .i64 vb,.slice ad rs.length cap]∧((-9223372036854775808≤va∧va<9223372036854775808) ∧ -9223372036854775808≤vb∧vb<9223372036854775808)∧rs.length<9223372036854775808∧RulesIn (fun b=>w.heap[b]?) ad rs∧sizeB rs:=by
  obtain ⟨v0,v1,v2,y0,y1,y2,m,rfl,rfl,rfl,hy0,hy1,hy2⟩:=open_agg3 Tryz.underlying24 (by kernel_rfl) cellsPg hv h
  obtain ⟨x,e0,rfl,wa0⟩:=DataW.trod_int (k:=.i64) (by kernel_rfl) hy0
  obtain ⟨y,e1,rfl,wa1⟩:=DataW.trod_int (k:=.i64) (by kernel_rfl) hy1
  obtain ⟨ad,cap,rs,e2,h1,h2,h3⟩:=open_rules_l hy2
  simp at e0 e1 e2
  subst e0 e1 e2
  have b0:=bounds_i64 wa0
  have b1:=bounds_i64 wa1
  exact ⟨x,y,ad,cap,rs,O,by omega,h1,h2,h3⟩
end
end Go.Proofs.YtamplgnbbanamaaGreatDoor
end
