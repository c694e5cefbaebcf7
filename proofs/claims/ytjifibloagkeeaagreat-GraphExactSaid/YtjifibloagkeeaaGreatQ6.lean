/- A piece of a proof over this program: contracts of its functions, and a logic to prove them by. -/
import Derived.Test.YtjifibloagkeeaaGreatQ3
import Derived.Test.YtjifibloagkeeaaGreatQ4
import Derived.Test.YtjifibloagkeeaaGreatQ5
import Derived.Laws.BitsAllLaws
import Derived.Lib.Join
import Derived.Lib.IndexLaws
import Derived.Lib.ItoaLen
section
namespace Go.Proofs.YtjifibloagkeeaaGreat
open Go Go.Lg Go.Lg.Col
set_option maxRecDepth 100000
variable (X:Nat→Option Obj)
theorem h0_of {p z cl:Nat} (i:Nat) (hp:i%16*z=p) (h:p+z≤cl):p<cl∨p=0:=by
  rcases Nat.eq_zero_or_pos z with h0|h0
  · right;rw [← hp,h0,Nat.mul_zero]
  · left;omega
theorem at_B (z q m:Nat) (l:List UInt8) (i:Nat) (nc cl:Nat) (A B:List Value) (r1 r2:Bool) (hz:z≤256) (hi:i<65536) (hA:A.length=i/16) (hin:i/16<nc) (hlen:i%16*z+z≤cl):
    MSpec Tryz.prog X 72 [Lp 1000000,Ln .i64 (i:Nat)] [sB 1000000 z q m (.slc 1000001 0 nc),(1000001,some ⟨142,A.map .val ++ .slc 1000002 0 cl::B.map .val,r1⟩),(1000002,some ⟨5,l.map bc,r2⟩)] (.sv (.one (.slc 1000002 (i%16*z) z)))
      [sB 1000000 z q m (.slc 1000001 0 nc),(1000001,some ⟨142,A.map .val ++ .slc 1000002 0 cl::B.map .val,r1⟩),(1000002,some ⟨5,l.map bc,r2⟩)]:=by
  refine cE Tryz.func72 rfl (by kernel_rfl) rfl rfl (by exact (by repeat' (first|refine bR ?_ ?_|rfl|exact bT|exact bS|exact bU rfl))) rfl rfl ?_
  intro C
  have h1:((i:Nat):Int).tmod 16=((i%16:Nat):Int):=by rw [Int.tmod_eq_emod_of_nonneg (by omega)];omega
  have h16:i%16*z≤15*256:=Nat.mul_le_mul (by omega) hz
  have h2:IntKind.i64.wrap (((i%16:Nat):Int)*(z:Nat))=((i%16*z:Nat):Int):=by rw [← Int.natCast_mul,cF (by omega)]
  have h3:IntKind.i64.wrap (((i:Nat):Int).tdiv 16)=((i/16:Nat):Int):=by rw [quo_i64 (by omega) (by omega)];omega
  have h4:IntKind.i64.wrap (((i%16*z:Nat):Int)+(z:Nat))=((i%16*z+z:Nat):Int):=by rw [cF (by omega)];omega
  have hix:0+Int.toNat ((i/16:Nat):Int)*1=i/16:=by rw [dE];omega
  have hcell:(A.map CV.val ++ .slc 1000002 0 cl::B.map CV.val)[i/16]? = some (.slc 1000002 0 cl):=mid_get (by rw [cV];exact hA)
  have h0:=h0_of (cl:=cl) i rfl hlen
  generalize hp:i%16*z=p at *
  (refine aA<|rgN<|kas O<|aB<|aA<|rgN<|kmv O<|K.rem O O (by decide) h1 dP<|kmv O<|bI O dP<|kfa O O ?_;refine kl1 O O O<|bL O O h2 dP<|kas O<|aB<|aA<|rgD mixed<|kmv O<|bI O dP<|kfa O O ?_;refine kl1 O O O<|kmv O<|K.quo O O (by decide) h3 dP<|K.indexSlc O O (by omega) hix dP ?_;refine kl1 O O hcell<|kmv O<|kmv O<|kmv O<|bI O dP<|kfa O O ?_;refine kl1 O O O<|kad O O h4<|K.cut2Slc (l:=p) (h:=p+z) (off':=p) (len':=z) O O O (by kernel_rfl) (by omega) (by omega) h0 (by omega) (by omega) dP ?_;refine kas O<|aB<|rgA ?_;refine aI ?_)
  exact ⟨[],⟨[_],⟨rfl,trivial⟩,rfl⟩,(by repeat' (first|exact trivial|refine cO ⟨_,rfl,?_⟩ ?_|refine cO ⟨_,rfl⟩ ?_|rfl|exact bV _ _ _ _|exact bW _ _ _ _|exact bX rfl)),rfl,rfl⟩
theorem cNew_ok (size cap:Nat) (hs:size≤256) (h1:1≤cap) (hc:cap≤65536):MSpec Tryz.prog X 56 [Ln .i64 (size:Nat),Ln .i64 (cap:Nat)] [] (Lp 1000001) [cB 1000001 size cap []]:=by
  refine cE Tryz.func56 rfl (by kernel_rfl) rfl rfl (by exact (by repeat' (first|refine bR ?_ ?_|rfl|exact bT|exact bS|exact bU rfl))) rfl rfl ?_
  intro C
  refine LWP.ends ?_
  (refine aA<|rgN<|kas O<|aB<|aA<|aA<|rgN<|kmv O<|klt O O (cL (by omega))<|kmv O<|gmv O O O<|aS O O (cL (by omega)) (dQ O O) ?_;refine kpf O O<|kmv O<|gmv O O O<|bK O O (cL (by omega)) (dQ O O) ?_;refine kpf O O<|kmv O<|gmv O O O<|aS O O (cL (by omega)) (dQ O O) ?_;refine kpf O O<|aB<|aF O ?_;refine aH ?_;refine aA<|rgN<|kmv O<|kmv O<|aT O O (by exact O) (by exact nl4 O O O O O) dP ?_;refine aL O O O dP<|kas O<|aB<|aI ?_)
  refine cA (σ':=⟨[(4,Lp 22)],[sB 22 size cap ([]:List (List UInt8)).length (.val (.slice none 0 0))],joinM X (fun _=>none)⟩) (by rw [joinM_nil];exact Le.of (by exact ⟨rfl,trivial⟩) (by exact ⟨rfl,trivial⟩) (by exact rfl) (by exact rfl) (by repeat' (first|refine bR ?_ ?_|rfl|exact bT|exact bS|exact bU rfl))) ?_
  refine col_shut (cells:=[]) (B:=[]) (OwnedM.nil C X) ⟨Grid.empty _ _ _,Packed.nil ⟨hs,hc⟩⟩ (bZ ?_)
  exact ⟨[(1000001,22)],⟨[_],⟨rfl,trivial⟩,rfl⟩,(by repeat' (first|exact trivial|refine cO ⟨_,rfl,?_⟩ ?_|refine cO ⟨_,rfl⟩ ?_|rfl|exact bV _ _ _ _|exact bW _ _ _ _|exact bX rfl)),rfl,rfl⟩
end Go.Proofs.YtjifibloagkeeaaGreat
end
section
namespace Go.Lg.Col
open Go Go.Lg
def appE (size cap n:Nat) (row:List UInt8):Int:=if row.length≠size then 4 else if cap≤n then 5 else 0
theorem appE_ok {size cap n:Nat} {row:List UInt8} (h:appE size cap n row=0):row.length=size∧n<cap:=by
  unfold appE at h
  split at h
  · omega
  · split at h<;>omega
theorem splice_bc (ch:List UInt8) (p:Nat) (row:List UInt8):splice (ch.map bc) p (row.map bc)=(splice ch p row).map bc:=by unfold splice;simp
end Go.Lg.Col
namespace Go.Proofs.YtjifibloagkeeaaGreat
open Go Go.Lg Go.Lg.Col
set_option maxRecDepth 100000
variable (X:Nat→Option Obj)
set_option maxHeartbeats 3200000 in
theorem cAppend_in (size cap:Nat) (L:List (List UInt8)) (row:List UInt8) (h:row.length=size) (hn:L.length<cap) (h16:L.length%16≠0):
    MSpec Tryz.prog X 47 [Lp 1000000,Ls row] [cB 1000000 size cap L] (Ln .i64 0) [cB 1000000 size cap (L++[row])]:=by
  refine cE Tryz.func47 rfl (by kernel_rfl) rfl rfl (by exact (by repeat' (first|refine bR ?_ ?_|rfl|exact bT|exact bS|exact bU rfl))) rfl rfl ?_
  intro C
  refine LWP.ends (col_open fun H v cells B hO hI => ?_)
  have hnb:=hI.pk.nb
  have hp:L.length/16<B.length:=by omega
  have hfit:=place_fit L.length size
  have hsm:=hI.pk.small
  have hcl:=hI.len
  have hbl:=hI.pk.len_at hp
  have hne:(((row.length:Nat):Int) != (size:Nat))=false:=by rw [bne_eq_false_iff_eq,h]
  have hmul:IntKind.i64.wrap (((B.length:Nat):Int)*16)=((B.length*16:Nat):Int):=by rw [cF (by omega)];omega
  have heq:(((L.length:Nat):Int)==((B.length*16:Nat):Int))=false:=by rw [beq_eq_false_iff_ne];omega
  have hadd:IntKind.i64.wrap (((L.length:Nat):Int)+1)=((L.length+1:Nat):Int):=by rw [cF (by omega)];omega
  have hsub:IntKind.i64.wrap (((L.length+1:Nat):Int)-1)=((L.length:Nat):Int):=by rw [cF (by omega)];omega
  obtain ⟨ad,ccap,hv⟩:=hI.slice
  rw [hv]
  (refine aA<|rgN<|kas O<|aB<|aA<|aG<|aA<|rgN<|kmv O<|K.ptrNil O (by kernel_rfl) (.inl ⟨O,O⟩) dP<|kas O<|aB<|aF O ?_;refine aA<|rgN<|kmv O<|kln O<|kmv O<|bI O dP<|kfa O O ?_;refine kl1 O O O<|kne O O hne<|kas O<|aB<|aF O ?_;refine aA<|rgD mixed<|kmv O<|bI O dP<|kfa O O ?_;refine kl1 O O O<|kmv O<|bI O dP<|kfa O O ?_;refine kl1 O O O<|bD O O (cL (by omega)) dP<|kas O<|aB<|rgA ?_;refine aF O ?_;refine aH ?_;refine aA<|aA<|rgD mixed<|kmv O<|bI O dP<|kfa O O ?_;refine kl1 O O O<|kmv O<|bI O dP<|kfa O O ?_;refine kl1 O O O<|aQ O bY O dP ?_;refine bL O O hmul dP<|keq O O heq<|aB<|rgA ?_;refine aF O ?_;refine aH ?_;refine aA<|rgN<|kmv O<|bI O dP<|kfa O O ?_;refine kl1 O O O<|kad O O hadd<|bI O dP<|kfa O O ?_;refine bG O O O O O (nl4 O O O O O) dP<|aB<|aA ?_)
  refine LWP.le (σ':=⟨[(0,Lp 1000000),(1,Ls row)],[sB 1000000 size cap (L.length+1) (.val (.slice ad B.length ccap))],joinM X H⟩) (Le.of (by exact ⟨O,O,trivial⟩) (by exact ⟨O,trivial⟩) (by exact O) (by exact O) (by repeat' (first|refine bR ?_ ?_|rfl|exact bT|exact bS|exact bU O))) ?_
  rw [← hv]
  refine chunk_open (m:=L.length+1) hO hI hp (fun _=>O) (fun _ _=>O) fun H0 hO0 G _ => ?_
  have hat:=at_B (joinM X H0) size cap (L.length+1) (B.getD (L.length/16) []) L.length cells.length (B.getD (L.length/16) []).length (cells.take (L.length/16)) (cells.drop (L.length/16+1)) true true hsm.1 (by omega) (by rw [cY];omega) (by omega) (by omega)
  have hcp:L.length%16*size+row.length≤((B.getD (L.length/16) []).map bc).length:=by rw [cV,h,hbl];exact hfit
  (refine rgN<|kmv O<|kmv O<|bI O dP<|kfa O O ?_;refine kl1 O O O<|bA O O hsub dP<|bE [(1000000,1000000),(1000001,900001),(1000002,900002)] (.sv (.one (.slc 900002 (L.length%16*size) size))) (oB size cap (L.length+1) (L.length/16) cells (B.getD (L.length/16) [])) (hat) O O (by exact (cO ⟨_,O,O⟩ (cO ⟨_,O,(bX O)⟩ (cO ⟨_,O,(bV _ _ _ _)⟩ trivial)))) (by exact (bR (bR O (bR O (bR O (bR O O)))) (bR (bU O) (bR bT O)))) O O O O (by exact (.box O O (.box O (bX O) (.box O (bV _ _ _ _) .nil)))) dP<|kmv O<|K.copyStr (e:=5) O O O (by kernel_rfl) (by kernel_rfl) (by omega) hcp O (splice_bc _ _ _) dP ?_;refine aB<|aA<|rgN<|kas O<|aB<|aI ?_)
  refine cA (σ':=⟨[(4,Ln .i64 0)],oB size cap (L++[row]).length (L.length/16) cells (splice (B.getD (L.length/16) []) (L.length%16*size) row),joinM X H0⟩) ?_ ?_
  · unfold oB oBr
    rw [splice_len (by rw [hbl,h];exact hfit),cU]
    exact Le.of (by exact ⟨O,trivial⟩) (by exact ⟨O,O,O,trivial⟩) (by exact O) (by exact O) (by repeat' (first|refine bR ?_ ?_|rfl|exact bT|exact bS|exact bU O))
  refine chunk_shut (by omega) hO0 G O O fun H' v' cells' hO' G' => ?_
  refine col_shut hO' ⟨G',hI.pk.push h hn h16⟩ (bZ ?_)
  exact ⟨[],⟨[_],⟨rfl,trivial⟩,rfl⟩,(by repeat' (first|exact trivial|refine cO ⟨_,rfl,?_⟩ ?_|refine cO ⟨_,rfl⟩ ?_|rfl|exact bV _ _ _ _|exact bW _ _ _ _|exact bX rfl)),rfl,rfl⟩
end Go.Proofs.YtjifibloagkeeaaGreat
end
section
namespace Go.Proofs.YtjifibloagkeeaaGreat
open Go Go.Lg Go.Lg.Col
set_option maxRecDepth 100000
abbrev zs0 (z:Nat):List UInt8:=List.replicate (16*z) 0
section
variable {n:Nat} {C:Ctx} {X:Nat→Option Obj} {s:List (Nat×LV)}
theorem new_shut {Mid:St→Prop} {z q:Nat} {L B:List (List UInt8)} {row:List UInt8} {H0:Nat→Option Obj} {cells:List Value} (hO:OwnedM C X H0) (G:Cells H0 5 [] cells (B.map byV)) (pk:Packed z q L B) (hr:row.length=z) (hf:L.length<q) (hn:L.length%16=0)
    (h:Leads n C Mid ⟨[(4,Ln .i64 0)],[cB 1000000 z q (L++[row])],X⟩):
    Leads n C Mid ⟨[(4,Ln .i64 0)],oBr z q (L++[row]).length cells.length (cells++[nilSlc]) (splice (zs0 z) (L.length%16*z) row) false,joinM X H0⟩:=by
  have hcl:cells.length=B.length:=by rw [G.len,cV]
  have hb:B.length=L.length/16:=by rw [pk.nb];omega
  have G2:Cells H0 5 [cells.length] (cells++[nilSlc]) ((B++[zs0 z]).map byV):=by
    rw [dF];exact G.snoc nilSlc (byV (zs0 z))
  refine chunk_shut (by rw [cU];exact Nat.lt_succ_self _) hO G2 rfl rfl fun H' v' cells' hO' G' => ?_
  have hw:(B++[zs0 z]).set cells.length (splice (zs0 z) (L.length%16*z) row)=wr (B++[zs0 z]) z L.length row:=by
    unfold wr
    rw [hcl,hb]
    congr 2
    rw [← hb,List.getD_eq_getElem?_getD,List.getElem?_append_right (dL _),Nat.sub_self];rfl
  rw [hw] at G'
  exact col_shut hO' ⟨G',pk.push_new hr hf hn⟩ h
end
variable (X:Nat→Option Obj)
set_option maxHeartbeats 6400000 in
theorem cAppend_new (size cap:Nat) (L:List (List UInt8)) (row:List UInt8) (h:row.length=size) (hn:L.length<cap) (h16:L.length%16=0):
    MSpec Tryz.prog X 47 [Lp 1000000,Ls row] [cB 1000000 size cap L] (Ln .i64 0) [cB 1000000 size cap (L++[row])]:=by
  refine cE Tryz.func47 rfl (by kernel_rfl) rfl rfl (by exact (by repeat' (first|refine bR ?_ ?_|rfl|exact bT|exact bS|exact bU rfl))) rfl rfl ?_
  intro C
  refine LWP.ends (col_open fun H v cells B hO hI => ?_)
  have hnb:=hI.pk.nb
  have hfit:=place_fit L.length size
  have hsm:=hI.pk.small
  have hcl:=hI.len
  have hne:(((row.length:Nat):Int) != (size:Nat))=false:=by rw [bne_eq_false_iff_eq,h]
  have hmul:IntKind.i64.wrap (((B.length:Nat):Int)*16)=((B.length*16:Nat):Int):=by rw [cF (by omega)];omega
  have heq:(((L.length:Nat):Int)==((B.length*16:Nat):Int))=true:=by rw [beq_iff_eq];omega
  have hadd:IntKind.i64.wrap (((L.length:Nat):Int)+1)=((L.length+1:Nat):Int):=by rw [cF (by omega)];omega
  have hsub:IntKind.i64.wrap (((L.length+1:Nat):Int)-1)=((L.length:Nat):Int):=by rw [cF (by omega)];omega
  have hmz:IntKind.i64.wrap (((size:Nat):Int)*16)=((16*size:Nat):Int):=by rw [cF (by omega)];omega
  have hmk:slcBuild Tryz.prog 142 (16*size)=some (List.replicate (16*size) (.int .u8 0),1,5):=slcBuild_one (by kernel_rfl) (by kernel_rfl) (by omega)
  have hz0:(List.replicate (16*size) (Value.int .u8 0)).map CV.val=(zs0 size).map bc:=by unfold zs0;rw [List.map_replicate,List.map_replicate];rfl
  have hzl:(zs0 size).length=16*size:=dC
  have hspl:(splice (zs0 size) (L.length%16*size) row).length=16*size:=by rw [splice_len (by rw [hzl,h];exact hfit),hzl]
  have hcp:L.length%16*size+row.length≤((zs0 size).map bc).length:=by rw [cV,h,hzl];exact hfit
  obtain ⟨ad,ccap,hv⟩:=hI.slice
  rw [hv]
  (refine aA<|rgN<|kas O<|aB<|aA<|aG<|aA<|rgN<|kmv O<|K.ptrNil O (by kernel_rfl) (.inl ⟨O,O⟩) dP<|kas O<|aB<|aF O ?_;refine aA<|rgN<|kmv O<|kln O<|kmv O<|bI O dP<|kfa O O ?_;refine kl1 O O O<|kne O O hne<|kas O<|aB<|aF O ?_;refine aA<|rgD mixed<|kmv O<|bI O dP<|kfa O O ?_;refine kl1 O O O<|kmv O<|bI O dP<|kfa O O ?_;refine kl1 O O O<|bD O O (cL (by omega)) dP<|kas O<|aB<|rgA ?_;refine aF O ?_;refine aH ?_;refine aA<|aA<|rgD mixed<|kmv O<|bI O dP<|kfa O O ?_;refine kl1 O O O<|kmv O<|bI O dP<|kfa O O ?_;refine kl1 O O O<|aQ O bY O dP ?_;refine bL O O hmul dP<|keq O O heq<|aB<|rgA ?_;refine aE O ?_)
  refine LWP.le (σ':=⟨[(0,Lp 1000000),(1,Ls row)],[sB 1000000 size cap L.length (.val (.slice ad B.length ccap))],joinM X H⟩) (Le.of (by exact ⟨O,O,trivial⟩) (by exact ⟨O,trivial⟩) (by exact O) (by exact O) (by repeat' (first|refine bR ?_ ?_|rfl|exact bT|exact bS|exact bU O))) ?_
  rw [← hv]
  rcases hI.grid with ⟨db,hd,G⟩|⟨rfl,rfl,hB0⟩
  · have hat:=at_B (joinM X (cutM H db)) size cap (L.length+1) (zs0 size) L.length (cells.length+1) (16*size) cells [] true false hsm.1 (by omega) (by omega) (by omega) hfit
    have hcl1:(cells.map CV.val).length=cells.length*1:=by rw [cV,Nat.mul_one]
    refine LWP.openCell (A:=[.val (.int .i64 (size:Nat)),.val (.int .i64 (cap:Nat)),.val (.int .i64 (L.length:Nat))]) (B:=[]) (k:=900001) (sz:=1) (len:=cells.length) hO hd (by omega) (by omega) O O O O O ?_
    (refine rgD mixed<|kmv O<|kmv O<|bI O dP<|kfa O O ?_;refine kl1 O O O<|kmv O<|bI O dP<|kfa O O ?_;refine kl1 O O O<|bL O O hmz dP<|K.makeSlc (m:=16*size) (bytes:=1) O O hmk (by kernel_rfl) (by omega) hz0 O dP<|aZ (zs:=[.slice none 0 0]) (sz:=1) (e:=142) (cs':=[.slc 47 0 (16*size)]) (by kernel_rfl) O O O O O O dP<|bO (by_:=24) (e2:=142) (l2:=[.slc 47 0 (16*size)]) (nl:=cells.length+1) (nc:=cells.map .val++[.slc 47 0 (16*size)]) O O hcl1 O O (dL _) O O (by kernel_rfl) (by kernel_rfl) (by omega) (by omega) O O O dP<|bI O dP<|kfa O O ?_;refine bG O O O O O (nl4 O O O O O) dP<|aB<|rgA ?_;refine aA<|rgN<|kmv O<|bI O dP<|kfa O O ?_;refine kl1 O O O<|kad O O hadd<|bI O dP<|kfa O O ?_;refine bG O O O O O (nl4 O O O O O) dP<|aB<|aA<|rgN<|kmv O<|kmv O<|bI O dP<|kfa O O ?_;refine kl1 O O O<|bA O O hsub dP<|bE [(1000000,1000000),(1000001,49),(1000002,47)] (.sv (.one (.slc 47 (L.length%16*size) size))) [sB 1000000 size cap (L.length+1) (.slc 49 0 (cells.length+1)),(49,some ⟨142,cells.map .val++[.slc 47 0 (16*size)],true⟩),(47,some ⟨5,(zs0 size).map bc,false⟩)] (hat) O O (by exact (cO ⟨_,O,O⟩ (cO ⟨_,O,(bX O)⟩ (cO ⟨_,O,(bV _ _ _ _)⟩ trivial)))) (by exact (bR (bR O (bR O (bR O (bR O O)))) (bR (bU O) (bR bT O)))) O O O O (by exact (.box O O (.box O (bX O) (.box O (bV _ _ _ _) .nil)))) dP<|kmv O<|K.copyStr (e:=5) O O O (by kernel_rfl) (by kernel_rfl) (by omega) hcp O (splice_bc _ _ _) dP ?_;refine aB<|aA<|rgN<|kas O<|aB<|aI ?_)
    refine cA (σ':=⟨[(4,Ln .i64 0)],oBr size cap (L++[row]).length cells.length (cells++[nilSlc]) (splice (zs0 size) (L.length%16*size) row) false,joinM X (cutM H db)⟩) ?_ ?_
    · unfold oBr
      rw [hspl,cU,cU,List.take_left,List.drop_eq_nil_of_le (by rw [cU];exact dL _)]
      exact Le.ofR [(900001,49),(900002,47)] (by exact ⟨rfl,trivial⟩) (by repeat' (first|exact trivial|refine cO ⟨_,rfl,?_⟩ ?_|refine cO ⟨_,rfl⟩ ?_|rfl|exact bV _ _ _ _|exact bW _ _ _ _|exact bX rfl)) (by exact rfl) (by exact rfl) (by repeat' (first|refine bR ?_ ?_|rfl|exact bT|exact bS|exact bU rfl)) (by exact rfl) (by exact rfl)
    refine new_shut (hO.cut db) G hI.pk h hn h16 (bZ ?_)
    exact ⟨[],⟨[_],⟨rfl,trivial⟩,rfl⟩,(by repeat' (first|exact trivial|refine cO ⟨_,rfl,?_⟩ ?_|refine cO ⟨_,rfl⟩ ?_|rfl|exact bV _ _ _ _|exact bW _ _ _ _|exact bX rfl)),rfl,rfl⟩
  · have hB:B=[]:=List.map_eq_nil_iff.1 hB0
    subst hB
    have hat:=at_B (joinM X H) size cap (L.length+1) (zs0 size) L.length 1 (16*size) [] [] true false hsm.1 (by omega) (by rw [dM] at *;omega) (by rw [dM] at *;omega) hfit
    (refine rgD mixed<|kmv O<|kmv O<|bI O dP<|kfa O O ?_;refine kl1 O O O<|kmv O<|bI O dP<|kfa O O ?_;refine kl1 O O O<|bL O O hmz dP<|K.makeSlc (m:=16*size) (bytes:=1) O O hmk (by kernel_rfl) (by omega) hz0 O dP<|aZ (zs:=[.slice none 0 0]) (sz:=1) (e:=142) (cs':=[.slc 47 0 (16*size)]) (by kernel_rfl) O O O O O O dP<|K.appendNil (by_:=24) (e:=142) (e2:=142) (l2:=[.slc 47 0 (16*size)]) O O O (dL _) O O (by decide) (by kernel_rfl) (by kernel_rfl) (by omega) (by omega) O dP ?_;refine bI O dP<|kfa O O ?_;refine bG O O O O O (nl4 O O O O O) dP<|aB<|rgA ?_;refine aA<|rgN<|kmv O<|bI O dP<|kfa O O ?_;refine kl1 O O O<|kad O O hadd<|bI O dP<|kfa O O ?_;refine bG O O O O O (nl4 O O O O O) dP<|aB<|aA<|rgN<|kmv O<|kmv O<|bI O dP<|kfa O O ?_;refine kl1 O O O<|bA O O hsub dP<|bE [(1000000,1000000),(1000001,49),(1000002,47)] (.sv (.one (.slc 47 (L.length%16*size) size))) [sB 1000000 size cap (L.length+1) (.slc 49 0 1),(49,some ⟨142,[.slc 47 0 (16*size)],true⟩),(47,some ⟨5,(zs0 size).map bc,false⟩)] (hat) O O (by exact (cO ⟨_,O,O⟩ (cO ⟨_,O,O⟩ (cO ⟨_,O,(bV _ _ _ _)⟩ trivial)))) (by exact (bR (bR O (bR O (bR O (bR O O)))) (bR (bR O O) (bR bT O)))) O O O O (by exact (.box O O (.box O O (.box O (bV _ _ _ _) .nil)))) dP<|kmv O<|K.copyStr (e:=5) O O O (by kernel_rfl) (by kernel_rfl) (by omega) hcp O (splice_bc _ _ _) dP ?_;refine aB<|aA<|rgN<|kas O<|aB<|aI ?_)
    refine cA (σ':=⟨[(4,Ln .i64 0)],oBr size cap (L++[row]).length ([]:List Value).length ([]++[nilSlc]) (splice (zs0 size) (L.length%16*size) row) false,joinM X H⟩) ?_ ?_
    · unfold oBr
      rw [hspl,cU]
      exact Le.ofR [(900001,49),(900002,47)] (by exact ⟨rfl,trivial⟩) (by repeat' (first|exact trivial|refine cO ⟨_,rfl,?_⟩ ?_|refine cO ⟨_,rfl⟩ ?_|rfl|exact bV _ _ _ _|exact bW _ _ _ _|exact bX rfl)) (by exact rfl) (by exact rfl) (by repeat' (first|refine bR ?_ ?_|rfl|exact bT|exact bS|exact bU rfl)) (by exact rfl) (by exact rfl)
    refine new_shut (B:=[]) hO (Cells.nil H 5 []) hI.pk h hn h16 (bZ ?_)
    exact ⟨[],⟨[_],⟨rfl,trivial⟩,rfl⟩,(by repeat' (first|exact trivial|refine cO ⟨_,rfl,?_⟩ ?_|refine cO ⟨_,rfl⟩ ?_|rfl|exact bV _ _ _ _|exact bW _ _ _ _|exact bX rfl)),rfl,rfl⟩
theorem cAppend_ok (size cap:Nat) (L:List (List UInt8)) (row:List UInt8) (h:appE size cap L.length row=0):
    MSpec Tryz.prog X 47 [Lp 1000000,Ls row] [cB 1000000 size cap L] (Ln .i64 0) [cB 1000000 size cap (L++[row])]:=by
  obtain ⟨h1,h2⟩:=appE_ok h
  by_cases h16:L.length%16=0
  · exact cAppend_new X size cap L row h1 h2 h16
  · exact cAppend_in X size cap L row h1 h2 h16
end Go.Proofs.YtjifibloagkeeaaGreat
end
section
namespace Go.Lg.Col
open Go Go.Lg
theorem joinM_keeps {C:Ctx} {Y H:Nat→Option Obj} (hO:OwnedM C Y H) {b:Nat} {o:Obj} (h:Y b=some o):joinM Y H b=some o:=by
  cases hb:H b with
  | none=>rw [joinM_out hb];exact h
  | some o'=>have:=(hO.own b o' hb).2.2;rw [this] at h;cases h
theorem fill_put {α:Type} {l:List α} {m i:Nat} {z x:α} (hl:l.length=i) (hi:i<m):(l++List.replicate (m-i) z).set i x=l++x::List.replicate (m-(i+1)) z:=by
  rw [List.set_append_right _ _ (by omega),hl,Nat.sub_self,show m-i=(m-(i+1))+1 by omega,List.replicate_succ];rfl
end Go.Lg.Col
namespace Go.Proofs.YtjifibloagkeeaaGreat
open Go Go.Lg Go.Lg.Col
set_option maxRecDepth 100000
variable (X:Nat→Option Obj)
theorem copy_spec {b len cap:Nat} {arr:Array Value} {fr:Nat×Nat} {ch:List UInt8} {sp:List Value} (hX:X b=some (.cells arr 5 fr)) (ha:arr.toList=byV ch++sp) (hl:ch.length=len) (hb:len≤65536):
    MSpec Tryz.prog X 89 [.sv (.one (.val (.slice (some ⟨b,0,none⟩) len cap)))] [] (.sv (.one (.slc 1000001 0 len))) [(1000001,some ⟨5,ch.map bc,true⟩)]:=by
  refine cE Tryz.func89 rfl (by kernel_rfl) rfl rfl (by exact (by repeat' (first|refine bR ?_ ?_|rfl|exact bT|exact bS|exact bU rfl))) rfl rfl ?_
  intro C
  have hin:OneIn X (some ⟨b,0,none⟩) (byV ch):=one_in hX ⟨sp,ha⟩
  have hnl:(byV ch).length=len*1:=by rw [byV_len];omega
  have hone:∀ u∈byV ch,u.oneCell'=true:=fun u hu=>by
    obtain ⟨c,_,rfl⟩:=List.mem_map.1 hu
    rfl
  (refine aA<|rgN<|kas O<|aB<|aA<|aA<|rgN<|kmv O<|K.slcNil (r:=false) O bY (.inl ⟨O,O⟩) dP ?_;refine aB<|aF O ?_;refine aH ?_;refine aA<|rgN<|aZ (zs:=[]) (sz:=1) (e:=5) (by kernel_rfl) O O O O O O dP<|kmv O<|K.appendX (by_:=1) (e2:=5) (news:=byV ch) (nl:=len) (nc:=ch.map bc) O O O O ⟨hin⟩ hnl hone (by kernel_rfl) (by kernel_rfl) (by omega) (by omega) O (by omega) (by rw [byV_bc];rfl) dP ?_;refine kas O<|aB<|aI ?_)
  exact ⟨[(1000001,7)],⟨[_],⟨rfl,trivial⟩,rfl⟩,(by repeat' (first|exact trivial|refine cO ⟨_,rfl,?_⟩ ?_|refine cO ⟨_,rfl⟩ ?_|rfl|exact bV _ _ _ _|exact bW _ _ _ _|exact bX rfl)),rfl,rfl⟩
end Go.Proofs.YtjifibloagkeeaaGreat
end
section
namespace Go.Proofs.YtjifibloagkeeaaGreat
open Go Go.Lg Go.Lg.Col
set_option maxRecDepth 100000
abbrev nilsV (k:Nat):List Value:=List.replicate k nilSlc
abbrev clSt (z q n nb i:Nat) (v:Value) (cells2:List Value) (Y:Nat→Option Obj):St:=
  ⟨[(0,Lp 1000000),(3,Lp 3),(21,.sv (.one (.val v))),(22,Ln .i64 (nb:Nat)),(23,Ln .i64 (i:Nat))],[(16,some ⟨142,(cells2++nilsV (nb-i)).map .val,false⟩),sB 3 z q n (.slc 16 0 nb),sB 1000000 z q n (.val v)],Y⟩
variable (X:Nat→Option Obj)
set_option maxHeartbeats 6400000 in
theorem cClone_spec (size cap:Nat) (L:List (List UInt8)):MSpec Tryz.prog X 63 [Lp 1000000] [cB 1000000 size cap L] (Lp 1000001) [cB 1000000 size cap L,cB 1000001 size cap L]:=by
  refine cE Tryz.func63 rfl (by kernel_rfl) rfl rfl (by exact (by repeat' (first|refine bR ?_ ?_|rfl|exact bT|exact bS|exact bU rfl))) rfl rfl ?_
  intro C
  refine LWP.ends (col_open fun H v cells B hO hI => ?_)
  have hnb:=hI.pk.nb
  have hsm:=hI.pk.small
  have hq:=hI.pk.fit
  have hmk:slcBuild Tryz.prog 150 B.length=some (nilsV B.length,1,142):=slcBuild_one (by kernel_rfl) (by kernel_rfl) (by omega)
  obtain ⟨ad,ccap,hv⟩:=hI.slice
  rw [hv]
  (refine aA<|rgN<|kas O<|aB<|aA<|aA<|rgN<|kmv O<|K.ptrNil O (by kernel_rfl) (.inl ⟨O,O⟩) dP<|aB<|aF O ?_;refine aH ?_;refine aA<|rgN<|kmv O<|bI O dP<|aK O O O dP ?_;refine aP O dP ?_;refine aM O O O O O O dP ?_;refine aB<|aA<|rgN<|kmv O<|bI O dP<|kfa O O ?_;refine kl1 O O O<|aQ O bY O dP ?_;refine K.makeSlc (m:=B.length) (bytes:=24) O O hmk (by kernel_rfl) (by omega) O O dP<|kfa O O ?_;refine bG O O O O O (nl4 O O O O O) dP<|aB<|aA<|aA<|rgN<|kmv O<|bI O dP<|kfa O O ?_;refine kl1 O O O<|aQ O bY O dP ?_;refine kmv O<|aB<|aG ?_)
  rw [← hv]
  refine cJ (fun m σ=>∃ (i:Nat) (cells2:List Value) (H2:Nat→Option Obj),i≤B.length∧m=B.length-i∧OwnedM C (joinM X H) H2∧Cells H2 5 [] cells2 ((B.take i).map byV)∧σ=clSt size cap L.length B.length i v cells2 (joinM (joinM X H) H2)) B.length
    (cA (σ':=clSt size cap L.length B.length 0 v [] (joinM X H)) ?_ (bZ ⟨0,[],fun _=>none,by omega,by omega,OwnedM.nil _ _,Cells.nil _ _ _,rfl⟩)) ?_
  · exact Le.of (by exact ⟨rfl,rfl,rfl,rfl,rfl,trivial⟩) (by exact ⟨rfl,rfl,rfl,trivial⟩) (by exact rfl) (by exact rfl) (by repeat' (first|refine bR ?_ ?_|rfl|exact bT|exact bS|exact bU rfl))
  rintro m σ ⟨i,cells2,H2,hi,rfl,hO2,G2,rfl⟩
  have hc2:cells2.length=i:=by rw [G2.len,cV,cY];omega
  by_cases hlt:i<B.length
  · obtain ⟨db,ccap',arr,fr,b,cap2,arr2,fr2,sp,hv',h1,h2,h3,h4,h5⟩:=hI.place hlt
    have hbl:=hI.pk.len_at hlt
    have hX1:=joinM_keeps hO2 (joinM_in (X:=X) h1)
    have hX2:=joinM_keeps hO2 (joinM_in (X:=X) h4)
    have hcp:=copy_spec (joinM (joinM X H) H2) (cap:=cap2) hX2 h5 hbl (by omega)
    have hix:0+Int.toNat ((i:Nat):Int)*1=i:=by rw [dE];omega
    have hblt:Nat.blt i ((cells2++nilsV (B.length-i)).map CV.val).length=true:=by rw [Nat.blt_eq,cV,cU,dC];omega
    have hput:((cells2++nilsV (B.length-i)).map CV.val).set i (.slc 32 0 (16*size))=cells2.map .val ++ .slc 32 0 (16*size)::(nilsV (B.length-(i+1))).map .val:=by
      rw [dF,List.map_replicate,List.map_replicate]
      exact fill_put (by rw [cV];exact hc2) hlt
    rw [hv']
    (refine aA<|rgN<|klt O O (cN (by omega))<|aB<|aA<|aE O ?_;refine aH ?_;refine aA<|aG<|aA<|rgN<|kmv O<|aR O O bY (by omega) hix dP<|aW O hX1 O h2 dP<|kas O<|kas O<|aB<|rgD mixed<|kfa O O ?_;refine kl1 O O O<|kmv O<|kmv O<|bE [(1000001,32)] (.sv (.one (.slc 32 0 (16*size)))) [(32,some ⟨5,(B.getD i []).map bc,true⟩)] (hcp) O O (by exact trivial) O O O O O (by exact (.box O (bV _ _ _ _) .nil)) dP<|K.indexSlc O O (by omega) hix dP ?_;refine bG O O O O hblt hput dP<|aB<|rgA ?_;refine rgN<|kad O O (cF (by omega))<|kmv O<|aB ?_)
    refine cA (σ':=⟨[(0,Lp 1000000),(3,Lp 3),(21,.sv (.one (.val v))),(22,Ln .i64 (B.length:Nat)),(23,Ln .i64 (i+1:Nat))],[(16,some ⟨142,cells2.map .val ++ .slc 32 0 (16*size)::(nilsV (B.length-(i+1))).map .val,false⟩),(32,some ⟨5,(byV (B.getD i [])).map .val,true⟩),sB 3 size cap L.length (.slc 16 0 B.length),sB 1000000 size cap L.length (.val v)],joinM (joinM X H) H2⟩) ?_ ?_
    · rw [hv',byV_bc]
      exact Le.of (by exact ⟨O,O,O,O,O,trivial⟩) (by exact ⟨O,O,O,O,trivial⟩) (by exact O) (by exact O) (by repeat' (first|refine bR ?_ ?_|rfl|exact bT|exact bS|exact bU O))
    refine Leads.closeCell hO2 (by rw [byV_len,hbl];omega) rfl bS bS rfl rfl rfl fun b1 o1 v1 g1 _ hO3 hv1=>bZ ⟨B.length-(i+1),by omega,i+1,cells2++[v1],withBlock H2 b1 o1,by omega,rfl,hO3,?_,?_⟩
    · have G3:=(G2.snoc nilSlc []).shutAt (by rw [cU];simp) g1 hv1
      have e1:(cells2++[nilSlc]).set cells2.length v1=cells2++[v1]:=by rw [List.set_append_right _ _ (dL _),Nat.sub_self];rfl
      have e2:((B.take i).map byV++[([]:List Value)]).set cells2.length (byV (B.getD i []))=(B.take (i+1)).map byV:=by
        rw [G2.len,List.set_append_right _ _ (dL _),Nat.sub_self,snoc (getD_at (d:=[]) hlt),dF];rfl
      rw [e1,e2] at G3
      exact G3
    · unfold clSt
      rw [← hv',dK,dF];rfl
  · have e:i=B.length:=by omega
    subst e
    (refine aA<|rgN<|klt O O (cL (by omega))<|aB<|aA<|aF O ?_;refine aJ<|aA<|rgN<|kas O<|aB<|aI ?_)
    refine cA (σ':=⟨[(2,Lp 3)],[(3,some ⟨152,[.val (.int .i64 (size:Nat)),.val (.int .i64 (cap:Nat)),.val (.int .i64 (L.length:Nat))] ++ .slc 16 0 cells2.length::[],false⟩),(16,some ⟨142,cells2.map .val,false⟩),sB 1000000 size cap L.length (.val v)],joinM (joinM X H) H2⟩) ?_ ?_
    · rw [Nat.sub_self,show nilsV 0=[] from rfl,dH,hc2]
      exact Le.of (by exact ⟨O,trivial⟩) (by exact ⟨O,O,O,trivial⟩) (by exact O) (by exact O) (by repeat' (first|refine bR ?_ ?_|rfl|exact bT|exact bS|exact bU O))
    refine Leads.closeCell hO2 (by omega) O O O O O O fun d1 o2 v2 g1 _ hO4 hv2 => ?_
    rw [dD] at G2
    refine col_shut hO4 (cells:=cells2) (B:=B) ⟨Grid.shut G2 g1 hv2,hI.pk⟩ ?_
    refine cA (σ':=⟨[(2,Lp 3)],[sB 1000000 size cap L.length (.val v),cB 3 size cap L],joinM X H⟩) ?_ ?_
    · exact Le.same ⟨fun _=>rfl,fun j=>look_swap rfl,rfl⟩
    refine col_shut hO hI (bZ ?_)
    exact ⟨[(1000001,3)],⟨[_],⟨rfl,trivial⟩,rfl⟩,(by repeat' (first|exact trivial|refine cO ⟨_,rfl,?_⟩ ?_|refine cO ⟨_,rfl⟩ ?_|rfl|exact bV _ _ _ _|exact bW _ _ _ _|exact bX rfl)),rfl,rfl⟩
end Go.Proofs.YtjifibloagkeeaaGreat
end
section
namespace Go.Lg.Sg
open Go Go.Lg
def digS (n:Int) (c:UInt8):Option Int:=if c.toNat<48∨57<c.toNat∨n=0∨99<n∨(n<0∧c.toNat=48) then none else some ((if n<0 then 0 else n)*10+((c.toNat:Int)-48))
def sepS (q:List Int×Int):Option (List Int×Int):=if q.2<1∨24<q.2∨(q.1.getLast?.any fun y=>decide (q.2≤y))=true then none else some (q.1++[q.2],-1)
def chS (q:List Int×Int) (c:UInt8):Option (List Int×Int):=if c=43 then sepS q else (digS q.2 c).map fun n=>(q.1,n)
def runS (q:List Int×Int) (s:List UInt8):Option (List Int×Int):=s.foldlM chS q
def parseA (s:List UInt8):Option Nat:=if s=[45] then some 0 else ((runS ([],-1) s).bind sepS).map fun q=>ofN q.1
def rising (l:List Int):Prop:=l.Pairwise (fun x y=>x<y)
theorem idsTo_rising (a n:Nat):rising (idsTo a n):=by
  unfold rising idsTo
  rw [List.pairwise_map]
  refine List.Pairwise.imp (fun {x y} (h:x<y)=>by omega) (List.Pairwise.filter _ List.pairwise_lt_range)
theorem ids_ofN {l:List Int} (h:∀ x∈l,okJ x=true) (hr:rising l):idsL (ofN l)=l:=by
  refine Fld.sorted_eq (fun x:Int=>x) (idsTo_rising _ _) hr fun x => ?_
  unfold idsL
  rw [mem_ids]
  constructor
  · rintro ⟨h1,h2,h3⟩
    rw [ofN_bit,List.any_eq_true] at h3
    obtain ⟨y,hy,e⟩:=h3
    have:=okI_iff.1 (h y hy)
    have:=beq_iff_eq.1 e
    rw [show x=y by omega]
    exact hy
  · intro hx
    have:=okI_iff.1 (h x hx)
    exact ⟨this.1,this.2,by rw [ofN_bit,List.any_eq_true];exact ⟨x,hx,cS rfl⟩⟩
theorem isB_ext {a b:Nat} (ha:isB a=true) (hb:isB b=true) (ha2:a<4294967296) (hb2:b<4294967296) (h:idsL a=idsL b):a=b:=by
  rw [isB_iff] at ha hb
  refine Nat.eq_of_testBit_eq fun i => ?_
  by_cases hi:i<32
  · have key:∀ {p q:Nat},(∀ i,i<32→p.testBit i=true→1≤i∧i≤24)→idsL p=idsL q→p.testBit i=true→q.testBit i=true:=fun {p q} hp e ht=>by
      obtain ⟨h1,h2⟩:=hp i hi ht
      have hm:(i:Int)∈idsL p:=mem_ids.2 ⟨by omega,by omega,ht⟩
      rw [e] at hm
      exact (mem_ids.1 hm).2.2
    cases h1:a.testBit i with
    | true=>exact (key ha h h1).symm
    | false =>
      cases h2:b.testBit i with
      | false=>rfl
      | true=>rw [key hb h.symm h2] at h1;cases h1
  · have big:∀ {p:Nat},p<4294967296→p.testBit i=false:=fun {p} hp=>Nat.testBit_lt_two_pow (Nat.lt_of_lt_of_le hp (show 2^32≤2^i from Nat.pow_le_pow_right (by decide) (by omega)))
    rw [big ha2,big hb2]
theorem idsL_ok {a:Nat}:∀ x∈idsL a,1≤x∧x≤24:=fun x hx=>by
  obtain ⟨h1,h2,_⟩:=mem_ids.1 hx
  exact ⟨h1,by omega⟩
theorem ofN_ids {a:Nat} (h:isB a=true) (h2:a<4294967296):ofN (idsL a)=a:=by
  have hok:∀ x∈idsL a,okJ x=true:=fun x hx=>okI_iff.2 (idsL_ok x hx)
  exact isB_ext (ofN_isB hok) h (by have:=ofN_lt hok;omega) h2 (ids_ofN hok (idsTo_rising a 24))
def preT (ids:List Int):List UInt8:=(txF ids).1++if ids=[] then [] else [43]
def digT (n:Int):List UInt8:=if n<0 then [] else Lib.itoa n
structure Rd (p:List UInt8) (q:List Int×Int):Prop where
  text:p=preT q.1++digT q.2
  ids:∀ y∈q.1,1≤y∧y≤24
  rise:rising q.1
  num:q.2 = -1∨(1≤q.2∧q.2≤999)
end Go.Lg.Sg
end
section
namespace Go.Lg.Sg
open Go Go.Lg
theorem take_cons {α:Type} {l:List α} {i:Nat} {x:α} (h:l[i]? = some x):l=l.take i++x::l.drop (i+1):=by
  obtain ⟨hi,e⟩:=List.getElem?_eq_some_iff.1 h
  rw [← e,← List.drop_eq_getElem_cons hi,List.take_append_drop]
end Go.Lg.Sg
namespace Go.Proofs.YtjifibloagkeeaaGreat
open Go Go.Lg Go.Lg.Fld Go.Lg.Sg
set_option maxRecDepth 100000
variable (X:Nat→Option Obj)
end Go.Proofs.YtjifibloagkeeaaGreat
end
section
namespace Go.Lg.Sg
open Go Go.Lg Go.Lg.Fld
def withN (a:Nat) (id:Int):Nat:=if okJ id=true then a ||| 2^id.toNat else a
def withoutN (a:Nat) (id:Int):Nat:=if hasB a id=true then a ^^^ 2^id.toNat else a
def withinB (a b:Nat):Bool:=(idsL a).all (hasB b)
def twiceTo (l:List Int) (n:Nat):Bool:=(List.range n).any fun k=>match l[k]? with|some x=>(l.take k).any (fun y=>y==x)|none=>false
def ofE (ids:List Int):Int:=if okIds ids=true then 0 else 1
def prE (ids:List Int):Int:=if okIds ids=true then (if twiceTo ids ids.length=true then 7 else 0) else 1
def prN (ids:List Int):Nat:=if prE ids=0 then ofN ids else 0
theorem or_pow {a k:Nat} (h:a.testBit k=false):a ||| 2^k=a+2^k:=by
  have hz:(BitVec.ofNat (a+k+2) a) &&& (BitVec.ofNat (a+k+2) (2^k))=0#(a+k+2):=by
    apply BitVec.eq_of_getLsbD_eq
    intro i hi
    rw [BitVec.getLsbD_and,BitVec.getLsbD_ofNat,BitVec.getLsbD_ofNat,Nat.testBit_two_pow,BitVec.getLsbD_zero]
    by_cases e:k=i
    · rw [← e,h];simp
    · rw [cL e];simp
  have h1:=congrArg BitVec.toNat (BitVec.add_eq_or_of_and_eq_zero _ _ hz)
  have hp:∀ n m:Nat,n≤m→n<2^m:=fun n m h=>Nat.lt_of_lt_of_le Nat.lt_two_pow_self (Nat.pow_le_pow_right (by decide) h)
  have b1:a<2^(a+k):=hp _ _ (by omega)
  have b2:2^k≤2^(a+k):=Nat.pow_le_pow_right (by decide) (by omega)
  have b3:2^(a+k+2)=4*2^(a+k):=by rw [Nat.pow_add];omega
  rw [BitVec.toNat_add,BitVec.toNat_or,BitVec.toNat_ofNat,BitVec.toNat_ofNat,Nat.mod_eq_of_lt (show a<2^(a+k+2) by omega),Nat.mod_eq_of_lt (show 2^k<2^(a+k+2) by omega),Nat.mod_eq_of_lt (by omega)] at h1
  exact h1.symm
theorem xor_pow {a k:Nat} (h:a.testBit k=true):a ^^^ 2^k=a-2^k:=by
  have hb:(a ^^^ 2^k).testBit k=false:=by rw [Nat.testBit_xor,h,Nat.testBit_two_pow_self];rfl
  have h1:=or_pow hb
  have h2:(a ^^^ 2^k) ||| 2^k=a:=by
    apply Nat.eq_of_testBit_eq
    intro i
    rw [Nat.testBit_or,Nat.testBit_xor,Nat.testBit_two_pow]
    by_cases e:k=i
    · rw [← e,h];simp
    · rw [cL e];simp
  rw [h2] at h1
  omega
theorem with_bit {a:Nat} {id:Int} (j:Nat):(withN a id).testBit j=(a.testBit j||(okJ id&&decide (id.toNat=j))):=by
  unfold withN
  by_cases h:okJ id=true
  · rw [if_pos h,Nat.testBit_or,Nat.testBit_two_pow,h,Bool.true_and]
  · rw [if_neg h,show okJ id=false by simpa using h,Bool.false_and,Bool.or_false]
theorem without_bit {a:Nat} {id:Int} (j:Nat):(withoutN a id).testBit j=(a.testBit j && !(okJ id&&decide (id.toNat=j))):=by
  unfold withoutN hasB
  by_cases h:okJ id=true
  · rw [h,Bool.true_and,Bool.true_and]
    by_cases hb:a.testBit id.toNat=true
    · rw [if_pos hb,Nat.testBit_xor,Nat.testBit_two_pow]
      by_cases e:id.toNat=j
      · rw [← e,hb];simp
      · rw [cL e];simp
    · rw [if_neg hb]
      by_cases e:id.toNat=j
      · rw [← e];simp at hb;rw [hb];rfl
      · rw [cL e];simp
  · rw [show okJ id=false by simpa using h];simp
theorem lt32_of_bits {a:Nat} (h:∀ j,32≤j→a.testBit j=false):a<4294967296:=Nat.lt_pow_two_of_testBit (n:=32) _ h
theorem bits32 {a:Nat} (h:a<4294967296) {j:Nat} (hj:32≤j):a.testBit j=false:=Nat.testBit_lt_two_pow (Nat.lt_of_lt_of_le h (show 2^32≤2^j from Nat.pow_le_pow_right (by decide) hj))
theorem with_lt {a:Nat} {id:Int} (h:a<4294967296):withN a id<4294967296:=lt32_of_bits fun j hj=>by
  rw [with_bit,bits32 h hj,Bool.false_or]
  by_cases ho:okJ id=true
  · have:=okI_iff.1 ho
    rw [cL (by omega),Bool.and_false]
  · rw [show okJ id=false by simpa using ho,Bool.false_and]
theorem without_lt {a:Nat} {id:Int} (h:a<4294967296):withoutN a id<4294967296:=lt32_of_bits fun j hj=>by
  rw [without_bit,bits32 h hj,Bool.false_and]
end Go.Lg.Sg
end
section
namespace Go.Lg.Sg
open Go Go.Lg Go.Lg.Fld
def allN:Nat:=33554430
theorem allN_bit (j:Nat):allN.testBit j=(decide (1≤j)&&decide (j≤24)):=by
  by_cases h:j<32
  · have hd:∀ k:Fin 32,allN.testBit k.val=(decide (1≤k.val)&&decide (k.val≤24)):=by decide
    exact hd ⟨j,h⟩
  · rw [Nat.testBit_lt_two_pow (Nat.lt_of_lt_of_le (show allN<2^32 by decide) (Nat.pow_le_pow_right (by decide) (by omega))),cL (show ¬ j≤24 by omega),Bool.and_false]
theorem nz_bit {x:Nat}:x≠0↔∃ j,x.testBit j=true:=by
  constructor
  · intro h
    by_cases he:∃ j,x.testBit j=true
    · exact he
    · refine absurd (Nat.eq_of_testBit_eq fun i => ?_) h
      rw [Nat.zero_testBit]
      cases hb:x.testBit i with
      | false=>rfl
      | true=>exact absurd ⟨i,hb⟩ he
  · rintro ⟨j,hj⟩ rfl
    rw [Nat.zero_testBit] at hj
    cases hj
theorem ne0_is {x:Nat} {b:Bool} (h:b=true↔∃ j,x.testBit j=true):((((x:Nat):Int) != 0))=b:=by
  rw [Bool.eq_iff_iff,bne_iff_ne,h,← nz_bit]
  omega
theorem eq0_is {x:Nat} {b:Bool} (h:b=false↔∃ j,x.testBit j=true):((((x:Nat):Int)==0))=b:=by
  rw [← nz_bit] at h
  by_cases hx:x=0
  · subst hx
    cases b with
    | true=>rfl
    | false=>exact absurd rfl (h.1 rfl)
  · rw [h.2 hx,cP (by omega)]
theorem andN_32 {a b:Nat} (ha:a<4294967296) (hb:b<4294967296):bits .and .u32 ((a:Nat):Int) ((b:Nat):Int)=((a &&& b:Nat):Int):=u32_and_nat _ _ ha hb
theorem orN_32 {a b:Nat} (ha:a<4294967296) (hb:b<4294967296):bits .or .u32 ((a:Nat):Int) ((b:Nat):Int)=((a ||| b:Nat):Int):=u32_or_nat _ _ ha hb
theorem notN_bit (a b i:Nat):(a ^^^ (a &&& b)).testBit i=(a.testBit i && !b.testBit i):=by
  rw [Nat.testBit_xor,Nat.testBit_and]
  cases a.testBit i<;>cases b.testBit i<;>rfl
theorem notN_lt {a b:Nat} (ha:a<4294967296):a ^^^ (a &&& b)<4294967296:=lt32_of_bits fun j hj=>by
  rw [notN_bit,bits32 ha hj,Bool.false_and]
theorem notN_bits {a b:Nat} (ha:a<4294967296):(BitVec.ofNat 32 a &&& ~~~ BitVec.ofNat 32 b).toNat=a ^^^ (a &&& b):=by
  apply Nat.eq_of_testBit_eq
  intro i
  rw [BitVec.testBit_toNat,BitVec.getLsbD_and,BitVec.getLsbD_not,BitVec.getLsbD_ofNat,BitVec.getLsbD_ofNat,notN_bit]
  by_cases hi:i<32
  · simp [hi]
  · have h:=bits32 ha (show 32≤i by omega)
    simp [hi,h]
theorem notN_32 {a b:Nat} (ha:a<4294967296):bits .andNot .u32 ((a:Nat):Int) ((b:Nat):Int)=((a ^^^ (a &&& b):Nat):Int):=by
  have h1:bits .andNot .u32 ((a:Nat):Int) ((b:Nat):Int)=IntKind.u32.wrap (((BitVec.ofNat 32 a &&& ~~~ BitVec.ofNat 32 b).toNat:Nat):Int):=rfl
  rw [h1,notN_bits ha]
  have:=notN_lt (b:=b) ha
  exact wrap_u32 ⟨Int.natCast_nonneg _,by omega⟩
def bitN (id:Int):Nat:=if okJ id=true then 2^id.toNat else 0
theorem bitN_bit (id:Int) (j:Nat):(bitN id).testBit j=(okJ id&&decide (id.toNat=j)):=by
  unfold bitN
  by_cases h:okJ id=true
  · rw [if_pos h,h,Nat.testBit_two_pow,Bool.true_and]
  · rw [if_neg h,show okJ id=false by simpa using h,Nat.zero_testBit,Bool.false_and]
theorem bitN_lt (id:Int):bitN id<4294967296:=lt32_of_bits fun j hj=>by
  rw [bitN_bit]
  by_cases ho:okJ id=true
  · have:=okI_iff.1 ho
    rw [cL (by omega),Bool.and_false]
  · rw [show okJ id=false by simpa using ho,Bool.false_and]
theorem shl_bit {id:Int} (h:okJ id=true):IntKind.u32.wrap (1*2^(min id.toNat IntKind.u32.bits))=((bitN id:Nat):Int):=by
  have hi:=okI_iff.1 h
  have hm:min id.toNat IntKind.u32.bits=id.toNat:=by
    show min id.toNat 32=id.toNat
    omega
  have hb:=bitN_lt id
  have he:bitN id=2^id.toNat:=if_pos h
  rw [he] at hb ⊢
  rw [hm,Int.one_mul,show ((2:Int)^id.toNat)=((2^id.toNat:Nat):Int) by rw [Int.natCast_pow];rfl]
  exact wrap_u32 ⟨Int.natCast_nonneg _,by omega⟩
theorem is_bits {a:Nat} (ha:a<4294967296):((((a ^^^ (a &&& allN):Nat):Int))==0)=isB a:=by
  refine eq0_is ?_
  constructor
  · intro h
    have hn:¬ isB a=true:=by rw [h];decide
    rw [isB_iff] at hn
    simp only [Classical.not_forall] at hn
    obtain ⟨i,hi,hb,hno⟩:=hn
    refine ⟨i,?_⟩
    rw [notN_bit,hb,allN_bit]
    by_cases h1:1≤i
    · rw [cL (show ¬ i≤24 by omega),Bool.and_false];rfl
    · rw [cL h1];rfl
  · rintro ⟨j,hj⟩
    rw [notN_bit,allN_bit,Bool.and_eq_true] at hj
    cases hb:isB a with
    | false=>rfl
    | true =>
      rw [isB_iff] at hb
      have hj32:j<32:=by
        by_cases h:j<32
        · exact h
        · rw [bits32 ha (by omega)] at hj;cases hj.1
      obtain ⟨h1,h2⟩:=hb j hj32 hj.1
      rw [cN h1,cN h2] at hj
      cases hj.2
theorem has_bits (a:Nat) (id:Int):((((a &&& bitN id:Nat):Int)) != 0)=hasB a id:=by
  refine ne0_is ?_
  unfold hasB
  constructor
  · intro h
    rw [Bool.and_eq_true] at h
    exact ⟨id.toNat,by rw [Nat.testBit_and,bitN_bit,h.1,h.2,cN rfl];rfl⟩
  · rintro ⟨j,hj⟩
    rw [Nat.testBit_and,bitN_bit,Bool.and_eq_true,Bool.and_eq_true] at hj
    obtain ⟨h1,h2,h3⟩:=hj
    rw [h2,of_decide_eq_true h3,h1];rfl
theorem with_bits (a:Nat) (id:Int):a ||| bitN id=withN a id:=by
  unfold bitN withN
  by_cases h:okJ id=true
  · rw [if_pos h,if_pos h]
  · rw [if_neg h,if_neg h,Nat.or_zero]
theorem without_bits (a:Nat) (id:Int):a ^^^ (a &&& bitN id)=withoutN a id:=by
  apply Nat.eq_of_testBit_eq
  intro i
  rw [notN_bit,without_bit,bitN_bit]
theorem within_bits (a b:Nat):(((((a &&& allN) ^^^ ((a &&& allN) &&& b):Nat):Int))==0)=withinB a b:=by
  refine eq0_is ?_
  unfold withinB
  rw [List.all_eq_false]
  constructor
  · rintro ⟨x,hx,hn⟩
    obtain ⟨h1,h2,h3⟩:=mem_ids.1 hx
    refine ⟨x.toNat,?_⟩
    have ho:okJ x=true:=okI_iff.2 ⟨h1,by omega⟩
    unfold hasB at hn
    rw [ho,Bool.true_and] at hn
    rw [notN_bit,Nat.testBit_and,allN_bit,h3,cN (show 1≤x.toNat by omega),cN (show x.toNat≤24 by omega),show b.testBit x.toNat=false by simpa using hn]
    rfl
  · rintro ⟨j,hj⟩
    rw [notN_bit,Nat.testBit_and,allN_bit,Bool.and_eq_true,Bool.and_eq_true,Bool.and_eq_true] at hj
    obtain ⟨⟨h1,h2,h3⟩,h4⟩:=hj
    have h2:=of_decide_eq_true h2
    have h3:=of_decide_eq_true h3
    refine ⟨(j:Int),mem_ids.2 ⟨by omega,by omega,h1⟩,?_⟩
    unfold hasB
    rw [show ((j:Int)).toNat=j from rfl]
    cases hb:b.testBit j with
    | false=>rw [Bool.and_false];decide
    | true=>rw [hb] at h4;cases h4
def cntB (x:Nat):Nat:=(List.range 32).countP x.testBit
def pc8 (x:Nat):Nat:=(List.range 8).countP x.testBit
theorem pc8_le (x:Nat):pc8 x≤8:=Nat.le_trans List.countP_le_length (by rw [List.length_range];exact dL _)
theorem countP_range_add (p:Nat→Bool) (a b:Nat):(List.range (a+b)).countP p=(List.range a).countP p+(List.range b).countP (fun j=>p (a+j)):=by
  rw [List.range_add,List.countP_append,List.countP_map]
  rfl
theorem countP_range_congr {p q:Nat→Bool} {n:Nat} (h:∀ j,j<n→p j=q j):(List.range n).countP p=(List.range n).countP q:=
  List.countP_congr fun x hx=>by rw [h x (List.mem_range.1 hx)]
theorem pc8_part (x k:Nat):pc8 (x/2^k%256)=(List.range 8).countP (fun j=>x.testBit (k+j)):=by
  refine countP_range_congr fun j hj => ?_
  rw [show (256:Nat)=2^8 from rfl,Nat.testBit_mod_two_pow,cN hj,Bool.true_and,Nat.testBit_div_two_pow,Nat.add_comm]
theorem cntB_parts {x:Nat} (hx:x<4294967296):pc8 (x/16777216)+pc8 (x/65536%256)+pc8 (x/256%256)+pc8 (x%256)=cntB x:=by
  have h3:=pc8_part x 24
  have h2:=pc8_part x 16
  have h1:=pc8_part x 8
  have h0:=pc8_part x 0
  rw [show x/2^24%256=x/16777216 from Nat.mod_eq_of_lt (by omega)] at h3
  rw [show x/2^0%256=x%256 by rw [Nat.pow_zero,Nat.div_one]] at h0
  rw [h3,show x/65536%256=x/2^16%256 from rfl,h2,show x/256%256=x/2^8%256 from rfl,h1,h0]
  unfold cntB
  rw [show 32=8+(8+(8+8)) from rfl,countP_range_add,countP_range_add,countP_range_add]
  have e0:(List.range 8).countP (fun j=>x.testBit (0+j))=(List.range 8).countP x.testBit:=countP_range_congr fun j _=>by rw [Nat.zero_add]
  have e2:(List.range 8).countP (fun j=>x.testBit (16+j))=(List.range 8).countP (fun j=>x.testBit (8+(8+j))):=countP_range_congr fun j _=>by rw [show 16+j=8+(8+j) by omega]
  have e3:(List.range 8).countP (fun j=>x.testBit (24+j))=(List.range 8).countP (fun j=>x.testBit (8+(8+(8+j)))):=countP_range_congr fun j _=>by rw [show 24+j=8+(8+(8+j)) by omega]
  rw [e0,e2,e3]
  omega
theorem cnt_ids (a:Nat):cntB (a &&& allN)=(idsL a).length:=by
  unfold cntB idsL idsTo
  rw [cV,← List.countP_eq_length_filter,show 32=1+(24+7) from rfl,countP_range_add,countP_range_add]
  have e0:(List.range 1).countP (a &&& allN).testBit=0:=by
    rw [List.countP_eq_zero]
    intro j hj
    have:=List.mem_range.1 hj
    rw [Nat.testBit_and,allN_bit,cL (show ¬ 1≤j by omega)]
    simp
  have e2:(List.range 7).countP (fun j=>(a &&& allN).testBit (1+(24+j)))=0:=by
    rw [List.countP_eq_zero]
    intro j _
    rw [Nat.testBit_and,allN_bit,cL (show ¬ 1+(24+j)≤24 by omega)]
    simp
  have e1:(List.range 24).countP (fun j=>(a &&& allN).testBit (1+j))=(List.range 24).countP (fun j=>a.testBit (j+1)):=countP_range_congr fun j hj=>by
    rw [Nat.testBit_and,allN_bit,cN (show 1≤1+j by omega),cN (show 1+j≤24 by omega),Bool.and_self,Bool.and_true,Nat.add_comm]
  rw [e0,e1,e2]
  omega
theorem ofN_snoc (l:List Int) (x:Int):ofN (l++[x])=ofN l ||| 2^x.toNat:=by
  unfold ofN
  rw [List.foldl_append]
  rfl
theorem with_snoc {l:List Int} {x:Int} (h:okJ x=true):withN (ofN l) x=ofN (l++[x]):=by
  rw [ofN_snoc]
  exact if_pos h
theorem okIds_no {l:List Int} {i:Nat} {x:Int} (hx:l[i]? = some x) (h:okJ x=false):okIds l=false:=by
  unfold okIds
  rw [List.all_eq_false]
  exact ⟨x,dB hx,by rw [h];decide⟩
theorem sub_len:∀ {l1 l2:List Int},l1.Nodup→(∀ x∈l1,x∈l2)→l1.length≤l2.length
  | [],_,_,_=>Nat.zero_le _
  | x::t,l2,hn,hs=>by
    rw [List.nodup_cons] at hn
    have hx:=hs x (List.mem_cons_self ..)
    have h1:t.length≤(l2.erase x).length:=sub_len hn.2 fun y hy=>by
      have hne:y≠x:=fun e=>hn.1 (e▸hy)
      exact (List.mem_erase_of_ne hne).2 (hs y (List.mem_cons_of_mem _ hy))
    have h2:=List.length_erase_of_mem hx
    have h3:=List.length_pos_of_mem hx
    rw [dG]
    omega
theorem idsTo_nodup (a n:Nat):(idsTo a n).Nodup:=(idsTo_rising a n).imp fun {x y} (h:x<y)=>by omega
theorem mem_ofN {l:List Int} (h:okIds l=true) (x:Int):x∈idsL (ofN l)↔x∈l:=by
  have hok:∀ y∈l,okJ y=true:=List.all_eq_true.1 h
  unfold idsL
  rw [mem_ids]
  constructor
  · rintro ⟨h1,h2,h3⟩
    rw [ofN_bit,List.any_eq_true] at h3
    obtain ⟨y,hy,e⟩:=h3
    have:=okI_iff.1 (hok y hy)
    have:=beq_iff_eq.1 e
    rw [show x=y by omega]
    exact hy
  · intro hx
    have:=okI_iff.1 (hok x hx)
    exact ⟨this.1,this.2,by rw [ofN_bit,List.any_eq_true];exact ⟨x,hx,cS rfl⟩⟩
theorem twice_len {l:List Int} (h:okIds l=true):((((idsL (ofN l)).length:Nat):Int) != ((l.length:Nat):Int))=twiceTo l l.length:=by
  have hm:=mem_ofN h
  have h1:(idsL (ofN l)).length≤l.length:=sub_len (idsTo_nodup _ _) fun x hx=>(hm x).1 hx
  cases ht:twiceTo l l.length with
  | true =>
    unfold twiceTo at ht
    rw [List.any_eq_true] at ht
    obtain ⟨k,hk,hc⟩:=ht
    have hk:=List.mem_range.1 hk
    obtain ⟨x,hx⟩:∃ x,l[k]? = some x:=⟨_,cW hk⟩
    rw [hx] at hc
    have hc:((l.take k).any fun y=>y==x)=true:=hc
    rw [List.any_eq_true] at hc
    obtain ⟨y,hy,e⟩:=hc
    have e:=beq_iff_eq.1 e
    subst e
    have hl:l=l.take k++y::l.drop (k+1):=take_cons hx
    have h2:(idsL (ofN l)).length≤(l.take k++l.drop (k+1)).length:=sub_len (idsTo_nodup _ _) fun z hz=>by
      have hz:=(hm z).1 hz
      rw [hl] at hz
      rcases List.mem_append.1 hz with hz|hz
      · exact List.mem_append_left _ hz
      · rcases List.mem_cons.1 hz with rfl|hz
        · exact List.mem_append_left _ hy
        · exact List.mem_append_right _ hz
    rw [cU,cY,cZ] at h2
    rw [bne_iff_ne]
    omega
  | false =>
    have hn:l.Nodup:=by
      unfold List.Nodup
      rw [List.pairwise_iff_getElem]
      intro i j hi hj hij e
      unfold twiceTo at ht
      rw [List.any_eq_false] at ht
      refine ht j (List.mem_range.2 hj) ?_
      rw [cW hj]
      show ((l.take j).any fun y=>y==l[j])=true
      rw [List.any_eq_true]
      exact ⟨l[i],List.mem_iff_getElem?.2 ⟨i,by rw [List.getElem?_take,if_pos hij,cW hi]⟩,cS e⟩
    have h2:l.length≤(idsL (ofN l)).length:=sub_len hn fun x hx=>(hm x).2 hx
    rw [bne_eq_false_iff_eq]
    omega
def Unread (s:List UInt8) (ids:List Int) (l:List UInt8):Prop:=(runS ([],-1) s).bind sepS=(runS (ids,-1) l).bind sepS
def cutM (s:List UInt8):Bool:=decide (0≤Lib.indexByte s 43)
end Go.Lg.Sg
end
section
namespace Go.Lg.Sg
open Go Go.Lg Go.Lg.Fld
theorem okI_eq (id:Int):okJ id=(decide (1≤id)&&decide (id≤24)):=rfl
def popB (i:Nat):UInt8:=UInt8.ofNat (pc8 i)
theorem popB_nat (i:Nat):(popB i).toNat=pc8 i:=by
  unfold popB
  have:=pc8_le i
  rw [UInt8.toNat_ofNat']
  omega
end Go.Lg.Sg
namespace Go.Proofs.YtjifibloagkeeaaGreat
open Go Go.Lg Go.Lg.Fld Go.Lg.Sg
set_option maxRecDepth 100000
variable (X:Nat→Option Obj)
theorem zIsId (id:Int):PSpec Tryz.prog X 99 [Ln .i64 id] (Lb (okJ id)):=by
  refine cD Tryz.func99 rfl (by kernel_rfl) rfl rfl ?_
  intro C
  by_cases h1:1≤id
  · rw [okI_eq,cN h1,Bool.true_and]
    (refine aA<|rgN<|kas O<|aB<|aA<|rgN<|kmv O<|bD O O (cN h1) dP<|kmv O<|gmv O O O<|K.leq O O (r:=decide (id≤24)) O (dQ O O) ?_;refine kpt O O<|kas O<|aB<|aI ?_)
    exact ⟨[_],⟨O,trivial⟩,O⟩
  · rw [okI_eq,cL h1,Bool.false_and]
    (refine aA<|rgN<|kas O<|aB<|aA<|rgN<|kmv O<|bD O O (cL h1) dP<|kmv O<|aC O O O<|aC O O O<|kpf O O<|kas O<|aB ?_;refine aI ?_)
    exact ⟨[_],⟨O,trivial⟩,O⟩
theorem zBit (id:Int):PSpec Tryz.prog X 88 [Ln .i64 id] (Ln .u32 (bitN id:Nat)):=by
  have hI:=zIsId X id
  refine cD Tryz.func88 rfl (by kernel_rfl) rfl rfl ?_
  intro C
  cases h:okJ id with
  | false =>
    have hz:bitN id=0:=if_neg (by rw [h];decide)
    rw [h] at hI
    rw [hz]
    (refine aA<|rgN<|kas O<|aB<|aA<|aA<|rgN<|kmv O<|kca O O (hI)<|aV O O dP<|aB<|aE O ?_;refine aA<|rgN<|kas O<|aB<|aI ?_)
    exact ⟨[_],⟨O,trivial⟩,O⟩
  | true =>
    have hs:=shl_bit h
    have h0:=(okI_iff.1 h).1
    rw [h] at hI
    generalize bitN id=b at *
    (refine aA<|rgN<|kas O<|aB<|aA<|aA<|rgN<|kmv O<|kca O O (hI)<|aV O O dP<|aB<|aF O ?_;refine aH ?_;refine aA<|rgN<|kmv O<|K.shl O O (by omega) hs dP<|kas O<|aB<|aI ?_)
    exact ⟨[_],⟨O,trivial⟩,O⟩
section
variable (a b:Nat) (ha:a<4294967296) (hb:b<4294967296) (id:Int)
include ha
theorem gIs:PSpec Tryz.prog X 79 [Ln .u32 (a:Nat)] (Lb (isB a)):=by
  have h1:=notN_32 (b:=allN) ha
  have h2:=is_bits ha
  refine cD Tryz.func79 rfl (by kernel_rfl) rfl rfl ?_
  intro C
  generalize a ^^^ (a &&& allN)=c at *
  (refine aA<|rgN<|kas O<|aB<|aA<|rgN<|kmv O<|K.bitop (by simp) O O h1 dP<|keq O O h2<|kas O<|aB<|aI ?_)
  exact ⟨[_],⟨O,trivial⟩,O⟩
theorem gHas:PSpec Tryz.prog X 58 [Ln .u32 (a:Nat),Ln .i64 id] (Lb (hasB a id)):=by
  have h1:=andN_32 ha (bitN_lt id)
  have h2:=has_bits a id
  have hB:=zBit X id
  refine cD Tryz.func58 rfl (by kernel_rfl) rfl rfl ?_
  intro C
  generalize a &&& bitN id=c at *
  generalize bitN id=d at *
  (refine aA<|rgN<|kas O<|aB<|aA<|rgN<|kmv O<|kmv O<|kca O O (hB)<|K.bitop (by simp) O O h1 dP<|kne O O h2<|kas O<|aB<|aI ?_)
  exact ⟨[_],⟨O,trivial⟩,O⟩
theorem gWith:PSpec Tryz.prog X 59 [Ln .u32 (a:Nat),Ln .i64 id] (Ln .u32 (withN a id:Nat)):=by
  have h1:=orN_32 ha (bitN_lt id)
  rw [with_bits] at h1
  have hB:=zBit X id
  refine cD Tryz.func59 rfl (by kernel_rfl) rfl rfl ?_
  intro C
  generalize withN a id=c at *
  generalize bitN id=d at *
  (refine aA<|rgN<|kas O<|aB<|aA<|rgN<|kmv O<|kmv O<|kca O O (hB)<|K.bitop (by simp) O O h1 dP<|kas O<|aB<|aI ?_)
  exact ⟨[_],⟨O,trivial⟩,O⟩
theorem gWithout:PSpec Tryz.prog X 60 [Ln .u32 (a:Nat),Ln .i64 id] (Ln .u32 (withoutN a id:Nat)):=by
  have h1:=notN_32 (b:=bitN id) ha
  rw [without_bits] at h1
  have hB:=zBit X id
  refine cD Tryz.func60 rfl (by kernel_rfl) rfl rfl ?_
  intro C
  generalize withoutN a id=c at *
  generalize bitN id=d at *
  (refine aA<|rgN<|kas O<|aB<|aA<|rgN<|kmv O<|kmv O<|kca O O (hB)<|K.bitop (by simp) O O h1 dP<|kas O<|aB<|aI ?_)
  exact ⟨[_],⟨O,trivial⟩,O⟩
theorem gWithin (_:b<4294967296):PSpec Tryz.prog X 80 [Ln .u32 (a:Nat),Ln .u32 (b:Nat)] (Lb (withinB a b)):=by
  have h1:=andN_32 ha (show allN<4294967296 by decide)
  have hm:a &&& allN<4294967296:=Nat.lt_of_le_of_lt Nat.and_le_left ha
  have h2:=notN_32 (b:=b) hm
  have h3:=within_bits a b
  refine cD Tryz.func80 rfl (by kernel_rfl) rfl rfl ?_
  intro C
  generalize (a &&& allN) ^^^ ((a &&& allN) &&& b)=d at *
  generalize a &&& allN=c at *
  (refine aA<|rgN<|kas O<|aB<|aA<|rgN<|kmv O<|K.bitop (by simp) O O h1 dP<|kmv O<|K.bitop (by simp) O O h2 dP<|keq O O h3<|kas O<|aB<|aI ?_)
  exact ⟨[_],⟨O,trivial⟩,O⟩
include hb
end
end Go.Proofs.YtjifibloagkeeaaGreat
end
section
namespace Go.Lg.Sg
open Go Go.Lg Go.Lg.Fld
def popT:ByteArray:=⟨((([0,1,1,2,1,2,2,3,1,2,2,3,2,3,3,4,1,2,2,3,2,3,3,4,2,3,3,4,3,4,4,5,1,2,2,3,2,3,3,4,2,3,3,4,3,4,4,5,2,3,3,4,3,4,4,5,3,4,4,5,4,5,5,6]:List UInt8).append [1,2,2,3,2,3,3,4,2,3,3,4,3,4,4,5,2,3,3,4,3,4,4,5,3,4,4,5,4,5,5,6,2,3,3,4,3,4,4,5,3,4,4,5,4,5,5,6,3,4,4,5,4,5,5,6,4,5,5,6,5,6,6,7]).append (([1,2,2,3,2,3,3,4,2,3,3,4,3,4,4,5,2,3,3,4,3,4,4,5,3,4,4,5,4,5,5,6,2,3,3,4,3,4,4,5,3,4,4,5,4,5,5,6,3,4,4,5,4,5,5,6,4,5,5,6,5,6,6,7]:List UInt8).append [2,3,3,4,3,4,4,5,3,4,4,5,4,5,5,6,3,4,4,5,4,5,5,6,4,5,5,6,5,6,6,7,3,4,4,5,4,5,5,6,4,5,5,6,5,6,6,7,4,5,5,6,5,6,6,7,5,6,6,7,6,7,7,8])).toArray⟩
theorem pop_fin:∀ k:Fin 256,popT[k.val]? = some (popB k.val):=by decide +kernel
theorem pop_at {i:Nat} (h:i<256):popT[(((i:Nat):Int)).toNat]? = some (popB i):=pop_fin ⟨i,h⟩
theorem pop_shr (x k:Nat) (hk:k<32):((x:Nat):Int).fdiv (2^(min (Int.toNat (k:Int)) IntKind.u32.bits))=((x/2^k:Nat):Int):=by
  have hm:min (Int.toNat (k:Int)) IntKind.u32.bits=k:=by
    show min k 32=k
    omega
  rw [hm,Int.fdiv_eq_ediv_of_nonneg _ (by have:=Int.pow_pos (n:=(2:Int)) (m:=k) (by decide);omega),Int.natCast_ediv,Int.natCast_pow]
  rfl
theorem pop_and {m:Nat} (h:m<4294967296):bits .and .u32 ((m:Nat):Int) 255=((m%256:Nat):Int):=by
  rw [show (255:Int)=((255:Nat):Int) from rfl,u32_and_nat _ _ h (by decide)]
  rw [show m &&& 255=m%256 from Nat.and_two_pow_sub_one_eq_mod m 8]
theorem pop_add {i j n:Nat} (h:i+j=n) (hn:n<256):IntKind.u8.wrap (((i:Nat):Int)+((j:Nat):Int))=((n:Nat):Int):=by
  rw [IntKind.wrap_u8]
  omega
end Go.Lg.Sg
namespace Go.Proofs.YtjifibloagkeeaaGreat
open Go Go.Lg Go.Lg.Fld Go.Lg.Sg
set_option maxRecDepth 100000
variable (X:Nat→Option Obj)
set_option maxHeartbeats 1600000 in
theorem zOnes (x:Nat) (hx:x<4294967296):PSpec Tryz.prog X 101 [Ln .u32 (x:Nat)] (Ln .i64 (cntB x:Nat)):=by
  refine cD Tryz.func101 rfl (by kernel_rfl) rfl rfl ?_
  intro C
  have hsum:=cntB_parts hx
  have s3:=pop_shr x 24 (by decide)
  have s2:=pop_shr x 16 (by decide)
  have s1:=pop_shr x 8 (by decide)
  rw [show x/2^24=x/16777216 from rfl] at s3
  rw [show x/2^16=x/65536 from rfl] at s2
  rw [show x/2^8=x/256 from rfl] at s1
  have a2:=pop_and (m:=x/65536) (by omega)
  have a1:=pop_and (m:=x/256) (by omega)
  have a0:=pop_and hx
  have p3:=pop_at (i:=x/16777216) (by omega)
  have p2:=pop_at (i:=x/65536%256) (by omega)
  have p1:=pop_at (i:=x/256%256) (by omega)
  have p0:=pop_at (i:=x%256) (by omega)
  have b3:=popB_nat (x/16777216)
  have b2:=popB_nat (x/65536%256)
  have b1:=popB_nat (x/256%256)
  have b0:=popB_nat (x%256)
  have l3:=pc8_le (x/16777216)
  have l2:=pc8_le (x/65536%256)
  have l1:=pc8_le (x/256%256)
  have l0:=pc8_le (x%256)
  rw [← b3,← b2,← b1,← b0] at hsum
  rw [← b3] at l3
  rw [← b2] at l2
  rw [← b1] at l1
  rw [← b0] at l0
  have d1:=pop_add (i:=(popB (x/16777216)).toNat) (j:=(popB (x/65536%256)).toNat) rfl (by omega)
  have d2:=pop_add (i:=(popB (x/16777216)).toNat+(popB (x/65536%256)).toNat) (j:=(popB (x/256%256)).toNat) rfl (by omega)
  have d3:=pop_add (i:=(popB (x/16777216)).toNat+(popB (x/65536%256)).toNat+(popB (x/256%256)).toNat) (j:=(popB (x%256)).toNat) hsum (by omega)
  have hcv:IntKind.i64.wrap ((cntB x:Nat):Int)=((cntB x:Nat):Int):=cF (by omega)
  generalize cntB x=n at *
  generalize popB (x/16777216)=q3 at *
  generalize popB (x/65536%256)=q2 at *
  generalize popB (x/256%256)=q1 at *
  generalize popB (x%256)=q0 at *
  have i3:(0:Int)≤((x/16777216:Nat):Int):=Int.natCast_nonneg _
  have i2:(0:Int)≤((x/65536%256:Nat):Int):=Int.natCast_nonneg _
  have i1:(0:Int)≤((x/256%256:Nat):Int):=Int.natCast_nonneg _
  have i0:(0:Int)≤((x%256:Nat):Int):=Int.natCast_nonneg _
  (refine aA<|rgN<|kas O<|aB<|aA<|rgD mixed<|kmv O<|bM O O (by decide) s3 dP<|bB O O i3 p3 dP<|kmv O<|bM O O (by decide) s2 dP<|K.bitop (by simp) O O a2 dP<|bB O O i2 p2 dP<|kad O O d1 ?_;refine kmv O<|bM O O (by decide) s1 dP<|K.bitop (by simp) O O a1 dP<|bB O O i1 p1 dP<|kad O O d2<|kmv O<|K.bitop (by simp) O O a0 dP<|bB O O i0 p0 dP<|kad O O d3<|kcv O hcv ?_;refine kas O<|aB<|rgA ?_;refine aI ?_)
  exact ⟨[_],⟨O,trivial⟩,O⟩
theorem gLen (a:Nat) (ha:a<4294967296):PSpec Tryz.prog X 90 [Ln .u32 (a:Nat)] (Ln .i64 ((idsL a).length:Nat)):=by
  have h1:=andN_32 ha (show allN<4294967296 by decide)
  have hm:a &&& allN<4294967296:=Nat.lt_of_le_of_lt Nat.and_le_left ha
  have hO:=zOnes X (a &&& allN) hm
  rw [cnt_ids] at hO
  refine cD Tryz.func90 rfl (by kernel_rfl) rfl rfl ?_
  intro C
  generalize a &&& allN=c at *
  (refine aA<|rgN<|kas O<|aB<|aA<|rgN<|kmv O<|K.bitop (by simp) O O h1 dP<|kca O O (hO)<|kas O<|aB<|aI ?_)
  exact ⟨[_],⟨O,trivial⟩,O⟩
end Go.Proofs.YtjifibloagkeeaaGreat
end
section
namespace Go.Proofs.YtjifibloagkeeaaGreat
open Go Go.Lg Go.Lg.Fld Go.Lg.Sg
set_option maxRecDepth 100000
variable (X:Nat→Option Obj)
set_option maxHeartbeats 1600000 in
theorem gOf (ids:List Int) (ad:Option Addr) (cap:Nat) (hin:NuIn X ad ids) (hbig:ids.length<4611686018427387904):
    PSpec Tryz.prog X 77 [Vn ad ids.length cap] (.tup [Sn .u32 (ofA ids:Nat),Sn .i64 (ofE ids)]):=by
  refine cD Tryz.func77 rfl (by kernel_rfl) rfl rfl ?_
  intro C
  (refine aA<|rgN<|kas O<|kas O<|aB<|aA<|rgN<|kas O<|aB<|aA<|aA<|rgN<|kmv O<|aQ O bY O dP ?_;refine kmv O<|aB<|aG ?_)
  refine cH (fun m σ=>∃ i:Nat,i≤ids.length∧m=ids.length-i∧(∀ id∈ids.take i,okJ id=true)∧σ=⟨[(4,Ln .u32 (ofN (ids.take i):Nat)),(7,Vn ad ids.length cap),(8,Ln .i64 (ids.length:Nat)),(9,Ln .i64 (i:Nat))],[],X⟩) ids.length
    ⟨⟨[(4,Ln .u32 (ofN (ids.take 0):Nat)),(7,Vn ad ids.length cap),(8,Ln .i64 (ids.length:Nat)),(9,Ln .i64 (0:Nat))],[],X⟩,Le.of (by exact ⟨rfl,rfl,rfl,rfl,trivial⟩) (by exact trivial) (by exact rfl) (by exact rfl) (by repeat' (first|refine bR ?_ ?_|rfl|exact bT|exact bS|exact bU rfl)),0,by omega,rfl,fun id h=>by simp at h,rfl⟩ ?_
  rintro m σ ⟨i,hi,rfl,hpre,rfl⟩
  by_cases hlt:i<ids.length
  · obtain ⟨x,hx⟩:∃ x,ids[i]? = some x:=⟨_,cW hlt⟩
    obtain ⟨blk,off,arr,el,fr,rfl,hX,hc⟩:=hin.at hx
    have hio:off+Int.toNat (i:Int)*1=off+i*1:=by simp
    have hI:=zIsId X x
    cases hk:okJ x with
    | false =>
      have hno:=okIds_no hx hk
      rw [show ofA ids=0 by unfold ofA;rw [hno];rfl,show ofE ids=1 by unfold ofE;rw [hno];rfl]
      rw [hk] at hI
      (refine aA<|rgN<|klt O O (cN (by omega))<|aB<|aA<|aE O ?_;refine aH ?_;refine aA<|aG<|aA<|rgN<|aR O O bY (by omega) hio dP<|aW O hX O hc dP<|kas O<|aB<|aA<|aA<|rgN<|kmv O<|kca O O hI<|aV O O dP ?_;refine aB<|aE O ?_;refine aA<|rgN<|kas O<|kas O<|aB<|aI ?_)
      exact ⟨[_,_],⟨O,O,trivial⟩,O⟩
    | true =>
      have hlt32:=ofN_lt hpre
      have hW:=gWith X (ofN (ids.take i)) (by omega) x
      rw [with_snoc hk,← take_snoc hx] at hW
      rw [hk] at hI
      have hadd:IntKind.i64.wrap (((i:Nat):Int)+1)=((i+1:Nat):Int):=by rw [cF (by omega)];omega
      (refine aA<|rgN<|klt O O (cN (by omega))<|aB<|aA<|aE O ?_;refine aH ?_;refine aA<|aG<|aA<|rgN<|aR O O bY (by omega) hio dP<|aW O hX O hc dP<|kas O<|aB<|aA<|aA<|rgN<|kmv O<|kca O O hI<|aV O O dP ?_;refine aB<|aF O ?_;refine aH ?_;refine rgN<|kmv O<|kmv O<|kca O O hW<|kas O<|aB<|rgN<|kad O O hadd<|kmv O<|aB ?_)
      exact ⟨_,⟨[(4,Ln .u32 (ofN (ids.take (i+1)):Nat)),(7,Vn (some ⟨blk,off,none⟩) ids.length cap),(8,Ln .i64 (ids.length:Nat)),(9,Ln .i64 (i+1:Nat))],[],X⟩,by omega,Le.of (by exact ⟨O,O,O,O,trivial⟩) (by exact trivial) (by exact O) (by exact O) (by repeat' (first|refine bR ?_ ?_|rfl|exact bT|exact bS|exact bU O)),i+1,by omega,O,(fun id h=>by
        rw [take_snoc hx] at h
        rcases List.mem_append.1 h with h|h
        · exact hpre id h
        · rw [List.mem_singleton.1 h];exact hk),rfl⟩
  · have e:i=ids.length:=by omega
    subst e
    rw [dD] at hpre ⊢
    have hok:okIds ids=true:=List.all_eq_true.2 hpre
    rw [show ofA ids=ofN ids from if_pos hok,show ofE ids=0 from if_pos hok]
    (refine aA<|rgN<|klt O O (cL (by omega))<|aB<|aA<|aF O ?_;refine aJ<|aA<|rgN<|kmv O<|kas O<|kas O<|aB<|aI ?_)
    exact ⟨[_,_],⟨O,O,trivial⟩,O⟩
theorem of_lent {S:Nat→Option (Option Box)} {l:List Int} {k:Nat} {el:TypeId} {row:Bool} (hbig:l.length<4611686018427387904) (hk:S k=some (some ⟨el,(nuV l).map .val,row⟩)):
    ∀ (Y:Nat→Option Obj) (us:List Value),(∀ b o,X b=some o→Y b=some o)→LentLs S Y [.sv (.one (.slc k 0 l.length))] us→PSpec Tryz.prog Y 77 (us.map toLV) (.tup [Sn .u32 (ofA l:Nat),Sn .i64 (ofE l)]):=by
  intro Y us hY hL
  obtain ⟨u1,us1,rfl,⟨b,blk,cap2,m,hk',rfl,hc,hfit,hB⟩,rfl⟩:=hL
  rw [hk] at hk'
  simp only [Option.some.injEq] at hk'
  subst hk'
  obtain ⟨arr,fr,us',sp,hYb,hsz,harr,hv⟩:=hB
  have:=hv _ rfl
  subst this
  have hN:NuIn Y (some ⟨blk,0,none⟩) l:=by
    have hr:=rows_frozen (X:=Y) (blk:=blk) (arr:=arr) (el:=el) (fr:=fr) (sz:=1) (rows:=l.map fun n=>[Value.int .i64 n]) (fun r hr=>by obtain ⟨x,_,rfl⟩:=List.mem_map.1 hr;rfl) ⟨sp,by rw [nu_flat];exact harr⟩
    have e:withBlock Y blk (.cells arr el fr)=Y:=by
      funext b
      unfold withBlock
      by_cases hb:b=blk
      · rw [if_pos hb,hb,hYb]
      · rw [if_neg hb]
    rw [e] at hr
    exact hr
  exact gOf Y l (some ⟨blk,0,none⟩) cap2 hN hbig
abbrev ppSt (ad:Option Addr) (n cap:Nat) (ids:List Int) (i:Nat) (Y:Nat→Option Obj):St:=
  ⟨[(0,Vn ad n cap),(4,.sv (.one (.slc 500 0 n))),(12,Vn ad n cap),(13,Ln .i64 (n:Nat)),(14,Ln .i64 (i:Nat))],[(500,some ⟨3,(nuV (ids.take i)++List.replicate (n-i) (Value.int .i64 0)).map .val,false⟩)],Y⟩
set_option maxHeartbeats 3200000 in
theorem gParts (ps:List Pt) (ad:Option Addr) (cap:Nat) (hin:PartsIn X ad ps) (hbig:ps.length≤40):
    PSpec Tryz.prog X 65 [Vn ad ps.length cap] (.tup [Sn .u32 (prN (ps.map fun p=>p.comp):Nat),Sn .i64 (prE (ps.map fun p=>p.comp))]):=by
  have hmk:slcBuild Tryz.prog 81 ps.length=some (List.replicate ps.length (.int .i64 0),1,3):=slcBuild_one (by kernel_rfl) (by kernel_rfl) (by omega)
  refine cD Tryz.func65 rfl (by kernel_rfl) rfl rfl ?_
  intro C
  have hil:(ps.map fun p=>p.comp).length=ps.length:=cV _
  have hia:∀ (i:Nat) (p:Pt),ps[i]? = some p→(ps.map fun p=>p.comp)[i]? = some p.comp:=fun i p h=>by rw [dJ,h];rfl
  generalize (ps.map fun p=>p.comp)=ids at *
  (refine aA<|rgN<|kas O<|kas O<|aB<|aA<|rgN<|kmv O<|aQ O bY O dP ?_;refine K.makeSlc (m:=ps.length) (bytes:=8) O O hmk (by kernel_rfl) (by omega) O O dP<|kas O<|aB<|aA<|aA<|rgN<|kmv O<|aQ O bY O dP ?_;refine kmv O<|aB<|aG ?_)
  refine cH (fun m σ=>∃ i:Nat,i≤ps.length∧m=ps.length-i∧σ=ppSt ad ps.length cap ids i X) ps.length
    ⟨ppSt ad ps.length cap ids 0 X,Le.ofR [(500,11)] (by exact ⟨rfl,rfl,rfl,rfl,rfl,trivial⟩) (by repeat' (first|exact trivial|refine cO ⟨_,rfl,?_⟩ ?_|refine cO ⟨_,rfl⟩ ?_|rfl|exact bV _ _ _ _|exact bW _ _ _ _|exact bX rfl)) (by exact rfl) (by exact rfl) (by repeat' (first|refine bR ?_ ?_|rfl|exact bT|exact bS|exact bU rfl)) (by exact rfl) (by exact rfl),0,by omega,by omega,rfl⟩ ?_
  rintro m σ ⟨i,hi,rfl,rfl⟩
  by_cases hlt:i<ps.length
  · obtain ⟨p,hp⟩:∃ p,ps[i]? = some p:=⟨_,cW hlt⟩
    obtain ⟨blk,off,arr,el,fr,vad,vcap,rfl,hX,hsz,hcs,_,_,hN⟩:=hin.get hp
    have hio:off+Int.toNat (i:Int)*2=off+i*2:=by simp
    have hxi:=hia i p hp
    have hpl:(nuV (ids.take i)).length=i:=by unfold nuV;rw [cV,cY];omega
    have hix:0+Int.toNat (i:Int)*1=i:=by rw [dE];omega
    have hroom:i+1≤((nuV (ids.take i)++List.replicate (ps.length-i) (Value.int .i64 0)).map CV.val).length:=by rw [cV,cU,hpl,dC];omega
    have hspl:splice ((nuV (ids.take i)++List.replicate (ps.length-i) (Value.int .i64 0)).map CV.val) i [.val (.int .i64 p.comp)]=(nuV (ids.take (i+1))++List.replicate (ps.length-(i+1)) (Value.int .i64 0)).map CV.val:=by
      rw [take_snoc hxi,show ps.length-i=(ps.length-(i+1))+1 by omega,List.replicate_succ,show nuV (ids.take i++[p.comp])=nuV (ids.take i)++[.int .i64 p.comp] by unfold nuV;simp]
      unfold splice
      simp only [dF,dK]
      have hml:((nuV (ids.take i)).map CV.val).length=i:=by rw [cV,hpl]
      generalize (nuV (ids.take i)).map CV.val=R at *
      rw [← hml,List.take_left,List.drop_length_add_append]
      simp
    have hadd:IntKind.i64.wrap (((i:Nat):Int)+1)=((i+1:Nat):Int):=by rw [cF (by omega)];omega
    (refine aA<|rgN<|klt O O (cN (by omega))<|aB<|aA<|aE O ?_;refine aH ?_;refine aA<|aG<|aA<|rgN<|kmv O<|aR O O bY (by omega) hio dP<|aY O hX (by kernel_rfl) hsz hcs dP<|aP O dP ?_;refine kas O<|aM O O O O O O dP ?_;refine aB<|rgN<|kmv O<|kmv O<|kfa O O ?_;refine kl1 O O O<|K.indexSlc O O (by omega) hix dP ?_;refine K.store O O O O (by kernel_rfl) hroom hspl dP<|aB<|rgN<|kad O O hadd<|kmv O<|aB ?_)
    exact ⟨_,ppSt (some ⟨blk,off,none⟩) ps.length cap ids (i+1) X,by omega,Le.of (by exact ⟨O,O,O,O,O,trivial⟩) (by exact ⟨O,trivial⟩) (by exact O) (by exact O) (by repeat' (first|refine bR ?_ ?_|rfl|exact bT|exact bS|exact bU O)),i+1,by omega,O,O⟩
  · have e:i=ps.length:=by omega
    subst e
    unfold ppSt
    rw [← hil,dD,Nat.sub_self,List.replicate_zero,dH]
    have hO:∀ {S:Nat→Option (Option Box)} {k:Nat} {el:TypeId} {row:Bool},S k=some (some ⟨el,(nuV ids).map .val,row⟩)→∀ (Y:Nat→Option Obj) (us:List Value),(∀ b o,X b=some o→Y b=some o)→LentLs S Y [.sv (.one (.slc k 0 ids.length))] us→PSpec Tryz.prog Y 77 (us.map toLV) (.tup [Sn .u32 (ofA ids:Nat),Sn .i64 (ofE ids)]):=fun hk=>of_lent X (l:=ids) (by omega) hk
    cases hk:okIds ids with
    | false =>
      have hE:ofE ids=1:=by unfold ofE;rw [hk];rfl
      have hA:ofA ids=0:=by unfold ofA;rw [hk];rfl
      rw [hE,hA] at hO
      have hP:prE ids=1:=by unfold prE;rw [hk];rfl
      rw [show prN ids=0 by unfold prN;rw [hP];rfl,hP]
      (refine aA<|rgN<|klt O O (cL (by omega))<|aB<|aA<|aF O ?_;refine aJ<|aA<|rgN<|kmv O<|K.callL [500] O O O (hO O) dP ?_;refine kmv O<|kex O O<|kex O O<|kas O<|kas O<|aB<|aA<|aA<|rgN<|kmv O<|keq O O (r:=false) O<|kmv O<|aC O O O<|aC O O O ?_;refine aC O O O<|aC O O O<|aC O O O<|kpf O O<|aB<|aF O ?_;refine aH ?_;refine aA<|rgN<|kmv O<|kmv O<|kas O<|kas O<|aB<|aI ?_)
      exact ⟨[_,_],⟨O,O,trivial⟩,O⟩
    | true =>
      have hE:ofE ids=0:=if_pos hk
      have hA:ofA ids=ofN ids:=if_pos hk
      rw [hE,hA] at hO
      have hok:∀ id∈ids,okJ id=true:=List.all_eq_true.1 hk
      have hlt:=ofN_lt hok
      have hL:=gLen X (ofN ids) (by omega)
      have hne:=twice_len hk
      cases ht:twiceTo ids ids.length with
      | true =>
        have hP:prE ids=7:=by unfold prE;rw [hk,ht];rfl
        rw [show prN ids=0 by unfold prN;rw [hP];rfl,hP]
        rw [ht] at hne
        generalize (idsL (ofN ids)).length=q at *
        (refine aA<|rgN<|klt O O (cL (by omega))<|aB<|aA<|aF O ?_;refine aJ<|aA<|rgN<|kmv O<|K.callL [500] O O O (hO O) dP ?_;refine kmv O<|kex O O<|kex O O<|kas O<|kas O<|aB<|aA<|aA<|rgN<|kmv O<|keq O O (r:=true) O<|kmv O<|gmv O O O<|gca O O hL O O ?_;refine gmv O O O<|aQ O bY O (dQ O O) ?_;refine aX O O hne (dQ O O) ?_;refine kpt O O<|aB<|aE O ?_;refine aA<|rgN<|kas O<|kas O<|aB<|aI ?_)
        exact ⟨[_,_],⟨O,O,trivial⟩,O⟩
      | false =>
        have hP:prE ids=0:=by unfold prE;rw [hk,ht];rfl
        rw [show prN ids=ofN ids by unfold prN;rw [hP];rfl,hP]
        rw [ht] at hne
        generalize (idsL (ofN ids)).length=q at *
        (refine aA<|rgN<|klt O O (cL (by omega))<|aB<|aA<|aF O ?_;refine aJ<|aA<|rgN<|kmv O<|K.callL [500] O O O (hO O) dP ?_;refine kmv O<|kex O O<|kex O O<|kas O<|kas O<|aB<|aA<|aA<|rgN<|kmv O<|keq O O (r:=true) O<|kmv O<|gmv O O O<|gca O O hL O O ?_;refine gmv O O O<|aQ O bY O (dQ O O) ?_;refine aX O O hne (dQ O O) ?_;refine kpt O O<|aB<|aF O ?_;refine aH ?_;refine aA<|rgN<|kmv O<|kmv O<|kas O<|kas O<|aB<|aI ?_)
        exact ⟨[_,_],⟨O,O,trivial⟩,O⟩
end Go.Proofs.YtjifibloagkeeaaGreat
end
section
namespace Go.Proofs.YtjifibloagkeeaaGreat
open Go Go.Lg Go.Lg.Fld Go.Lg.Sg Go.Lg.Col
set_option maxRecDepth 100000
def onlyC (cs:List Cp) (set:Nat):List Cp:=cs.filter fun c=>hasB set c.id
def valR (r:Rw) (k:Nat):List (Bool×Int):=match r.p[k]? with|some p=>p.val|none=>[]
def colL (l:List Rw) (k:Nat) (c:Cp):List (List UInt8):=l.map fun r=>packB c.fs (valR r k)
def colsG (f:Nat→Cp→List (List UInt8)) (most:Nat) (cs:List Cp):List Rsc:=cs.mapIdx fun k c=>colR (rowSize c.fs) most (f k c)
def colsT (t:Tb):List Rsc:=colsG (colL t.l) t.most (onlyC t.sc.cs t.set)
theorem colsG_at {f:Nat→Cp→List (List UInt8)} {most:Nat} {cs:List Cp} {k:Nat} {c:Cp} (h:cs[k]? = some c):(colsG f most cs)[k]? = some (colR (rowSize c.fs) most (f k c)):=by
  unfold colsG;rw [List.getElem?_mapIdx,h];rfl
theorem colsG_len (f:Nat→Cp→List (List UInt8)) (most:Nat) (cs:List Cp):(colsG f most cs).length=cs.length:=by unfold colsG;rw [List.length_mapIdx]
theorem colsG_set {f g:Nat→Cp→List (List UInt8)} {most:Nat} {cs:List Cp} {k:Nat} {c:Cp} (h:cs[k]? = some c) (hk:∀ j d,j≠k→cs[j]? = some d→g j d=f j d):
    (colsG f most cs).set k (colR (rowSize c.fs) most (g k c))=colsG g most cs:=by
  refine List.ext_getElem? fun j => ?_
  have hlt:=(List.getElem?_eq_some_iff.1 h).1
  by_cases e:j=k
  · subst e
    rw [List.getElem?_set_self (by rw [colsG_len];exact hlt),colsG_at h]
  · rw [List.getElem?_set_ne (fun e'=>e e'.symm)]
    unfold colsG
    rw [List.getElem?_mapIdx,List.getElem?_mapIdx]
    cases hd:cs[j]? with
    | none=>rfl
    | some d=>simp only [Option.map_some];rw [hk j d e hd]
theorem colsG_congr {f g:Nat→Cp→List (List UInt8)} {most:Nat} {cs:List Cp} (h:∀ j d,cs[j]? = some d→g j d=f j d):colsG g most cs=colsG f most cs:=by
  refine List.ext_getElem? fun j => ?_
  unfold colsG
  rw [List.getElem?_mapIdx,List.getElem?_mapIdx]
  cases hd:cs[j]? with
  | none=>rfl
  | some d=>simp only [Option.map_some];rw [h j d hd]
theorem sorted_ext:∀ {a b:List Int},a.Pairwise (· < ·)→b.Pairwise (· < ·)→(∀ x,x∈a↔x∈b)→a=b
  | [],[],_,_,_=>rfl
  | [],y::b,_,_,h=>absurd ((h y).2 (List.mem_cons_self ..)) (by simp)
  | x::a,[],_,_,h=>absurd ((h x).1 (List.mem_cons_self ..)) (by simp)
  | x::a,y::b,ha,hb,h=>by
    obtain ⟨ha1,ha2⟩:=List.pairwise_cons.1 ha
    obtain ⟨hb1,hb2⟩:=List.pairwise_cons.1 hb
    have e:x=y:=by
      rcases List.mem_cons.1 ((h x).1 (List.mem_cons_self ..)) with e|h1
      · exact e
      · rcases List.mem_cons.1 ((h y).2 (List.mem_cons_self ..)) with e|h2
        · exact e.symm
        · have:=hb1 x h1;have:=ha1 y h2;omega
    subst e
    rw [sorted_ext ha2 hb2 fun z => ?_]
    constructor
    · intro hz
      rcases List.mem_cons.1 ((h z).1 (List.mem_cons_of_mem _ hz)) with e|h1
      · have:=ha1 z hz;omega
      · exact h1
    · intro hz
      rcases List.mem_cons.1 ((h z).2 (List.mem_cons_of_mem _ hz)) with e|h1
      · have:=hb1 z hz;omega
      · exact h1
theorem idsL_sorted (a:Nat):(idsL a).Pairwise (· < ·):=by
  unfold idsL idsTo
  rw [List.pairwise_map]
  refine List.Pairwise.imp (R:=fun i j=>i<j) (fun {i j} (h:i<j)=>by omega) (List.Pairwise.filter _ List.pairwise_lt_range)
theorem goodC16 {s:Sc} (h:chkE s=0):Fld.Good s.cs:=by
  unfold chkE at h
  split at h
  · cases h
  · exact good_of h
theorem pair16 {cs:List Cp} (h:Fld.Good cs):cs.Pairwise (fun c d=>c.id<d.id):=by
  rw [List.pairwise_iff_getElem]
  intro i j hi hj hij
  exact (h.two i j _ _ hij (cW hi) (cW hj)).1
theorem lay16 {s:Sc} (h:chkE s=0) {c:Cp} (hc:c∈s.cs):layErr c.fs=0:=by
  obtain ⟨i,hi⟩:=List.mem_iff_getElem?.1 hc
  exact ((goodC16 h).one i c hi).2.2.2.2
theorem only_mem {cs:List Cp} {set:Nat} {c:Cp} (h:c∈onlyC cs set):c∈cs∧hasB set c.id=true:=List.mem_filter.1 h
theorem only_ids {s:Sc} {set:Nat} (h:chkE s=0) (hh:∀ id∈idsL set,hasC s.cs id=true):(onlyC s.cs set).map Cp.id=idsL set:=by
  refine sorted_ext ?_ (idsL_sorted set) fun x => ?_
  · rw [List.pairwise_map]
    exact (pair16 (goodC16 h)).filter _
  · have hx:x∈idsL set↔hasB set x=true:=by
      rw [← any_ids,List.any_eq_true]
      exact ⟨fun h=>⟨x,h,cS rfl⟩,fun ⟨y,h1,h2⟩=>by rw [← beq_iff_eq.1 h2];exact h1⟩
    rw [List.mem_map]
    constructor
    · rintro ⟨c,hc,rfl⟩
      exact hx.2 (only_mem hc).2
    · intro hm
      have h1:=hh x hm
      unfold hasC at h1
      rw [List.any_eq_true] at h1
      obtain ⟨c,hc,he⟩:=h1
      rw [beq_iff_eq] at he
      exact ⟨c,List.mem_filter.2 ⟨hc,by rw [he];exact hx.1 hm⟩,he⟩
theorem find_of {cs:List Cp} (h:cs.Pairwise (fun c d=>c.id<d.id)) {c:Cp} (hc:c∈cs):cs.find? (fun d=>d.id==c.id)=some c:=by
  induction cs with
  | nil=>cases hc
  | cons d t ih =>
    obtain ⟨h1,h2⟩:=List.pairwise_cons.1 h
    rcases List.mem_cons.1 hc with e|hm
    · subst e;rw [List.find?_cons,beq_self_eq_true]
    · have:=h1 c hm
      rw [List.find?_cons,show (d.id==c.id)=false by rw [beq_eq_false_iff_ne];omega]
      exact ih h2 hm
section
variable {t:Tb} (hk:TbOk t)
include hk
theorem t_ids:(onlyC t.sc.cs t.set).map Cp.id=idsL t.set:=only_ids hk.sc hk.has
theorem t_len:(onlyC t.sc.cs t.set).length=(idsL t.set).length:=by rw [← t_ids hk,cV]
theorem t_len24:(onlyC t.sc.cs t.set).length≤24:=by rw [t_len hk];exact ids_le _
theorem t_place (comp:Int):findI (fun c=>c.id==comp) (onlyC t.sc.cs t.set)=match placeT t.set comp with|some k=>(k:Nat)|none => -1:=by
  unfold findI placeT
  rw [← t_ids hk,List.findIdx?_map]
  rfl
theorem t_at {comp:Int} {k:Nat} (h:placeT t.set comp=some k):∃ c,(onlyC t.sc.cs t.set)[k]? = some c∧c.id=comp∧fsAt t.sc.cs comp=c.fs∧hasB t.set comp=true:=by
  have h1:=place_at h
  rw [← t_ids hk,dJ] at h1
  obtain ⟨c,hc,he⟩:=Option.map_eq_some_iff.1 h1
  obtain ⟨hm,hb⟩:=only_mem (dB hc)
  refine ⟨c,hc,he,?_,by rw [← he];exact hb⟩
  unfold fsAt
  rw [← he,find_of (pair16 (goodC16 hk.sc)) hm]
omit hk in
theorem t_has (set:Nat) (comp:Int):hasB set comp=(placeT set comp).isSome:=by
  rw [← any_ids]
  unfold placeT
  rw [List.findIdx?_isSome]
theorem t_lay {k:Nat} {c:Cp} (h:(onlyC t.sc.cs t.set)[k]? = some c):layErr c.fs=0:=lay16 hk.sc (only_mem (dB h)).1
theorem t_size {k:Nat} {c:Cp} (h:(onlyC t.sc.cs t.set)[k]? = some c):c.fs.length≤8∧rowSize c.fs≤256∧∀ ns,(packB c.fs ns).length=rowSize c.fs:=by
  obtain ⟨h1,h2,h3⟩:=layErr_facts (t_lay hk h)
  exact ⟨h1,h3,fun ns=>packB_len h2 ns⟩
end
def entV (l:List Nat):List Value:=l.map fun e=>.int .u64 (e:Nat)
def EntsAt (H:Nat→Option Obj) (v:Value) (l:List Nat):Prop:=(v=nilSlc∧l=[])∨∃ db,LeadsTo H db v 61 1 (entV l)
def PtrsIn (X:Nat→Option Obj) (v:Value) (ps:List Nat):Prop := ∃ (pad:Option Addr) (cap:Nat),v = .slice pad ps.length cap∧∀ (i b:Nat),ps[i]? = some b →
  ∃ (blk:Nat) (arr:Array Value) (el:TypeId) (fr:Nat×Nat),pad=some ⟨blk,0,none⟩∧X blk=some (.cells arr el fr)∧arr[i]? = some (.pointer (some ⟨b,0,none⟩))
theorem PtrsIn.mono {X Y:Nat→Option Obj} {v:Value} {ps:List Nat} (h:PtrsIn X v ps) (hXY:∀ b o,X b=some o→Y b=some o):PtrsIn Y v ps:=by
  obtain ⟨pad,cap,h1,h2⟩:=h
  refine ⟨pad,cap,h1,fun i b hb => ?_⟩
  obtain ⟨blk,arr,el,fr,g1,g2,g3⟩:=h2 i b hb
  exact ⟨blk,arr,el,fr,g1,hXY _ _ g2,g3⟩
theorem EntsAt.slice {H:Nat→Option Obj} {v:Value} {l:List Nat} (h:EntsAt H v l):∃ ad cap,v = .slice ad l.length cap:=by
  rcases h with ⟨rfl,rfl⟩|⟨db,len,cap,arr,fr,rfl,h2,_⟩
  · exact ⟨none,0,rfl⟩
  · have:len=l.length:=by unfold entV at h2;rw [cV] at h2;omega
    rw [this];exact ⟨_,cap,rfl⟩
structure TabIn (t:Tb) (Hs He Hr:Nat→Option Obj) (vE vC vP:Value) (ps:List Nat):Prop where
  sc:∃ (cb cc:Nat),vC = .slice (some ⟨cb,0,none⟩) (onlyC t.sc.cs t.set).length cc∧CompsIn Hs (some ⟨cb,0,none⟩) (onlyC t.sc.cs t.set)
  ptrs:PtrsIn Hs vP ps
  refs:Refs Hr ps (colsT t)
  ents:EntsAt He vE (t.l.map Rw.e)
  two:∀ r∈t.l,∀ p∈r.p,∀ u∈p.val,In2 u.2
abbrev tblV (t:Tb) (vE vC vP:Value):List Value:=[.int .u32 (t.set:Nat),.int .i64 (t.most:Nat),.int .i64 (t.kept:Nat),vE,.int .i64 t.sc.ver,vC,vP]
def tbM (m:Bool) (t:Tb):Rsc:=⟨fun ρ H=>ρ.2=7∧∃ (fr:Nat×Nat) (Hs He Hr:Nat→Option Obj) (vE vC vP:Value) (ps:List Nat),H ρ.1=some (.cells (tblV t vE vC vP).toArray 109 fr) ∧
  cutM H ρ.1=joinM (joinM Hs He) Hr∧(∀ b,He b≠none→Hs b=none)∧(∀ b,Hr b≠none→joinM Hs He b=none)∧TabIn t Hs He Hr vE vC vP ps∧(m=true↔vE≠nilSlc)⟩
def tbR (t:Tb):Rsc:=⟨fun ρ H=>∃ m,(tbM m t).holds ρ H⟩
abbrev tB (k:Nat) (t:Tb):Nat×Option Box:=(k,some ⟨0,[],.res (tbR t)⟩)
abbrev tM (k:Nat) (m:Bool) (t:Tb):Nat×Option Box:=(k,some ⟨0,[],.res (tbM m t)⟩)
abbrev tS (k:Nat) (t:Tb) (vE:CV) (vC vP:Value):Nat×Option Box:=(k,some ⟨109,[.val (.int .u32 (t.set:Nat)),.val (.int .i64 (t.most:Nat)),.val (.int .i64 (t.kept:Nat)),vE,.val (.int .i64 t.sc.ver),.val vC,.val vP],false⟩)
abbrev tH (X Hs He Hr:Nat→Option Obj):Nat→Option Obj:=joinM (joinM (joinM X Hs) He) Hr
section
variable {P:Program} {n:Nat} {C:Ctx} {c:Code} {Q:Exit→St→Prop} {X:Nat→Option Obj} {s:List (Nat×LV)} {bx:List (Nat×Option Box)} {k:Nat}
theorem own_join {H A B:Nat→Option Obj} (h:OwnedM C X H) (e:H=joinM A B) (hd:∀ b,B b≠none→A b=none):OwnedM C X A∧OwnedM C (joinM X A) B:=by
  subst e
  refine ⟨⟨fun b o hb => ?_⟩,⟨fun b o hb => ?_⟩⟩
  · refine h.own b o ?_
    cases hc:B b with
    | none=>rw [joinM_out hc];exact hb
    | some o'=>have:=hd b (by rw [hc];simp);rw [hb] at this;cases this
  · obtain ⟨h1,h2,h3⟩:=h.own b o (joinM_in hb)
    exact ⟨h1,h2,by rw [joinM_out (hd b (by rw [hb];simp))];exact h3⟩
theorem own_far {A B:Nat→Option Obj} (h:OwnedM C (joinM X A) B) {b:Nat} (hb:B b≠none):A b=none:=by
  cases ho:B b with
  | none=>exact absurd ho hb
  | some o=>exact (joinM_none (h.own b o ho).2.2).1
theorem tabM_open {m:Bool} {t:Tb}
    (h:∀ (Hs He Hr:Nat→Option Obj) (vE vC vP:Value) (ps:List Nat),OwnedM C X Hs→OwnedM C (joinM X Hs) He→OwnedM C (joinM (joinM X Hs) He) Hr→TabIn t Hs He Hr vE vC vP ps→(m=true↔vE≠nilSlc) →
      LWP P n C c Q ⟨s,tS k t (.val vE) vC vP::bx,tH X Hs He Hr⟩):LWP P n C c Q ⟨s,tM k m t::bx,X⟩:=by
  refine LWP.openRes (fun ρ H h => ?_) fun ρ H vals el fr hR hv hO => ?_
  · obtain ⟨h1,fr,_,_,_,_,_,_,_,h2,_⟩:=h
    exact ⟨_,_,fr,h2,by rw [h1];rfl⟩
  · obtain ⟨h1,fr',Hs,He,Hr,vE,vC,vP,ps,h2,h3,h4,h5,h6,h7⟩:=hR
    rw [hv] at h2
    simp only [Option.some.injEq,Obj.cells.injEq] at h2
    obtain ⟨rfl,rfl,rfl⟩:=h2
    have hO1:=hO.cut ρ.1
    rw [h3] at hO1 ⊢
    obtain ⟨hA,hB⟩:=own_join hO1 rfl h5
    obtain ⟨hA1,hA2⟩:=own_join hA rfl h4
    rw [← joinM_join,← joinM_join]
    exact h Hs He Hr vE vC vP ps hA1 hA2 (by rw [joinM_join];exact hB) h6 h7
theorem tab_open {t:Tb}
    (h:∀ (Hs He Hr:Nat→Option Obj) (vE vC vP:Value) (ps:List Nat),OwnedM C X Hs→OwnedM C (joinM X Hs) He→OwnedM C (joinM (joinM X Hs) He) Hr→TabIn t Hs He Hr vE vC vP ps →
      LWP P n C c Q ⟨s,tS k t (.val vE) vC vP::bx,tH X Hs He Hr⟩):LWP P n C c Q ⟨s,tB k t::bx,X⟩:=
  LWP.resEx (fun m=>tbM m t) (fun _ _ h=>h) fun m=>tabM_open fun Hs He Hr vE vC vP ps h1 h2 h3 h4 _=>h Hs He Hr vE vC vP ps h1 h2 h3 h4
theorem tabM_shut {Mid:St→Prop} {m:Bool} {t:Tb} {Hs He Hr:Nat→Option Obj} {vE vC vP:Value} {ps:List Nat} (h1:OwnedM C X Hs) (h2:OwnedM C (joinM X Hs) He) (h3:OwnedM C (joinM (joinM X Hs) He) Hr) (hI:TabIn t Hs He Hr vE vC vP ps) (hm:m=true↔vE≠nilSlc)
    (h:Leads n C Mid ⟨s,tM k m t::bx,X⟩):Leads n C Mid ⟨s,tS k t (.val vE) vC vP::bx,tH X Hs He Hr⟩:=by
  unfold tH
  rw [joinM_join X Hs He,joinM_join]
  have h3':OwnedM C (joinM X (joinM Hs He)) Hr:=by rw [← joinM_join];exact h3
  refine Leads.closeRes (vals:=tblV t vE vC vP) ((h1.join h2).join h3' ) (fun ρ fr g1 g2 g3 => ?_) h
  refine ⟨g3,fr,Hs,He,Hr,vE,vC,vP,ps,cK _ _ _,?_,fun b hb=>own_far h2 hb,fun b hb=>own_far h3' hb,hI,hm⟩
  rw [cut_with g1]
theorem tab_shut {Mid:St→Prop} {t:Tb} {Hs He Hr:Nat→Option Obj} {vE vC vP:Value} {ps:List Nat} (h1:OwnedM C X Hs) (h2:OwnedM C (joinM X Hs) He) (h3:OwnedM C (joinM (joinM X Hs) He) Hr) (hI:TabIn t Hs He Hr vE vC vP ps)
    (h:Leads n C Mid ⟨s,tB k t::bx,X⟩):Leads n C Mid ⟨s,tS k t (.val vE) vC vP::bx,tH X Hs He Hr⟩:=by
  refine tabM_shut (m:=(open Classical in decide (vE≠nilSlc))) h1 h2 h3 hI (by simp) (Leads.resTo (R2:=tbR t) (fun ρ H hh=>⟨_,hh⟩) h)
theorem tH_s {Hs He Hr:Nat→Option Obj} (h2:OwnedM C (joinM X Hs) He) (h3:OwnedM C (joinM (joinM X Hs) He) Hr):∀ b o,Hs b=some o→tH X Hs He Hr b=some o:=fun b o h=>joinM_has h3 (joinM_has h2 (joinM_in h))
theorem tH_e {Hs He Hr:Nat→Option Obj} (h3:OwnedM C (joinM (joinM X Hs) He) Hr):∀ b o,He b=some o→tH X Hs He Hr b=some o:=fun b o h=>joinM_has h3 (joinM_in h)
theorem tH_x {Hs He Hr:Nat→Option Obj} (h1:OwnedM C X Hs) (h2:OwnedM C (joinM X Hs) He) (h3:OwnedM C (joinM (joinM X Hs) He) Hr):∀ b o,X b=some o→tH X Hs He Hr b=some o:=fun b o h=>joinM_has h3 (joinM_has h2 (joinM_has h1 h))
end
end Go.Proofs.YtjifibloagkeeaaGreat
end
section
namespace Go.Proofs.YtjifibloagkeeaaGreat
open Go Go.Lg Go.Lg.Fld Go.Lg.Sg Go.Lg.Col
set_option maxRecDepth 100000
theorem filter_or {α:Type} {a b:α→Bool} (h:∀ x,a x=true→b x=true→False):∀ l:List α,(l.filter fun x=>a x||b x).length=(l.filter a).length+(l.filter b).length
  | []=>rfl
  | x::t=>by
    have ih:=filter_or h t
    rw [List.filter_cons,List.filter_cons,List.filter_cons]
    cases ha:a x<;>cases hb:b x
    · simpa using ih
    · simp only [Bool.false_or,if_true,dG];simp only [Bool.false_eq_true,if_false];omega
    · simp only [Bool.true_or,if_true,dG];simp only [Bool.false_eq_true,if_false];omega
    · exact (h x ha hb).elim
theorem hits_sum (l:List Pt):∀ {ids:List Int},ids.Pairwise (· < ·)→(sortP ids l).length=(l.filter fun p=>ids.any fun x=>x==p.comp).length
  | [],_=>by
    show 0=_
    rw [show (l.filter fun p=>([]:List Int).any fun x=>x==p.comp)=[] from List.filter_eq_nil_iff.2 fun x _=>by simp];rfl
  | id::ids,h=>by
    obtain ⟨h1,h2⟩:=List.pairwise_cons.1 h
    have ih:=hits_sum l h2
    have:=filter_or (a:=fun p:Pt=>id==p.comp) (b:=fun p=>ids.any fun x=>x==p.comp) (fun p ha hb=>by
      rw [beq_iff_eq] at ha
      obtain ⟨y,hy,e⟩:=List.any_eq_true.1 hb
      rw [beq_iff_eq] at e
      have:=h1 y hy
      omega) l
    simp only [List.any_cons]
    rw [this,← ih]
    unfold sortP
    rw [List.map_cons,List.flatten_cons,cU]
    congr 2
    unfold hitsP
    exact List.filter_congr fun p _=>by rw [Bool.eq_iff_iff,beq_iff_eq,beq_iff_eq];exact eq_comm
theorem hits_more (l:List Pt):∀ {ids:List Int},(∀ id∈ids,1≤(hitsP l id).length)→ids.length≤(sortP ids l).length
  | [],_=>Nat.zero_le _
  | id::ids,h=>by
    have h1:=h id (List.mem_cons_self ..)
    have ih:=hits_more l (ids:=ids) fun x hx=>h x (List.mem_cons_of_mem _ hx)
    unfold sortP at ih ⊢
    rw [List.map_cons,List.flatten_cons,cU,dG];omega
theorem hits_ones (l:List Pt):∀ {ids:List Int},(∀ id∈ids,1≤(hitsP l id).length)→(sortP ids l).length≤ids.length→∀ id∈ids,(hitsP l id).length=1
  | [],_,_=>fun _ h=>by cases h
  | id::ids,h,hs=>by
    have h1:=h id (List.mem_cons_self ..)
    have hr:∀ x∈ids,1≤(hitsP l x).length:=fun x hx=>h x (List.mem_cons_of_mem _ hx)
    have h2:=hits_more l hr
    unfold sortP at hs h2
    rw [List.map_cons,List.flatten_cons,cU,dG] at hs
    intro x hx
    rcases List.mem_cons.1 hx with rfl|hx
    · omega
    · exact hits_ones l hr (by unfold sortP;omega) x hx
theorem just_sig {set:Nat} (hs:set<4294967296) (hb:isB set=true) (l:List Pt):(prE (l.map fun p=>p.comp)=0∧prN (l.map fun p=>p.comp)=set)↔justP (idsL set) l=true:=by
  have hll:(l.map fun p=>p.comp).length=l.length:=cV _
  rw [just_iff]
  constructor
  · rintro ⟨h1,h2⟩
    unfold prN at h2
    rw [if_pos h1] at h2
    unfold prE at h1
    by_cases ho:okIds (l.map fun p=>p.comp)=true
    case neg=>rw [if_neg ho] at h1;cases h1
    rw [if_pos ho] at h1
    have ht:twiceTo (l.map fun p=>p.comp) (l.map fun p=>p.comp).length=false:=by
      cases hc:twiceTo (l.map fun p=>p.comp) (l.map fun p=>p.comp).length with
      | false=>rfl
      | true=>rw [hc] at h1;cases h1
    have htw:=twice_len ho
    rw [ht,h2,bne_eq_false_iff_eq,hll] at htw
    have hlen:l.length=(idsL set).length:=by omega
    refine ⟨hlen,hits_ones l (fun id hid => ?_) ?_⟩
    · rw [← h2] at hid
      obtain ⟨p,hp,he⟩:=List.mem_map.1 ((mem_ofN ho id).1 hid)
      exact List.length_pos_of_mem (List.mem_filter.2 ⟨hp,by rw [beq_iff_eq];exact he⟩)
    · rw [hits_sum l (idsL_sorted set),← hlen]
      exact List.length_filter_le _ _
  · rintro ⟨h1,h2⟩
    have hsum:=sort_len (ids:=idsL set) (l:=l) (just_iff.2 ⟨h1,h2⟩)
    rw [hits_sum l (idsL_sorted set)] at hsum
    have hall:∀ p∈l,p.comp∈idsL set:=fun p hp=>by
      have:=List.filter_eq_self.1 (List.filter_sublist.eq_of_length (by rw [hsum,h1]:(l.filter fun p=>(idsL set).any fun x=>x==p.comp).length=l.length)) p hp
      obtain ⟨y,hy,e⟩:=List.any_eq_true.1 this
      rw [← beq_iff_eq.1 e];exact hy
    have ho:okIds (l.map fun p=>p.comp)=true:=List.all_eq_true.2 fun x hx=>by
      obtain ⟨p,hp,rfl⟩:=List.mem_map.1 hx
      obtain ⟨g1,g2,_⟩:=mem_ids.1 (hall p hp)
      exact okI_iff.2 ⟨g1,by omega⟩
    have hids:idsL (ofN (l.map fun p=>p.comp))=idsL set:=sorted_ext (idsL_sorted _) (idsL_sorted _) fun x=>by
      rw [mem_ofN ho]
      constructor
      · intro hx
        obtain ⟨p,hp,rfl⟩:=List.mem_map.1 hx
        exact hall p hp
      · intro hx
        obtain ⟨p,_,hp,he⟩:=hits_one (h2 x hx)
        exact List.mem_map.2 ⟨p,hp,he⟩
    have hof:ofN (l.map fun p=>p.comp)=set:=by
      have hok:∀ id∈(l.map fun p=>p.comp),okJ id=true:=List.all_eq_true.1 ho
      rw [← ofN_ids (ofN_isB hok) (by have:=ofN_lt hok;omega),hids,ofN_ids hb hs]
    have htw:=twice_len ho
    rw [hids,hll,cQ (by omega)] at htw
    have hE:prE (l.map fun p=>p.comp)=0:=by unfold prE;rw [if_pos ho,hll,← htw];rfl
    exact ⟨hE,by unfold prN;rw [if_pos hE];exact hof⟩
theorem just_in {set:Nat} {l:List Pt} (h:justP (idsL set) l=true):∀ p∈l,p.comp∈idsL set:=fun p hp=>by
  obtain ⟨h1,h2⟩:=just_iff.1 h
  have hsum:=sort_len h
  rw [hits_sum l (idsL_sorted set)] at hsum
  have:=List.filter_eq_self.1 (List.filter_sublist.eq_of_length (by rw [hsum,h1]:(l.filter fun p=>(idsL set).any fun x=>x==p.comp).length=l.length)) p hp
  obtain ⟨y,hy,e⟩:=List.any_eq_true.1 this
  rw [← beq_iff_eq.1 e];exact hy
theorem find_only {cs:List Cp} {set:Nat} {x:Int} (h:hasB set x=true):(onlyC cs set).find? (fun c=>c.id==x)=cs.find? (fun c=>c.id==x):=by
  unfold onlyC
  rw [List.find?_filter]
  congr 1
  funext c
  by_cases e:c.id=x
  · rw [e,h];simp
  · rw [cP e];simp
theorem parts_only {cs:List Cp} {set:Nat} {l:List Pt} (h:justP (idsL set) l=true):partsE (onlyC cs set) l=partsE cs l:=by
  unfold partsE
  congr 1
  funext i
  unfold ptE
  cases hp:l[i]? with
  | none=>rfl
  | some p =>
    have hm:=just_in h p (dB hp)
    have hb:hasB set p.comp=true:=by rw [← any_ids,List.any_eq_true];exact ⟨_,hm,cS rfl⟩
    simp only
    have:partE (onlyC cs set) p=partE cs p:=by unfold partE;rw [find_only hb]
    rw [this]
theorem just_one {set:Nat} {l:List Pt} (h:justP (idsL set) l=true) {j:Nat} {p:Pt} (hj:l[j]? = some p):(l.take j).find? (fun q=>q.comp==p.comp)=none:=by
  have h1:=(just_iff.1 h).2 _ (just_in h p (dB hj))
  rw [List.find?_eq_none]
  intro q hq he
  have hsp:l=l.take j++p::l.drop (j+1):=mid_of hj
  unfold hitsP at h1
  rw [hsp,List.filter_append,List.filter_cons,if_pos (by simp),cU,dG] at h1
  have:0<((l.take j).filter fun x=>x.comp==p.comp).length:=List.length_pos_of_mem (List.mem_filter.2 ⟨hq,he⟩)
  omega
theorem sort_at {l:List Pt}:∀ {ids:List Int} {k:Nat} {id:Int},(∀ x∈ids,(hitsP l x).length=1)→ids[k]? = some id→∃ p,(sortP ids l)[k]? = some p∧hitsP l id=[p]
  | x::ids,0,id,h,hk=>by
    simp only [List.getElem?_cons_zero,Option.some.injEq] at hk
    subst hk
    obtain ⟨p,hp,_,_⟩:=hits_one (h x (List.mem_cons_self ..))
    refine ⟨p,?_,hp⟩
    unfold sortP
    rw [List.map_cons,List.flatten_cons,hp];rfl
  | x::ids,k+1,id,h,hk=>by
    simp only [List.getElem?_cons_succ] at hk
    obtain ⟨p,hp,h2⟩:=sort_at (l:=l) (fun y hy=>h y (List.mem_cons_of_mem _ hy)) hk
    obtain ⟨q,hq,_,_⟩:=hits_one (h x (List.mem_cons_self ..))
    refine ⟨p,?_,h2⟩
    unfold sortP at hp ⊢
    rw [List.map_cons,List.flatten_cons,hq]
    exact hp
  | [],_,_,_,hk=>by simp at hk
def addF (l:List Rw) (ps:List Pt) (j:Nat) (k:Nat) (c:Cp):List (List UInt8):=colL l k c++match (ps.take j).find? (fun p=>p.comp==c.id) with|some p=>[packB c.fs p.val]|none=>[]
theorem addF_zero (l:List Rw) (ps:List Pt) (k:Nat) (c:Cp):addF l ps 0 k c=colL l k c:=by unfold addF;simp
theorem addF_here {set:Nat} {l:List Rw} {ps:List Pt} (h:justP (idsL set) ps=true) {j k:Nat} {p:Pt} {c:Cp} (hj:ps[j]? = some p) (hc:c.id=p.comp):addF l ps j k c=colL l k c∧addF l ps (j+1) k c=colL l k c++[packB c.fs p.val]:=by
  have h1:=just_one h hj
  unfold addF
  rw [hc,h1]
  refine ⟨dH _,?_⟩
  rw [take_snoc hj,List.find?_append,h1]
  simp
theorem addF_there {l:List Rw} {ps:List Pt} {j k:Nat} {p:Pt} {c:Cp} (hj:ps[j]? = some p) (hc:c.id≠p.comp):addF l ps (j+1) k c=addF l ps j k c:=by
  unfold addF
  rw [take_snoc hj,List.find?_append,show ([p].find? fun q=>q.comp==c.id)=none by simp [cP (Ne.symm hc)]]
  simp
theorem addF_all {t:Tb} (hk:TbOk t) {ps:List Pt} (h:justP (idsL t.set) ps=true) (e:Nat) {k:Nat} {c:Cp} (hc:(onlyC t.sc.cs t.set)[k]? = some c):addF t.l ps ps.length k c=colL (t.l++[⟨e,sortP (idsL t.set) ps⟩]) k c:=by
  obtain ⟨p,hp,hh⟩:=sort_at (l:=ps) (just_iff.1 h).2 (k:=k) (id:=c.id) (by rw [← t_ids hk,dJ,hc];rfl)
  unfold addF colL
  rw [dD,dF,List.map_cons,List.map_nil]
  congr 1
  have hf:ps.find? (fun q=>q.comp==c.id)=some p:=by rw [← List.head?_filter];unfold hitsP at hh;rw [hh];rfl
  rw [hf]
  unfold valR
  simp only
  rw [hp]
end Go.Proofs.YtjifibloagkeeaaGreat
end
section
namespace Go.Proofs.YtjifibloagkeeaaGreat
open Go Go.Lg Go.Lg.Fld Go.Lg.Sg Go.Lg.Col
set_option maxRecDepth 100000
abbrev LnilT:LV:=.sv (.one (.val (.pointer none)))
abbrev vS (ad:Option Addr) (n cap:Nat):CV:=.val (.slice ad n cap)
variable (X:Nat→Option Obj)
section
variable (t:Tb) (ad:Option Addr) (n cap:Nat) (vC vP:Value)
theorem len0:MSpec Tryz.prog X 25 [Lp 1000000] [tS 1000000 t (vS ad n cap) vC vP] (Ln .i64 (n:Nat)) [tS 1000000 t (vS ad n cap) vC vP]:=by
  refine cE Tryz.func25 rfl (by kernel_rfl) rfl rfl (by exact (by repeat' (first|refine bR ?_ ?_|rfl|exact bT|exact bS|exact bU rfl))) rfl rfl ?_
  intro C
  (refine aA<|rgN<|kas O<|aB<|aA<|aA<|rgN<|kmv O<|K.ptrNil O (by kernel_rfl) (.inl ⟨O,O⟩) dP<|aB<|aF O ?_;refine aH ?_;refine aA<|rgN<|kmv O<|bI O dP<|kfa O O ?_;refine kl1 O O O<|aQ O bY O dP ?_;refine kas O<|aB<|aI ?_)
  exact ⟨[],⟨[_],⟨rfl,trivial⟩,rfl⟩,(by repeat' (first|exact trivial|refine cO ⟨_,rfl,?_⟩ ?_|refine cO ⟨_,rfl⟩ ?_|rfl|exact bV _ _ _ _|exact bW _ _ _ _|exact bX rfl)),rfl,rfl⟩
theorem room0 (hr:n+t.kept≤t.most) (hm:t.most≤256):MSpec Tryz.prog X 26 [Lp 1000000] [tS 1000000 t (vS ad n cap) vC vP] (Ln .i64 (t.most-n-t.kept:Nat)) [tS 1000000 t (vS ad n cap) vC vP]:=by
  refine cE Tryz.func26 rfl (by kernel_rfl) rfl rfl (by exact (by repeat' (first|refine bR ?_ ?_|rfl|exact bT|exact bS|exact bU rfl))) rfl rfl ?_
  intro C
  have h0:=len0 X t ad n cap vC vP
  have h1:IntKind.i64.wrap (((t.most:Nat):Int)-(n:Nat))=((t.most-n:Nat):Int):=by rw [cF (by omega)];omega
  have h2:IntKind.i64.wrap (((t.most-n:Nat):Int)-(t.kept:Nat))=((t.most-n-t.kept:Nat):Int):=by rw [cF (by omega)];omega
  (refine aA<|rgN<|kas O<|aB<|aA<|aA<|rgN<|kmv O<|K.ptrNil O (by kernel_rfl) (.inl ⟨O,O⟩) dP<|aB<|aF O ?_;refine aH ?_;refine aA<|rgD mixed<|kmv O<|bI O dP<|kfa O O ?_;refine kl1 O O O<|kmv O<|K.callR [(1000000,1000000)] (h0) O O (by exact (cO ⟨_,O,O⟩ trivial)) (by exact (bR (bR O (bR O (bR O (bR O (bR O (bR O (bR O O))))))) O)) O O O O dP<|bA O O h1 dP<|kmv O<|bI O dP<|kfa O O ?_;refine kl1 O O O<|bA O O h2 dP<|kas O<|aB<|rgA ?_;refine aI ?_)
  exact ⟨[],⟨[_],⟨rfl,trivial⟩,rfl⟩,(by repeat' (first|exact trivial|refine cO ⟨_,rfl,?_⟩ ?_|refine cO ⟨_,rfl⟩ ?_|rfl|exact bV _ _ _ _|exact bW _ _ _ _|exact bX rfl)),rfl,rfl⟩
end
theorem place1_spec (c:Cp) (fad:Option Addr) (fcap:Nat) (id:Int) {b:Nat} {arr:Array Value} {el:TypeId} {fr:Nat×Nat} (hX:X b=some (.cells arr el fr)) (h0:arr[0]? = some (.int .i64 id)):
    PSpec Tryz.prog X 68 [Cx c fad fcap,Vp b] (Lb (c.id==id)):=by
  refine cD Tryz.func68 rfl (by kernel_rfl) rfl rfl ?_
  intro C
  (refine aA<|rgN<|aL O O O dP<|kas O<|aB<|aA<|rgN<|kfa O O ?_;refine kl1 O O O<|aW O hX O h0 dP<|keq O O O<|kas O<|aB<|aI ?_)
  exact ⟨[_],⟨O,trivial⟩,O⟩
theorem place0 (t:Tb) (v:Value) (vP:Value) (cs:List Cp) (cad:Option Addr) (cc:Nat) (id:Int) (hin:CompsIn X cad cs) (hbig:cs.length<4611686018427387904):
    MSpec Tryz.prog X 45 [Lp 1000000,Ln .i64 id] [tS 1000000 t (.val v) (.slice cad cs.length cc) vP] (Ln .i64 (findI (fun c=>c.id==id) cs)) [tS 1000000 t (.val v) (.slice cad cs.length cc) vP]:=by
  refine cE Tryz.func45 rfl (by kernel_rfl) rfl rfl (by exact (by repeat' (first|refine bR ?_ ?_|rfl|exact bT|exact bS|exact bU rfl))) rfl rfl ?_
  intro C
  (refine aA<|rgN<|K.box1 O O O dP<|kas O<|aB<|aA ?_)
  refine LWP.le (σ':=⟨[(3,Lp 3),(0,Lp 1000000)],[(3,some ⟨3,[Value.int .i64 id].map .val,false⟩),tS 1000000 t (.val v) (.slice cad cs.length cc) vP],X⟩) (Le.of (by exact ⟨O,O,trivial⟩) (by exact ⟨O,O,trivial⟩) (by exact O) (by exact O) (by repeat' (first|refine bR ?_ ?_|rfl|exact bT|exact bS|exact bU O))) ?_
  refine LWP.freezePtr (by rfl) (by rfl) (by rfl) fun b arr0 fr0 hn _ h0 => ?_
  have hin':=hin.mono (cG (o:=.cells arr0 3 fr0) hn)
  have hp:=fun (c:Cp) (_:c∈cs) (fad:Option Addr) (fcap:Nat)=>place1_spec _ c fad fcap id (cK X b (.cells arr0 3 fr0)) (at_zero h0)
  have hq:=idxC_spec _ cad cc cs hin' hbig 68 [.pointer (some ⟨b,0,none⟩)] (fun c=>c.id==id) hp
  (refine rgN<|kmv O<|bI O dP<|kfa O O ?_;refine kfa O O ?_;refine kl1 O O O<|K.makeFunc O O dP ?_;refine kca O O hq<|kas O<|aB<|aI ?_)
  exact ⟨[],⟨[_],⟨rfl,trivial⟩,rfl⟩,(by repeat' (first|exact trivial|refine cO ⟨_,rfl,?_⟩ ?_|refine cO ⟨_,rfl⟩ ?_|rfl|exact bV _ _ _ _|exact bW _ _ _ _|exact bX rfl)),rfl,rfl⟩
end Go.Proofs.YtjifibloagkeeaaGreat
end
section
namespace Go.Proofs.YtjifibloagkeeaaGreat
open Go Go.Lg Go.Lg.Fld Go.Lg.Sg Go.Lg.Col
set_option maxRecDepth 100000
theorem colR_root (z q:Nat) (L:List (List UInt8)):∀ ρ H,(colR z q L).holds ρ H→H ρ.1≠none:=fun ρ H h=>by
  obtain ⟨_,_,_,_,_,h2,_⟩:=h
  rw [h2];simp
section
variable {P:Program} {n:Nat} {C:Ctx} {c:Code} {Q:Exit→St→Prop} {Y:Nat→Option Obj} {s:List (Nat×LV)} {bx:List (Nat×Option Box)}
theorem tcol_open {Hr:Nat→Option Obj} {ps:List Nat} {Rs:List Rsc} {k kk:Nat} {R:Rsc} (hO:OwnedM C Y Hr) (hR:Refs Hr ps Rs) (hi:Rs[k]? = some R)
    (hs:s.all (fun p=>p.2.inUse bx)=true) (hb:bx.all (fun p=>match p.2 with|some b=>b.cells.all (CV.inUse bx)|none=>true)=true) (hk:Go.Lg.look kk bx=none) (hlt:kk<1000000)
    (h:∀ (b:Nat) (H0:Nat→Option Obj),ps[k]? = some b→OwnedM C Y H0→(∀ (R':Rsc) (m':Nat) (Hc':Nat→Option Obj),R'.holds (b,m') Hc'→Hc' b≠none→OwnedM C (joinM Y H0) Hc'→Refs (joinM H0 Hc') ps (Rs.set k R')) →
      LWP P n C c Q ⟨s,(kk,some ⟨0,[],.res (atR b R)⟩)::bx,joinM Y H0⟩):LWP P n C c Q ⟨s,bx,joinM Y Hr⟩:=by
  obtain ⟨b,m,Hc,h1,h2,h3,h4,h5⟩:=hR.take hi
  exact LWP.takeRes hO h4 h2 h3 hs hb hk hlt (h b (minusM Hr Hc) h1 (hO.minus Hc) fun R' m' Hc' g1 g2 g3=>h5 R' m' Hc' g1 g2 fun x hx=>own_far g3 hx)
theorem tcol_shut {Mid:St→Prop} {H0:Nat→Option Obj} {b kk:Nat} {R':Rsc} (hO:OwnedM C Y H0) (hroot:∀ ρ H,R'.holds ρ H→H ρ.1≠none)
    (hs:s.all (fun p=>p.2.inUse bx)=true) (hb:bx.all (fun p=>match p.2 with|some b=>b.cells.all (CV.inUse bx)|none=>true)=true) (hk:Go.Lg.look kk bx=none)
    (h:∀ (m':Nat) (Hc':Nat→Option Obj),R'.holds (b,m') Hc'→Hc' b≠none→OwnedM C (joinM Y H0) Hc'→OwnedM C Y (joinM H0 Hc')→Leads n C Mid ⟨s,bx,joinM Y (joinM H0 Hc')⟩):Leads n C Mid ⟨s,(kk,some ⟨0,[],.res (atR b R')⟩)::bx,joinM Y H0⟩:=by
  refine Leads.fixAlone hs hb hk fun ρ H hh hO2 => ?_
  obtain ⟨b',m'⟩:=ρ
  obtain ⟨rfl,hR⟩:=hh
  rw [joinM_join]
  exact h m' H hR (hroot _ _ hR) hO2 (hO.join hO2)
end
abbrev atB (k b z q:Nat) (L:List (List UInt8)):Nat×Option Box:=(k,some ⟨0,[],.res (atR b (colR z q L))⟩)
variable (X:Nat→Option Obj)
section
variable (t:Tb) (hk:TbOk t) (ad:Option Addr) (cap:Nat) (vP:Value) (row comp:Int)
include hk
end
end Go.Proofs.YtjifibloagkeeaaGreat
end
section
namespace Go.Proofs.YtjifibloagkeeaaGreat
open Go Go.Lg Go.Lg.Fld Go.Lg.Sg Go.Lg.Col
set_option maxRecDepth 100000
abbrev enB (k:Nat) (L:List Nat):Nat×Option Box:=(k,some ⟨61,(L.map fun h=>Value.int .u64 (h:Nat)).map .val,true⟩)
variable (X:Nat→Option Obj)
theorem EntsAt.mono {H Y:Nat→Option Obj} {v:Value} {l:List Nat} (h:EntsAt H v l) (hY:∀ b o,H b=some o→Y b=some o):EntsAt Y v l:=by
  rcases h with h|⟨db,len,cap,arr,fr,g1,g2,g3,g4,g5,g6⟩
  · exact .inl h
  · exact .inr ⟨db,len,cap,arr,fr,g1,g2,g3,g4,hY _ _ g5,g6⟩
theorem entV_reads {Y H:Nat→Option Obj} {v:Value} {l:List Nat} (h:EntsAt H v l) (hne:v≠nilSlc) (hY:∀ b o,H b=some o→Y b=some o):∃ db cap,v = .slice (some ⟨db,0,none⟩) l.length cap∧ReadsX Y (some ⟨db,0,none⟩) (entV l):=by
  rcases h with ⟨h,_⟩|⟨db,len,cap,arr,fr,rfl,g2,_,_,g5,sp,g6⟩
  · exact absurd h hne
  · have hl:len=l.length:=by unfold entV at g2;rw [cV] at g2;omega
    exact ⟨db,cap,by rw [hl],⟨fun i u hu=>⟨db,0,arr,_,fr,rfl,hY _ _ g5,by rw [← Array.getElem?_toList,g6,Nat.zero_add,dO (List.getElem?_eq_some_iff.1 hu).1];exact hu⟩⟩⟩
theorem entV_one (l:List Nat):∀ u∈entV l,u.oneCell'=true:=fun u hu=>by
  unfold entV at hu
  obtain ⟨x,_,rfl⟩:=List.mem_map.1 hu
  rfl
theorem kClEn_nil (cap:Nat):PSpec Tryz.prog X 62 [.sv (.one (vS none 0 cap))] (.sv (.one (.val nilSlc))):=by
  refine cD Tryz.func62 rfl (by kernel_rfl) rfl rfl ?_
  intro C
  (refine aA<|rgN<|kas O<|aB<|aA<|aA<|rgN<|kmv O<|K.slcNil (r:=true) O bY (.inl ⟨O,O⟩) dP ?_;refine aB<|aE O ?_;refine aA<|rgN<|kas O<|aB<|aI ?_)
  exact ⟨[_],⟨O,trivial⟩,O⟩
theorem kClEn (db cap:Nat) (l:List Nat) (hR:ReadsX X (some ⟨db,0,none⟩) (entV l)) (hb:l.length≤256):
    MSpec Tryz.prog X 62 [.sv (.one (vS (some ⟨db,0,none⟩) l.length cap))] [] (.sv (.one (.slc 1000001 0 l.length 1))) [enB 1000001 l]:=by
  have hlen:(entV l).length=l.length*1:=by unfold entV;rw [cV];omega
  refine cE Tryz.func62 rfl (by kernel_rfl) rfl rfl (by exact (by repeat' (first|refine bR ?_ ?_|rfl|exact bT|exact bS|exact bU rfl))) rfl rfl ?_
  intro C
  (refine aA<|rgN<|kas O<|aB<|aA<|aA<|rgN<|kmv O<|K.slcNil (r:=false) O bY (.inl ⟨O,O⟩) dP ?_;refine aB<|aF O ?_;refine aH ?_;refine aA<|rgN<|aZ (zs:=[]) (sz:=1) (e:=61) (by kernel_rfl) O O O O O O dP<|kmv O<|K.appendX (by_:=8) (e2:=61) (news:=entV l) (nl:=l.length) (nc:=(entV l).map .val) O O O O hR hlen (entV_one l) (by kernel_rfl) (by kernel_rfl) (by omega) (by omega) O (by omega) O dP ?_;refine kas O<|aB<|aI ?_)
  exact ⟨[(1000001,7)],⟨[_],⟨rfl,trivial⟩,rfl⟩,(by repeat' (first|exact trivial|refine cO ⟨_,rfl,?_⟩ ?_|refine cO ⟨_,rfl⟩ ?_|rfl|exact bV _ _ _ _|exact bW _ _ _ _|exact bX rfl)),rfl,rfl⟩
end Go.Proofs.YtjifibloagkeeaaGreat
end
section
namespace Go.Proofs.YtjifibloagkeeaaGreat
open Go Go.Lg Go.Lg.Fld Go.Lg.Sg Go.Lg.Col
set_option maxRecDepth 100000
variable (X:Nat→Option Obj)
theorem checkAdd_nil (e:Nat) (pad:Option Addr) (n pcap:Nat):PSpec Tryz.prog X 44 [LnilT,Ln .u64 (e:Nat),Lx pad n pcap] (Ln .i64 2):=by
  refine cD Tryz.func44 rfl (by kernel_rfl) rfl rfl ?_
  intro C
  (refine aA<|rgN<|kas O<|aB<|aA<|aG<|aA<|rgN<|kmv O<|K.nilNil O (by kernel_rfl) (.inl ⟨O,O⟩) dP<|kas O<|aB<|aE O ?_;refine aA<|rgN<|kas O<|aB<|aI ?_)
  exact ⟨[_],⟨O,trivial⟩,O⟩
theorem tAdd_nil (e:Nat) (pad:Option Addr) (n pcap:Nat):PSpec Tryz.prog X 21 [LnilT,Ln .u64 (e:Nat),Lx pad n pcap] (.tup [Sn .i64 0,Sn .i64 2]):=by
  refine cD Tryz.func21 rfl (by kernel_rfl) rfl rfl ?_
  intro C
  have hc:=checkAdd_nil X e pad n pcap
  (refine aA<|rgN<|kas O<|kas O<|aB<|aA<|aA<|rgN<|kmv O<|kmv O<|kmv O<|kca O O (hc)<|kas O<|aB ?_;refine aA<|rgN<|kmv O<|kne O O (cR (by omega))<|aB<|aE O ?_;refine aA<|rgN<|kmv O<|kas O<|kas O<|aB<|aI ?_)
  exact ⟨[_,_],⟨O,O,trivial⟩,O⟩
set_option maxHeartbeats 3200000 in
theorem checkAdd0 (t:Tb) (hk:TbOk t) (ad pad cad:Option Addr) (cap pcap cc:Nat) (vP:Value) (e:Nat) (l:List Pt) (hin:CompsIn X cad (onlyC t.sc.cs t.set)) (hP:PartsIn X pad l) (hl:l.length≤12) (he:e<18446744073709551616):
    MSpec Tryz.prog X 44 [Lp 1000000,Ln .u64 (e:Nat),Lx pad l.length pcap] [tS 1000000 t (vS ad t.l.length cap) (.slice cad (onlyC t.sc.cs t.set).length cc) vP] (Ln .i64 (addE t e l)) [tS 1000000 t (vS ad t.l.length cap) (.slice cad (onlyC t.sc.cs t.set).length cc) vP]:=by
  have _:=he
  have hG:=gParts X l pad pcap hP (by omega)
  have hj:=just_sig hk.set.1 hk.set.2 l
  have hpo:=parts_only (cs:=t.sc.cs) (set:=t.set) (l:=l)
  have h24:=t_len24 hk
  have hPs:=pPartsBig X t.sc.ver cad pad cc pcap (onlyC t.sc.cs t.set) l hin (by omega) (fun c hc=>by
    obtain ⟨i,hi⟩:=List.mem_iff_getElem?.1 hc
    have:=(t_size hk hi).1
    omega) hP (by omega) _ rfl
  have hR:=room0 X t ad t.l.length cap (.slice cad (onlyC t.sc.cs t.set).length cc) vP hk.room hk.most.2
  rw [show t.most-t.l.length-t.kept=roomT t from rfl] at hR
  have hset:=hk.set.1
  refine cE Tryz.func44 rfl (by kernel_rfl) rfl rfl (by exact (by repeat' (first|refine bR ?_ ?_|rfl|exact bT|exact bS|exact bU rfl))) rfl rfl ?_
  intro C
  unfold addE
  generalize prE (l.map fun p=>p.comp)=pe at *
  generalize prN (l.map fun p=>p.comp)=pn at *
  by_cases h1:e=0
  · rw [if_pos h1]
    subst h1
    (refine aA<|rgN<|kas O<|aB<|aA<|aG<|aA<|rgN<|kmv O<|K.ptrNil O (by kernel_rfl) (.inl ⟨O,O⟩) dP<|kas O<|aB<|aF O ?_;refine aA<|rgN<|kmv O<|keq O O (r:=true) O<|kas O<|aB<|aE O ?_;refine aA<|rgN<|kas O<|aB<|aI ?_)
    exact ⟨[],⟨[_],⟨rfl,trivial⟩,rfl⟩,(by repeat' (first|exact trivial|refine cO ⟨_,rfl,?_⟩ ?_|refine cO ⟨_,rfl⟩ ?_|rfl|exact bV _ _ _ _|exact bW _ _ _ _|exact bX rfl)),rfl,rfl⟩
  rw [if_neg h1]
  have he0:((((e:Nat):Int))==0)=false:=cP (by omega)
  by_cases h2:justP (idsL t.set) l=true
  case neg =>
    rw [if_neg h2]
    by_cases hpe:pe=0
    · subst hpe
      have hne:((((pn:Nat):Int)) != (t.set:Nat))=true:=cR fun e=>h2 (hj.1 ⟨rfl,by omega⟩)
      (refine aA<|rgN<|kas O<|aB<|aA<|aG<|aA<|rgN<|kmv O<|K.ptrNil O (by kernel_rfl) (.inl ⟨O,O⟩) dP<|kas O<|aB<|aF O ?_;refine aA<|rgN<|kmv O<|keq O O he0<|kas O<|aB<|aF O ?_;refine aH ?_;refine aA<|aA<|rgN<|kmv O<|kca O O hG<|kmv O<|kex O O<|kex O O<|kas O<|kas O<|aB<|aA<|rgN<|kmv O ?_;refine kne O O (r:=false) O<|kmv O<|gmv O O O<|gmv O O O<|bI O (dQ O O) ?_;refine aN O O (dQ O O) ?_;refine aO O O O (dQ O O) ?_;refine aX O O hne (dQ O O) ?_;refine kpf O O<|aB<|aE O ?_;refine aA<|rgN<|kas O<|aB<|aI ?_)
      exact ⟨[],⟨[_],⟨rfl,trivial⟩,rfl⟩,(by repeat' (first|exact trivial|refine cO ⟨_,rfl,?_⟩ ?_|refine cO ⟨_,rfl⟩ ?_|rfl|exact bV _ _ _ _|exact bW _ _ _ _|exact bX rfl)),rfl,rfl⟩
    · (refine aA<|rgN<|kas O<|aB<|aA<|aG<|aA<|rgN<|kmv O<|K.ptrNil O (by kernel_rfl) (.inl ⟨O,O⟩) dP<|kas O<|aB<|aF O ?_;refine aA<|rgN<|kmv O<|keq O O he0<|kas O<|aB<|aF O ?_;refine aH ?_;refine aA<|aA<|rgN<|kmv O<|kca O O hG<|kmv O<|kex O O<|kex O O<|kas O<|kas O<|aB<|aA<|rgN<|kmv O ?_;refine kne O O (r:=true) (cR hpe)<|kmv O<|aC O O O<|aC O O O<|aC O O O<|aC O O O<|aC O O O<|aC O O O<|kpt O O<|aB<|aE O ?_;refine aA<|rgN<|kas O<|aB<|aI ?_)
      exact ⟨[],⟨[_],⟨rfl,trivial⟩,rfl⟩,(by repeat' (first|exact trivial|refine cO ⟨_,rfl,?_⟩ ?_|refine cO ⟨_,rfl⟩ ?_|rfl|exact bV _ _ _ _|exact bW _ _ _ _|exact bX rfl)),rfl,rfl⟩
  rw [if_pos h2]
  obtain ⟨rfl,rfl⟩:=hj.2 h2
  rw [hpo h2] at hPs
  have hne:((((t.set:Nat):Int)) != (t.set:Nat))=false:=cQ rfl
  by_cases h3:partsE t.sc.cs l=0
  case neg =>
    rw [if_neg h3]
    generalize partsE t.sc.cs l=q at *
    (refine aA<|rgN<|kas O<|aB<|aA<|aG<|aA<|rgN<|kmv O<|K.ptrNil O (by kernel_rfl) (.inl ⟨O,O⟩) dP<|kas O<|aB<|aF O ?_;refine aA<|rgN<|kmv O<|keq O O he0<|kas O<|aB<|aF O ?_;refine aH ?_;refine aA<|aA<|rgN<|kmv O<|kca O O hG<|kmv O<|kex O O<|kex O O<|kas O<|kas O<|aB<|aA<|rgN<|kmv O ?_;refine kne O O (r:=false) O<|kmv O<|gmv O O O<|gmv O O O<|bI O (dQ O O) ?_;refine aN O O (dQ O O) ?_;refine aO O O O (dQ O O) ?_;refine aX O O hne (dQ O O) ?_;refine kpf O O<|aB<|aF O ?_;refine aH ?_;refine aA<|aA<|rgN<|kmv O<|bI O dP<|kfa O O ?_;refine bJ O O O (by exact nl2 O O O) dP ?_;refine kmv O<|kca O O hPs<|kas O<|aB<|aA<|rgN<|kmv O<|kne O O (r:=true) (cR h3)<|aB<|aE O ?_;refine aA<|rgN<|kmv O<|kas O<|aB<|aI ?_)
    exact ⟨[],⟨[_],⟨rfl,trivial⟩,rfl⟩,(by repeat' (first|exact trivial|refine cO ⟨_,rfl,?_⟩ ?_|refine cO ⟨_,rfl⟩ ?_|rfl|exact bV _ _ _ _|exact bW _ _ _ _|exact bX rfl)),rfl,rfl⟩
  rw [if_pos h3]
  rw [h3] at hPs
  by_cases h4:roomT t=0
  · rw [if_pos h4]
    rw [h4] at hR
    (refine aA<|rgN<|kas O<|aB<|aA<|aG<|aA<|rgN<|kmv O<|K.ptrNil O (by kernel_rfl) (.inl ⟨O,O⟩) dP<|kas O<|aB<|aF O ?_;refine aA<|rgN<|kmv O<|keq O O he0<|kas O<|aB<|aF O ?_;refine aH ?_;refine aA<|aA<|rgN<|kmv O<|kca O O hG<|kmv O<|kex O O<|kex O O<|kas O<|kas O<|aB<|aA<|rgN<|kmv O ?_;refine kne O O (r:=false) O<|kmv O<|gmv O O O<|gmv O O O<|bI O (dQ O O) ?_;refine aN O O (dQ O O) ?_;refine aO O O O (dQ O O) ?_;refine aX O O hne (dQ O O) ?_;refine kpf O O<|aB<|aF O ?_;refine aH ?_;refine aA<|aA<|rgN<|kmv O<|bI O dP<|kfa O O ?_;refine bJ O O O (by exact nl2 O O O) dP ?_;refine kmv O<|kca O O hPs<|kas O<|aB<|aA<|rgN<|kmv O<|kne O O (r:=false) O<|aB<|aF O ?_;refine aH ?_;refine aA<|aA<|rgN<|kmv O<|K.callR [(1000000,1000000)] (hR) O O (by exact (cO ⟨_,O,O⟩ trivial)) (by exact (bR (bR O (bR O (bR O (bR O (bR O (bR O (bR O O))))))) O)) O O O O dP<|keq O O (r:=true) O<|aB<|aE O ?_;refine aA<|rgN<|kas O<|aB<|aI ?_)
    exact ⟨[],⟨[_],⟨rfl,trivial⟩,rfl⟩,(by repeat' (first|exact trivial|refine cO ⟨_,rfl,?_⟩ ?_|refine cO ⟨_,rfl⟩ ?_|rfl|exact bV _ _ _ _|exact bW _ _ _ _|exact bX rfl)),rfl,rfl⟩
  · rw [if_neg h4]
    generalize roomT t=rm at *
    (refine aA<|rgN<|kas O<|aB<|aA<|aG<|aA<|rgN<|kmv O<|K.ptrNil O (by kernel_rfl) (.inl ⟨O,O⟩) dP<|kas O<|aB<|aF O ?_;refine aA<|rgN<|kmv O<|keq O O he0<|kas O<|aB<|aF O ?_;refine aH ?_;refine aA<|aA<|rgN<|kmv O<|kca O O hG<|kmv O<|kex O O<|kex O O<|kas O<|kas O<|aB<|aA<|rgN<|kmv O ?_;refine kne O O (r:=false) O<|kmv O<|gmv O O O<|gmv O O O<|bI O (dQ O O) ?_;refine aN O O (dQ O O) ?_;refine aO O O O (dQ O O) ?_;refine aX O O hne (dQ O O) ?_;refine kpf O O<|aB<|aF O ?_;refine aH ?_;refine aA<|aA<|rgN<|kmv O<|bI O dP<|kfa O O ?_;refine bJ O O O (by exact nl2 O O O) dP ?_;refine kmv O<|kca O O hPs<|kas O<|aB<|aA<|rgN<|kmv O<|kne O O (r:=false) O<|aB<|aF O ?_;refine aH ?_;refine aA<|aA<|rgN<|kmv O<|K.callR [(1000000,1000000)] (hR) O O (by exact (cO ⟨_,O,O⟩ trivial)) (by exact (bR (bR O (bR O (bR O (bR O (bR O (bR O (bR O O))))))) O)) O O O O dP<|keq O O (r:=false) (cP (by omega))<|aB<|aF O ?_;refine aH ?_;refine aA<|rgN<|kas O<|aB<|aI ?_)
    exact ⟨[],⟨[_],⟨rfl,trivial⟩,rfl⟩,(by repeat' (first|exact trivial|refine cO ⟨_,rfl,?_⟩ ?_|refine cO ⟨_,rfl⟩ ?_|rfl|exact bV _ _ _ _|exact bW _ _ _ _|exact bX rfl)),rfl,rfl⟩
theorem tAdd_no (t:Tb) (hk:TbOk t) (e:Nat) (he:e<18446744073709551616) (l:List Pt) (pad:Option Addr) (pcap:Nat) (hP:PartsC X pad l) (hl:l.length≤12∧∀ x∈l,x.val.length<4611686018427387904) (h:addE t e l≠0):MSpec Tryz.prog X 21 [Lp 1000000,Ln .u64 (e:Nat),Lx pad l.length pcap] [tB 1000000 t] (.tup [Sn .i64 0,Sn .i64 (addE t e l)]) [tB 1000000 t]:=by
  refine cE Tryz.func21 rfl (by kernel_rfl) rfl rfl (by exact (by repeat' (first|refine bR ?_ ?_|rfl|exact bT|exact bS|exact bU rfl))) rfl rfl ?_
  intro C
  refine LWP.ends (tab_open fun Hs He Hr vE vC vP ps h1 h2 h3 hI => ?_)
  obtain ⟨ad,cap,rfl⟩:=hI.ents.slice
  obtain ⟨cb,cc,rfl,hin⟩:=hI.sc
  rw [cV] at hI ⊢
  have hC:=checkAdd0 (tH X Hs He Hr) t hk ad pad (some ⟨cb,0,none⟩) cap pcap cc vP e l (hin.mono (tH_s h2 h3)) (hP.mono (tH_x h1 h2 h3)).parts hl.1 he
  generalize addE t e l=q at *
  (refine aA<|rgN<|kas O<|kas O<|aB<|aA<|aA<|rgN<|kmv O<|kmv O<|kmv O<|K.callR [(1000000,1000000)] (hC) O O (by exact (cO ⟨_,O,O⟩ trivial)) (by exact (bR (bR O (bR O (bR O (bR O (bR O (bR O (bR O O))))))) O)) O O O O dP<|kas O<|aB ?_;refine aA<|rgN<|kmv O<|kne O O (r:=true) (cR h)<|aB<|aE O ?_;refine aA<|rgN<|kmv O<|kas O<|kas O<|aB<|aI ?_)
  refine tab_shut h1 h2 h3 hI (bZ ?_)
  exact ⟨[],⟨[_,_],⟨rfl,rfl,trivial⟩,rfl⟩,(by repeat' (first|exact trivial|refine cO ⟨_,rfl,?_⟩ ?_|refine cO ⟨_,rfl⟩ ?_|rfl|exact bV _ _ _ _|exact bW _ _ _ _|exact bX rfl)),rfl,rfl⟩
set_option maxHeartbeats 6400000 in
theorem tAdd (t:Tb) (hk:TbOk t) (e:Nat) (he:e<18446744073709551616) (l:List Pt) (pad:Option Addr) (pcap:Nat) (hP:PartsC X pad l) (hl:l.length≤12∧∀ x∈l,x.val.length<4611686018427387904) (h:addE t e l=0):MSpec Tryz.prog X 21 [Lp 1000000,Ln .u64 (e:Nat),Lx pad l.length pcap] [tB 1000000 t] (.tup [Sn .i64 (t.l.length:Nat),Sn .i64 0]) [tB 1000000 (addT t e l)]:=by
  have h24:=t_len24 hk
  have hroom:=hk.room
  have hmost:=hk.most
  obtain ⟨_,hjust,hparts,_,hrm⟩:=TbOk.add hk he h
  refine cE Tryz.func21 rfl (by kernel_rfl) rfl rfl (by exact (by repeat' (first|refine bR ?_ ?_|rfl|exact bT|exact bS|exact bU rfl))) rfl rfl ?_
  intro C
  refine LWP.ends (tab_open fun Hs He Hr vE vC vP ps h1 h2 h3 hI => ?_)
  obtain ⟨ad,cap,rfl⟩:=hI.ents.slice
  obtain ⟨cb,cc,rfl,hin⟩:=hI.sc
  have hll:(t.l.map Rw.e).length=t.l.length:=cV _
  obtain ⟨ptad,ptcap,rfl,hPt⟩:=hI.ptrs
  have hps:ps.length=(onlyC t.sc.cs t.set).length:=by rw [hI.refs.len];exact colsG_len _ _ _
  rw [hll]
  have hC:=checkAdd0 (tH X Hs He Hr) t hk ad pad (some ⟨cb,0,none⟩) cap pcap cc (.slice ptad ps.length ptcap) e l (hin.mono (tH_s h2 h3)) (hP.mono (tH_x h1 h2 h3)).parts hl.1 he
  rw [h] at hC
  generalize hnc:(onlyC t.sc.cs t.set).length=nc at *
  (refine aA<|rgN<|kas O<|kas O<|aB<|aA<|aA<|rgN<|kmv O<|kmv O<|kmv O<|K.callR [(1000000,1000000)] (hC) O O (by exact (cO ⟨_,O,O⟩ trivial)) (by exact (bR (bR O (bR O (bR O (bR O (bR O (bR O (bR O O))))))) O)) O O O O dP<|kas O<|aB ?_;refine aA<|rgN<|kmv O<|kne O O (r:=false) O<|aB<|aF O ?_;refine aH ?_;refine aA<|aA<|rgN<|kmv O<|aQ O bY O dP ?_;refine kmv O<|aB<|aG ?_)
  refine cJ (fun m σ=>∃ (j:Nat) (H:Nat→Option Obj),j≤l.length∧m=l.length-j∧OwnedM C (joinM (joinM X Hs) He) H∧Refs H ps (colsG (addF t.l l j) t.most (onlyC t.sc.cs t.set))∧σ=⟨[(0,Lp 1000000),(1,Ln .u64 (e:Nat)),(21,Lx pad l.length pcap),(22,Ln .i64 (l.length:Nat)),(23,Ln .i64 (j:Nat))],[tS 1000000 t (vS ad t.l.length cap) (.slice (some ⟨cb,0,none⟩) nc cc) (.slice ptad ps.length ptcap)],joinM (joinM (joinM X Hs) He) H⟩) l.length
    (cA (σ':=⟨[(0,Lp 1000000),(1,Ln .u64 (e:Nat)),(21,Lx pad l.length pcap),(22,Ln .i64 (l.length:Nat)),(23,Ln .i64 (0:Nat))],[tS 1000000 t (vS ad t.l.length cap) (.slice (some ⟨cb,0,none⟩) nc cc) (.slice ptad ps.length ptcap)],tH X Hs He Hr⟩) (Le.of (by exact ⟨rfl,rfl,rfl,rfl,rfl,trivial⟩) (by exact ⟨rfl,trivial⟩) (by exact rfl) (by exact rfl) (by repeat' (first|refine bR ?_ ?_|rfl|exact bT|exact bS|exact bU rfl))) (bZ ⟨0,Hr,by omega,by omega,h3,by
      rw [show colsG (addF t.l l 0) t.most (onlyC t.sc.cs t.set)=colsT t from colsG_congr fun k d _=>addF_zero t.l l k d]
      exact hI.refs,O⟩)) ?_
  rintro m σ ⟨j,H,hj,rfl,hO,hR,rfl⟩
  by_cases hlt:j<l.length
  · obtain ⟨p,hp⟩:∃ p,l[j]? = some p:=⟨_,cW hlt⟩
    have hpm:=dB hp
    have hidm:=just_in hjust p hpm
    obtain ⟨k,hpl⟩:∃ k,placeT t.set p.comp=some k:=by
      have:(placeT t.set p.comp).isSome=true:=by rw [← t_has,← any_ids,List.any_eq_true];exact ⟨_,hidm,cS rfl⟩
      exact Option.isSome_iff_exists.1 this
    obtain ⟨c,hc,hid,hfs,_⟩:=t_at hk hpl
    have hfit:fitErr c.fs p.val=0:=by have:=part_fits (parts_zero hparts p hpm);rw [hfs] at this;exact this
    have hsz:=t_size hk hc
    have hXm:∀ b o,X b=some o→joinM (joinM (joinM X Hs) He) H b=some o:=tH_x h1 h2 hO
    obtain ⟨blk,off,arr,el,fr,vad,vcap,rfl,hX,hps2,hpc,_,_,hN,_⟩:=(hP.mono hXm).get hp
    have hio:off+Int.toNat (j:Int)*2=off+j*2:=by simp
    have hpl0:=place0 (joinM (joinM (joinM X Hs) He) H) t (.slice ad t.l.length cap) (.slice ptad ps.length ptcap) (onlyC t.sc.cs t.set) (some ⟨cb,0,none⟩) cc p.comp (hin.mono (tH_s h2 hO)) (by omega)
    rw [t_place hk,hpl,hnc] at hpl0
    replace hpl0:=(show MSpec _ _ _ [Lp 1000000,Ln .i64 p.comp] _ (Ln .i64 (k:Nat)) _ from hpl0)
    obtain ⟨cblk,coff,carr,cel,cfr,fad,fcap,hq,hcX,hcsz,hccs,_,_,g3,hF⟩:=(hin.mono (tH_s (X:=X) h2 hO)).get hc
    simp only [Option.some.injEq,Addr.mk.injEq] at hq
    obtain ⟨rfl,rfl,_⟩:=hq
    have hPk:=lPack_spec (joinM (joinM (joinM X Hs) He) H) fad vad fcap vcap c.fs p.val hF (by omega) hN (hl.2 p hpm)
    rw [hfit,show packR c.fs p.val=packB c.fs p.val from if_pos hfit] at hPk
    have hkc:=(List.getElem?_eq_some_iff.1 hc).1
    have hio2:0+Int.toNat (k:Int)*3=0+k*3:=by simp
    have hBl:=hsz.2.2 p.val
    obtain ⟨hf1,hf2⟩:=addF_here (l:=t.l) (k:=k) hjust hp hid
    have hothers:∀ k' d,k'≠k→(onlyC t.sc.cs t.set)[k']? = some d→addF t.l l (j+1) k' d=addF t.l l j k' d:=fun k' d hne hd=>addF_there hp fun e'=>by
      have hpw:=(pair16 (goodC16 hk.sc)).filter (fun c=>hasB t.set c.id)
      rw [List.pairwise_iff_getElem] at hpw
      obtain ⟨hk1,rfl⟩:=List.getElem?_eq_some_iff.1 hd
      obtain ⟨hk2,rfl⟩:=List.getElem?_eq_some_iff.1 hc
      rcases Nat.lt_or_gt_of_ne hne with hlt'|hlt'
      · have:=hpw k' k hk1 hk2 hlt'
        unfold onlyC at e' hid
        omega
      · have:=hpw k k' hk2 hk1 hlt'
        unfold onlyC at e' hid
        omega
    generalize hBB:packB c.fs p.val=B at *
    (refine aA<|rgN<|klt O O (cN (by omega))<|aB<|aA<|aE O ?_;refine aH ?_;refine aA<|aG<|aA<|rgN<|aR O O bY (by omega) hio dP<|aY O hX (by kernel_rfl) hps2 hpc dP<|aP O dP ?_;refine aM O O O O O O dP ?_;refine aB<|aA<|rgN<|kmv O<|kfa O O ?_;refine kl1 O O O<|K.callR [(1000000,1000000)] (hpl0) O O (by exact (cO ⟨_,O,O⟩ trivial)) (by exact (bR (bR O (bR O (bR O (bR O (bR O (bR O (bR O O))))))) O)) O O O O dP<|kas O<|aB<|aA<|rgD mixed<|kmv O<|bI O dP<|kfa O O ?_;refine kfa O O ?_;refine kl1 O O O<|kmv O<|aR O O bY (by omega) hio2 dP<|bH O O dP ?_;refine aW O hcX O g3 dP<|kfa O O ?_;refine kl1 O O O<|kca O O hPk<|kmv O<|kex O O<|kex O O<|kas O<|kas O<|aB<|rgA ?_)
    refine LWP.le (σ':=⟨[(11,Ln .i64 (k:Nat)),(12,Ls B),(0,Lp 1000000),(1,Ln .u64 (e:Nat)),(21,Lx (some ⟨blk,off,none⟩) l.length pcap),(22,Ln .i64 (l.length:Nat)),(23,Ln .i64 (j:Nat))],[tS 1000000 t (vS ad t.l.length cap) (.slice (some ⟨cb,0,none⟩) nc cc) (.slice ptad ps.length ptcap)],joinM (joinM (joinM X Hs) He) H⟩) (Le.of (by exact ⟨O,O,O,O,O,O,O,trivial⟩) (by exact ⟨O,trivial⟩) (by exact O) (by exact O) (by repeat' (first|refine bR ?_ ?_|rfl|exact bT|exact bS|exact bU O))) ?_
    refine tcol_open (kk:=501) hO hR (colsG_at hc) O O O (by omega) fun b H0 hb hO0 hback => ?_
    obtain ⟨pblk,parr,pel,pfr,rfl,hPX,hPa⟩:=hPt k b hb
    have hPX2:joinM (joinM (joinM X Hs) He) H0 pblk=some (.cells parr pel pfr):=tH_s h2 hO0 _ _ hPX
    have hkl:=(List.getElem?_eq_some_iff.1 hb).1
    have hio3:0+Int.toNat (k:Int)*1=k:=by simp
    have hcl:(colL t.l k c).length=t.l.length:=cV _
    have happ:appE (rowSize c.fs) t.most (colL t.l k c).length B=0:=by
      unfold appE
      unfold roomT at hrm
      rw [if_neg (fun hn=>hn hBl),if_neg (by omega)]
    have hg:=(cAppend_ok (joinM (joinM (joinM X Hs) He) H0) (rowSize c.fs) t.most (colL t.l k c) B happ).at (b:=b)
    have hroot:=colR_root (rowSize c.fs) t.most (colL t.l k c++[B])
    have hadd:IntKind.i64.wrap (((j:Nat):Int)+1)=((j+1:Nat):Int):=by rw [cF (by omega)];omega
    rw [hf1]
    (refine rgN<|kmv O<|bI O dP<|kfa O O ?_;refine kl1 O O O<|kmv O<|aR O O bY (by omega) hio3 dP<|aW O hPX2 O hPa dP<|kmv O<|aU [(1000000,501)] [atB 501 b (rowSize c.fs) t.most (colL t.l k c++[B])] (hg) O O (by exact (cO ⟨_,O,O⟩ trivial)) (by exact (bR O O)) O O O O (by exact (.box O O .nil)) dP<|aB<|rgN<|kad O O hadd<|kmv O<|aB ?_)
    refine cA (σ':=⟨[(0,Lp 1000000),(1,Ln .u64 (e:Nat)),(21,Lx (some ⟨blk,off,none⟩) l.length pcap),(22,Ln .i64 (l.length:Nat)),(23,Ln .i64 (j+1:Nat))],[atB 501 b (rowSize c.fs) t.most (colL t.l k c++[B]),tS 1000000 t (vS ad t.l.length cap) (.slice (some ⟨cb,0,none⟩) nc cc) (.slice (some ⟨pblk,0,none⟩) ps.length ptcap)],joinM (joinM (joinM X Hs) He) H0⟩) (Le.of (by exact ⟨O,O,O,O,O,trivial⟩) (by exact ⟨O,O,trivial⟩) (by exact O) (by exact O) (by repeat' (first|refine bR ?_ ?_|rfl|exact bT|exact bS|exact bU O))) ?_
    refine tcol_shut hO0 hroot O O O fun m' Hc' g1 g2 g3 g4 => ?_
    have hB:=hback _ m' Hc' g1 g2 g3
    rw [← hf2,colsG_set hc (g:=addF t.l l (j+1)) hothers] at hB
    exact bZ ⟨l.length-(j+1),by omega,j+1,_,by omega,O,g4,hB,O⟩
  · have e':j=l.length:=by omega
    subst e'
    have hRn:Refs H ps (colsT (addT t e l)):=by
      have:colsT (addT t e l)=colsG (addF t.l l l.length) t.most (onlyC t.sc.cs t.set):=by
        show colsG (colL (t.l++[⟨e,sortP (idsL t.set) l⟩])) t.most (onlyC t.sc.cs t.set)=_
        exact colsG_congr fun k d hd=>(addF_all hk hjust e hd).symm
      rw [this];exact hR
    have hents:(addT t e l).l.map Rw.e=t.l.map Rw.e++[e]:=by
      show (t.l++[_]).map Rw.e=_
      rw [dF];rfl
    have hb256:t.l.length<256:=by unfold roomT at hrm;omega
    obtain ⟨hsw1,hsw2,hsw3⟩:=OwnedM.swap h2 hO
    have hE:=hI.ents
    have htwo:∀ r∈(addT t e l).l,∀ p∈r.p,∀ u∈p.val,In2 u.2:=fun r hr p hp=>by
      rcases List.mem_append.1 hr with hr|hr
      · exact hI.two r hr p hp
      · rw [List.mem_singleton.1 hr] at hp
        obtain ⟨i,hi⟩:=List.mem_iff_getElem?.1 (sort_mem hp)
        obtain ⟨_,_,_,_,_,_,_,_,_,_,_,_,_,hN,_⟩:=hP.get hi
        exact hN.in2
    rw [hsw3]
    rw [hll] at hE
    have hnew:entV (t.l.map Rw.e++[e])=entV (t.l.map Rw.e)++[.int .u64 (e:Nat)]:=by unfold entV;rw [dF];rfl
    have hsub:IntKind.i64.wrap (((t.l.length+1:Nat):Int)-1)=((t.l.length:Nat):Int):=by rw [cF (by omega)];omega
    have hlen1:(entV (t.l.map Rw.e++[e])).length=(t.l.length+1)*1:=by unfold entV;rw [cV,cU,hll];simp
    have hfin:∀ (He':Nat→Option Obj) (Mid:St→Prop),OwnedM C (joinM (joinM X Hs) H) He'→(∀ v HE,OwnedM C (joinM (joinM X Hs) H) HE→EntsAt HE v (t.l.map Rw.e++[e])→Leads _ C Mid ⟨[(6,Ln .i64 (t.l.length:Nat)),(7,Ln .i64 0)],[tS 1000000 t (.val v) (.slice (some ⟨cb,0,none⟩) nc cc) (.slice ptad ps.length ptcap)],joinM (joinM (joinM X Hs) H) HE⟩) →
        Leads (Tryz.f21).ntmps C Mid ⟨[(6,Ln .i64 (t.l.length:Nat)),(7,Ln .i64 0)],[(1000000,some ⟨109,[.val (.int .u32 (t.set:Nat)),.val (.int .i64 (t.most:Nat)),.val (.int .i64 (t.kept:Nat))] ++ .slc 501 0 (t.l.length+1) 1::[.val (.int .i64 t.sc.ver),.val (.slice (some ⟨cb,0,none⟩) nc cc),.val (.slice ptad ps.length ptcap)],false⟩),(501,some ⟨61,(entV (t.l.map Rw.e++[e])).map CV.val,true⟩)],joinM (joinM (joinM X Hs) H) He'⟩:=fun He' Mid hO' hm =>
      Leads.closeCell hO' hlen1 rfl rfl rfl rfl rfl rfl fun b o v g1 g2 g3 g4=>hm v _ g3 (.inr ⟨b,g4⟩)
    have hlast:∀ v HE,OwnedM C (joinM (joinM X Hs) H) HE→EntsAt HE v (t.l.map Rw.e++[e])→Leads (Tryz.f21).ntmps C (retM Tryz.prog Tryz.f21 [tB 1000000 t] (.tup [Sn .i64 (t.l.length:Nat),Sn .i64 0]) [tB 1000000 (addT t e l)] .ret) ⟨[(6,Ln .i64 (t.l.length:Nat)),(7,Ln .i64 0)],[tS 1000000 t (.val v) (.slice (some ⟨cb,0,none⟩) nc cc) (.slice ptad ps.length ptcap)],joinM (joinM (joinM X Hs) H) HE⟩:=fun v HE k0 kE=>by
      obtain ⟨k1,k2,k3⟩:=OwnedM.swap hsw1 k0
      rw [k3]
      refine tab_shut (t:=addT t e l) h1 k1 k2 ⟨⟨cb,cc,by rw [← hnc];rfl,hin⟩,⟨ptad,ptcap,rfl,hPt⟩,hRn,by rw [hents];exact kE,htwo⟩ (bZ ?_)
      exact ⟨[],⟨[_,_],⟨rfl,rfl,trivial⟩,rfl⟩,(by repeat' (first|exact trivial|refine cO ⟨_,rfl,?_⟩ ?_|refine cO ⟨_,rfl⟩ ?_|rfl|exact bV _ _ _ _|exact bW _ _ _ _|exact bX rfl)),rfl,rfl⟩
    rcases hE with ⟨hv,hz⟩|⟨db,hd⟩
    · have hz0:t.l.length=0:=by rw [← hll,hz];rfl
      simp only [nilSlc,Value.slice.injEq] at hv
      obtain ⟨rfl,_,rfl⟩:=hv
      rw [hz] at hfin hlast
      rw [hz0] at hfin hlast ⊢
      have hsub1:IntKind.i64.wrap (((1:Nat):Int)-1)=((0:Nat):Int):=by rw [cF (by omega)];rfl
      (refine aA<|rgN<|klt O O (cL (by omega))<|aB<|aA<|aF O ?_;refine aJ<|aA<|rgN<|kmv O<|kmv O<|bI O dP<|kfa O O ?_;refine kl1 O O O<|kmv O<|aZ (zs:=[.int .u64 0]) (sz:=1) (e:=61) (cs':=[.val (.int .u64 (e:Nat))]) (by kernel_rfl) O O O O O O dP<|K.appendNil (by_:=8) (e:=61) (e2:=61) (l2:=[.val (.int .u64 (e:Nat))]) O O O (dL _) O O (by decide) (by kernel_rfl) (by kernel_rfl) (by omega) (by omega) O dP ?_;refine bI O dP<|kfa O O ?_;refine bG O O O O O (nl7 O O O O O O O O) dP<|aB<|aA<|rgN<|kmv O<|bI O dP<|kfa O O ?_;refine kl1 O O O<|K.lenSlc O bY O dP ?_;refine bA O O hsub1 dP<|kas O<|kas O<|aB<|aI ?_)
      refine cA (σ':=⟨[(6,Ln .i64 (0:Nat)),(7,Ln .i64 0)],[(1000000,some ⟨109,[.val (.int .u32 (t.set:Nat)),.val (.int .i64 (t.most:Nat)),.val (.int .i64 (t.kept:Nat))] ++ .slc 501 0 (0+1) 1::[.val (.int .i64 t.sc.ver),.val (.slice (some ⟨cb,0,none⟩) nc cc),.val (.slice ptad ps.length ptcap)],false⟩),(501,some ⟨61,(entV ([]++[e])).map CV.val,true⟩)],joinM (joinM (joinM X Hs) H) He⟩) (Le.ofR [(501,63)] (by exact ⟨rfl,rfl,trivial⟩) (by repeat' (first|exact trivial|refine cO ⟨_,rfl,?_⟩ ?_|refine cO ⟨_,rfl⟩ ?_|rfl|exact bV _ _ _ _|exact bW _ _ _ _|exact bX rfl)) (by exact rfl) (by exact rfl) (by repeat' (first|refine bR ?_ ?_|rfl|exact bT|exact bS|exact bU rfl)) (by exact rfl) (by exact rfl)) ?_
      exact hfin _ _ hsw2 hlast
    · have hel:(entV (t.l.map Rw.e)).length=t.l.length*1:=by unfold entV;rw [cV,hll];omega
      have hcl1:((entV (t.l.map Rw.e)).map CV.val).length=t.l.length*1:=by rw [cV];exact hel
      (refine aA<|rgN<|klt O O (cL (by omega))<|aB<|aA<|aF O ?_;refine aJ<|aA ?_)
      refine LWP.le (σ':=⟨[(0,Lp 1000000),(1,Ln .u64 (e:Nat))],[tS 1000000 t (vS ad t.l.length cap) (.slice (some ⟨cb,0,none⟩) nc cc) (.slice ptad ps.length ptcap)],joinM (joinM (joinM X Hs) H) He⟩) (Le.of (by exact ⟨O,O,trivial⟩) (by exact ⟨O,trivial⟩) (by exact O) (by exact O) (by repeat' (first|refine bR ?_ ?_|rfl|exact bT|exact bS|exact bU O))) ?_
      refine LWP.openCell (A:=[.val (.int .u32 (t.set:Nat)),.val (.int .i64 (t.most:Nat)),.val (.int .i64 (t.kept:Nat))]) (B:=[.val (.int .i64 t.sc.ver),.val (.slice (some ⟨cb,0,none⟩) nc cc),.val (.slice ptad ps.length ptcap)]) (k:=502) (sz:=1) (len:=t.l.length) hsw2 hd hel (by omega) O O O O O ?_
      (refine rgN<|kmv O<|kmv O<|bI O dP<|kfa O O ?_;refine kl1 O O O<|kmv O<|aZ (zs:=[.int .u64 0]) (sz:=1) (e:=61) (cs':=[.val (.int .u64 (e:Nat))]) (by kernel_rfl) O O O O O O dP<|bO (by_:=8) (e2:=61) (l2:=[.val (.int .u64 (e:Nat))]) (nl:=t.l.length+1) (nc:=(entV (t.l.map Rw.e++[e])).map .val) O O hcl1 O O (dL _) O O (by kernel_rfl) (by kernel_rfl) (by omega) (by omega) O O (by rw [hnew,dF];rfl) dP<|bI O dP<|kfa O O ?_;refine bG O O O O O (nl7 O O O O O O O O) dP<|aB<|aA<|rgN<|kmv O<|bI O dP<|kfa O O ?_;refine kl1 O O O<|K.lenSlc O bY O dP ?_;refine bA O O hsub dP<|kas O<|kas O<|aB<|aI ?_)
      refine cA (σ':=⟨[(6,Ln .i64 (t.l.length:Nat)),(7,Ln .i64 0)],[(1000000,some ⟨109,[.val (.int .u32 (t.set:Nat)),.val (.int .i64 (t.most:Nat)),.val (.int .i64 (t.kept:Nat))] ++ .slc 501 0 (t.l.length+1) 1::[.val (.int .i64 t.sc.ver),.val (.slice (some ⟨cb,0,none⟩) nc cc),.val (.slice ptad ps.length ptcap)],false⟩),(501,some ⟨61,(entV (t.l.map Rw.e++[e])).map CV.val,true⟩)],joinM (joinM (joinM X Hs) H) (cutM He db)⟩) (Le.ofR [(501,63)] (by exact ⟨rfl,rfl,trivial⟩) (by repeat' (first|exact trivial|refine cO ⟨_,rfl,?_⟩ ?_|refine cO ⟨_,rfl⟩ ?_|rfl|exact bV _ _ _ _|exact bW _ _ _ _|exact bX rfl)) (by exact rfl) (by exact rfl) (by repeat' (first|refine bR ?_ ?_|rfl|exact bT|exact bS|exact bU rfl)) (by exact rfl) (by exact rfl)) ?_
      exact hfin _ _ (hsw2.cut db) hlast
end Go.Proofs.YtjifibloagkeeaaGreat
end
section
namespace Go.Proofs.YtjifibloagkeeaaGreat
open Go Go.Lg Go.Lg.Fld Go.Lg.Sg Go.Lg.Col
set_option maxRecDepth 100000
def pvs (ps:List Nat):List Value:=ps.map fun b=>.pointer (some ⟨b,0,none⟩)
theorem pvs_len (ps:List Nat):(pvs ps).length=ps.length:=cV _
theorem ptrs_leads {H:Nat→Option Obj} {b:Nat} {v:Value} {el:TypeId} {ps:List Nat} (h:LeadsTo H b v el 1 (pvs ps)):PtrsIn H v ps:=by
  obtain ⟨len,cap,arr,fr,rfl,h2,_,_,h5,sp,h6⟩:=h
  rw [pvs_len] at h2
  have e:len=ps.length:=by omega
  refine ⟨some ⟨b,0,none⟩,cap,by rw [e],fun i x hx=>⟨b,arr,el,fr,rfl,h5,?_⟩⟩
  rw [← Array.getElem?_toList,h6,dO (by rw [pvs_len];exact (List.getElem?_eq_some_iff.1 hx).1)]
  unfold pvs
  rw [dJ,hx];rfl
abbrev npt (k:Nat):List Value:=List.replicate k (Value.pointer none)
variable (X:Nat→Option Obj)
abbrev arB (k:Nat) (l:List CV):Nat×Option Box:=(k,some ⟨110,l,false⟩)
abbrev tO (k:Nat) (t:Tb) (vE vC vP:CV):Nat×Option Box:=(k,some ⟨109,[.val (.int .u32 (t.set:Nat)),.val (.int .i64 (t.most:Nat)),.val (.int .i64 (t.kept:Nat)),vE,.val (.int .i64 t.sc.ver),vC,vP],false⟩)
set_option maxHeartbeats 12800000 in
theorem tClone (t:Tb) (hk:TbOk t):MSpec Tryz.prog X 40 [Lp 1000000] [tB 1000000 t] (Lp 1000001) [tB 1000000 t,tB 1000001 t]:=by
  have h24:=t_len24 hk
  have hroom:=hk.room
  have hmost:=hk.most
  refine cE Tryz.func40 rfl (by kernel_rfl) rfl rfl (by exact (by repeat' (first|refine bR ?_ ?_|rfl|exact bT|exact bS|exact bU rfl))) rfl rfl ?_
  intro C
  refine LWP.ends (tab_open fun Hs He Hr vE vC vP ps h1 h2 h3 hI => ?_)
  obtain ⟨cb,cc,rfl,hin⟩:=hI.sc
  obtain ⟨ptad,ptcap,hvP,hPt⟩:=hI.ptrs
  have hptr:=hI.ptrs
  subst hvP
  have hps:ps.length=(onlyC t.sc.cs t.set).length:=by rw [hI.refs.len];exact colsG_len _ _ _
  have hll:(t.l.map Rw.e).length=t.l.length:=cV _
  generalize hnc:(onlyC t.sc.cs t.set).length=nc at *
  have hE:=hI.ents
  have hone:vE.oneCell'=true:=by
    obtain ⟨ad,cap,e⟩:=hE.slice
    rw [e];rfl
  have hso:[CV.val (.int .u32 (t.set:Nat)),.val (.int .i64 (t.most:Nat)),.val (.int .i64 (t.kept:Nat)),.val vE,.val (.int .i64 t.sc.ver),.val (.slice (some ⟨cb,0,none⟩) nc cc),.val (.slice ptad ps.length ptcap)].all CV.solid=true:=by
    refine bR O (bR O (bR O (bR hone O)))
  (refine aA<|rgN<|kas O<|aB<|aA<|aA<|rgN<|kmv O<|K.ptrNil O (by kernel_rfl) (.inl ⟨O,O⟩) dP<|aB<|aF O ?_;refine aH ?_;refine aA<|rgN<|kmv O<|bI O dP<|aK O O O dP ?_;refine aP O dP ?_;refine aM O O O hso O O dP ?_;refine aB<|aA ?_)
  refine LWP.le (σ':=⟨[(0,Lp 1000000),(3,Lp 3)],[tS 3 t (.val vE) (.slice (some ⟨cb,0,none⟩) nc cc) (.slice ptad ps.length ptcap),tS 1000000 t (.val vE) (.slice (some ⟨cb,0,none⟩) nc cc) (.slice ptad ps.length ptcap)],tH X Hs He Hr⟩) (Le.of (by exact ⟨O,O,trivial⟩) (by exact ⟨O,O,trivial⟩) (by exact O) (by exact O) (by repeat' (first|refine bR ?_ ?_|rfl|exact bT|exact bS|exact bU O))) ?_
  repeat refine aA ?_
  refine LWP.meetL (fun σ=>∃ (v2:Value) (HE:Nat→Option Obj),OwnedM C (tH X Hs He Hr) HE∧EntsAt HE v2 (t.l.map Rw.e)∧σ=⟨[(0,Lp 1000000),(3,Lp 3)],[tS 3 t (.val v2) (.slice (some ⟨cb,0,none⟩) nc cc) (.slice ptad ps.length ptcap),tS 1000000 t (.val vE) (.slice (some ⟨cb,0,none⟩) nc cc) (.slice ptad ps.length ptcap)],joinM (tH X Hs He Hr) HE⟩) ?_ ?_
  · by_cases hv:vE=nilSlc
    · have hz:t.l.map Rw.e=[]:=by
        rcases hE with ⟨_,h⟩|⟨db,len,cap,arr,fr,e,_⟩
        · exact h
        · rw [e] at hv;cases hv
      subst hv
      clear hso hone
      have hC:=kClEn_nil (tH X Hs He Hr) 0
      unfold nilSlc at *
      (refine rgN<|kmv O<|bI O dP<|kfa O O ?_;refine kl1 O O O<|kca O O hC<|kfa O O ?_;refine bG O O O O O (nl7 O O O O O O O O) dP<|aB ?_)
      exact cA (σ':=⟨[(0,Lp 1000000),(3,Lp 3)],[tS 3 t (.val nilSlc) (.slice (some ⟨cb,0,none⟩) nc cc) (.slice ptad ps.length ptcap),tS 1000000 t (.val nilSlc) (.slice (some ⟨cb,0,none⟩) nc cc) (.slice ptad ps.length ptcap)],tH X Hs He Hr⟩) (Le.of (by exact ⟨rfl,rfl,trivial⟩) (by exact ⟨rfl,rfl,trivial⟩) (by exact rfl) (by exact rfl) (by repeat' (first|refine bR ?_ ?_|rfl|exact bT|exact bS|exact bU rfl))) (bZ ⟨nilSlc,fun _=>none,OwnedM.nil _ _,.inl ⟨rfl,hz⟩,by rw [joinM_nil];rfl⟩)
    · obtain ⟨db,cap,hve,hR⟩:=entV_reads (Y:=tH X Hs He Hr) hE hv (tH_e h3)
      have hC:=kClEn (tH X Hs He Hr) db cap (t.l.map Rw.e) hR (by omega)
      subst hve
      have hel:(entV (t.l.map Rw.e)).length=(t.l.map Rw.e).length*1:=by unfold entV;rw [cV];omega
      generalize t.l.map Rw.e=L at *
      (refine rgN<|kmv O<|bI O dP<|kfa O O ?_;refine kl1 O O O<|bE [(1000001,601)] (.sv (.one (.slc 601 0 L.length 1))) [enB 601 L] (hC) O O (by exact trivial) O O O O O (by exact (.box O (bW _ _ _ _) .nil)) dP<|kfa O O ?_;refine bG O O O O O (nl7 O O O O O O O O) dP<|aB ?_)
      refine cA (σ':=⟨[(0,Lp 1000000),(3,Lp 3)],[(3,some ⟨109,[.val (.int .u32 (t.set:Nat)),.val (.int .i64 (t.most:Nat)),.val (.int .i64 (t.kept:Nat))] ++ .slc 601 0 L.length 1::[.val (.int .i64 t.sc.ver),.val (.slice (some ⟨cb,0,none⟩) nc cc),.val (.slice ptad ps.length ptcap)],false⟩),(601,some ⟨61,(entV L).map .val,true⟩),tS 1000000 t (vS (some ⟨db,0,none⟩) L.length cap) (.slice (some ⟨cb,0,none⟩) nc cc) (.slice ptad ps.length ptcap)],joinM (tH X Hs He Hr) (fun _=>none)⟩) (by rw [joinM_nil];exact Le.of (by exact ⟨rfl,rfl,trivial⟩) (by exact ⟨rfl,rfl,rfl,trivial⟩) (by exact rfl) (by exact rfl) (by repeat' (first|refine bR ?_ ?_|rfl|exact bT|exact bS|exact bU rfl))) ?_
      exact Leads.closeCell (OwnedM.nil _ _) hel O O O O O O fun b o v g1 _ g3 g4=>bZ ⟨v,_,g3,.inr ⟨b,g4⟩,O⟩
  rintro σ ⟨v2,HE,hOE,hE2,rfl⟩
  obtain ⟨a1,a2,a3⟩:=OwnedM.swap h3 hOE
  rw [a3]
  have hYs:∀ b o,Hs b=some o→joinM (joinM X Hs) He b=some o:=fun b o hb=>joinM_has h2 (joinM_in hb)
  have hM1:∀ b o,Hs b=some o→joinM (joinM (joinM (joinM X Hs) He) HE) Hr b=some o:=fun b o hb=>joinM_has a2 (joinM_has a1 (hYs b o hb))
  have hCl:=pCloneBig (joinM (joinM (joinM (joinM X Hs) He) HE) Hr) t.sc.ver (some ⟨cb,0,none⟩) cc (onlyC t.sc.cs t.set) (hin.mono hM1) (by omega) (fun c hc=>by
    obtain ⟨i,hi⟩:=List.mem_iff_getElem?.1 hc
    have:=(t_size hk hi).1
    omega)
  rw [hnc] at hCl
  (refine aA<|rgN<|kmv O<|bI O dP<|kfa O O ?_;refine bJ O O O (by exact nl2 O O O) dP ?_;refine bE [(1000001,602)] (.sv (.agg [.val (.int .i64 t.sc.ver),.slc 602 0 nc 3])) [scB 602 (onlyC t.sc.cs t.set)] (hCl) O O (by exact trivial) O O O O O (by exact (.box O O .nil)) dP<|kfa O O ?_;refine K.store O O O O (by kernel_rfl) (Nat.le_of_ble_eq_true O) O dP<|aB<|aA ?_)
  refine LWP.le (σ':=⟨[(0,Lp 1000000),(3,Lp 3)],[(3,some ⟨109,[.val (.int .u32 (t.set:Nat)),.val (.int .i64 (t.most:Nat)),.val (.int .i64 (t.kept:Nat)),.val v2,.val (.int .i64 t.sc.ver)] ++ .slc 602 0 nc 3::[.val (.slice ptad ps.length ptcap)],false⟩),scB 602 (onlyC t.sc.cs t.set),tS 1000000 t (.val vE) (.slice (some ⟨cb,0,none⟩) nc cc) (.slice ptad ps.length ptcap)],joinM (joinM (joinM (joinM X Hs) He) HE) Hr⟩) (Le.of (by exact ⟨O,O,trivial⟩) (by exact ⟨O,O,O,trivial⟩) (by exact O) (by exact O) (by repeat' (first|refine bR ?_ ?_|rfl|exact bT|exact bS|exact bU O))) ?_
  refine LWP.fixCell O O O O O O fun ρ H2 cc2 hsc hO2 hcc2 _ => ?_
  obtain ⟨cb2,cm2⟩:=ρ
  have hin2:CompsIn H2 (some ⟨cb2,0,none⟩) (onlyC t.sc.cs t.set):=scR_in hsc fun _ _ h=>h
  obtain ⟨b1,b2,b3⟩:=OwnedM.swap a2 hO2
  rw [b3]
  have hmk:slcBuild Tryz.prog 107 ps.length=some (npt ps.length,1,110):=slcBuild_one (by kernel_rfl) (by kernel_rfl) (by omega)
  (refine rgN<|kmv O<|bI O dP<|kfa O O ?_;refine kl1 O O O<|aQ O bY O dP ?_;refine K.makeSlc (m:=ps.length) (bytes:=8) O O hmk (by kernel_rfl) (by omega) O O dP<|kfa O O ?_;refine bG O O O O O (nl7 O O O O O O O O) dP<|aB<|aA<|aA<|rgN<|kmv O<|bI O dP<|kfa O O ?_;refine kl1 O O O<|aQ O bY O dP ?_;refine kmv O<|aB<|aG ?_)
  refine cJ (fun m σ=>∃ (j:Nat) (qs:List Nat) (Hn H:Nat→Option Obj),j≤ps.length∧m=ps.length-j∧OwnedM C (joinM (joinM (joinM (joinM X Hs) He) HE) H2) Hn∧OwnedM C (joinM (joinM (joinM (joinM (joinM X Hs) He) HE) H2) Hn) H∧Refs H ps (colsT t)∧Refs Hn qs ((colsT t).take j)∧σ=⟨[(0,Lp 1000000),(3,Lp 3),(33,.sv (.one (vS ptad ps.length ptcap))),(34,Ln .i64 (ps.length:Nat)),(35,Ln .i64 (j:Nat))],[arB 603 ((pvs qs++npt (ps.length-j)).map .val),tO 3 t (.val v2) (.val (.slice (some ⟨cb2,0,none⟩) nc cc2)) (.slc 603 0 ps.length 1),tS 1000000 t (.val vE) (.slice (some ⟨cb,0,none⟩) nc cc) (.slice ptad ps.length ptcap)],joinM (joinM (joinM (joinM (joinM (joinM X Hs) He) HE) H2) Hn) H⟩) ps.length
    (cA (σ':=⟨[(0,Lp 1000000),(3,Lp 3),(33,.sv (.one (vS ptad ps.length ptcap))),(34,Ln .i64 (ps.length:Nat)),(35,Ln .i64 (0:Nat))],[arB 603 ((pvs []++npt (ps.length-0)).map .val),tO 3 t (.val v2) (.val (.slice (some ⟨cb2,0,none⟩) nc cc2)) (.slc 603 0 ps.length 1),tS 1000000 t (.val vE) (.slice (some ⟨cb,0,none⟩) nc cc) (.slice ptad ps.length ptcap)],joinM (joinM (joinM (joinM (joinM X Hs) He) HE) H2) Hr⟩) (Le.ofR [(603,28)] (by exact ⟨rfl,rfl,rfl,rfl,rfl,trivial⟩) (by repeat' (first|exact trivial|refine cO ⟨_,rfl,?_⟩ ?_|refine cO ⟨_,rfl⟩ ?_|rfl|exact bV _ _ _ _|exact bW _ _ _ _|exact bX rfl)) (by exact rfl) (by exact rfl) (by repeat' (first|refine bR ?_ ?_|rfl|exact bT|exact bS|exact bU rfl)) (by exact rfl) (by exact rfl)) (bZ ⟨0,[],fun _=>none,Hr,by omega,by omega,OwnedM.nil _ _,by rw [joinM_nil];exact b2,hI.refs,Refs.nil _,by rw [joinM_nil]⟩)) ?_
  rintro m σ ⟨j,qs,Hn,H,hj,rfl,hOn,hO,hR,hRn,rfl⟩
  have hqs:qs.length=j:=by rw [hRn.len,cY];have:=hR.len;omega
  by_cases hlt:j<ps.length
  · obtain ⟨c,hc⟩:∃ c,(onlyC t.sc.cs t.set)[j]? = some c:=⟨_,cW (by omega)⟩
    obtain ⟨b,hb⟩:∃ b,ps[j]? = some b:=⟨_,cW hlt⟩
    obtain ⟨pblk,parr,pel,pfr,rfl,hPX,hPa⟩:=hPt j b hb
    have hPX2:joinM (joinM (joinM (joinM (joinM (joinM X Hs) He) HE) H2) Hn) H pblk=some (.cells parr pel pfr):=joinM_has hO (joinM_has hOn (joinM_has b1 (joinM_has a1 (hYs _ _ hPX))))
    have hio:0+Int.toNat (j:Int)*1=j:=by simp
    have hadd:IntKind.i64.wrap (((j:Nat):Int)+1)=((j+1:Nat):Int):=by rw [cF (by omega)];omega
    (refine aA<|rgN<|klt O O (cN (by omega))<|aB<|aA<|aE O ?_;refine aH ?_;refine aA<|aG<|aA<|rgN<|kmv O<|aR O O bY (by omega) hio dP<|aW O hPX2 O hPa dP<|kas O<|kas O<|aB ?_)
    refine LWP.le (σ':=⟨[(4,Ln .i64 (j:Nat)),(5,Vp b),(0,Lp 1000000),(3,Lp 3),(33,.sv (.one (vS (some ⟨pblk,0,none⟩) ps.length ptcap))),(34,Ln .i64 (ps.length:Nat)),(35,Ln .i64 (j:Nat))],[arB 603 ((pvs qs++npt (ps.length-j)).map .val),tO 3 t (.val v2) (.val (.slice (some ⟨cb2,0,none⟩) nc cc2)) (.slc 603 0 ps.length 1),tS 1000000 t (.val vE) (.slice (some ⟨cb,0,none⟩) nc cc) (.slice (some ⟨pblk,0,none⟩) ps.length ptcap)],joinM (joinM (joinM (joinM (joinM (joinM X Hs) He) HE) H2) Hn) H⟩) (Le.of (by exact ⟨O,O,O,O,O,O,O,trivial⟩) (by exact ⟨O,O,O,trivial⟩) (by exact O) (by exact O) (by repeat' (first|refine bR ?_ ?_|rfl|exact bT|exact bS|exact bU O))) ?_
    refine tcol_open (kk:=501) hO hR (colsG_at hc) O (by repeat' (first|refine bR ?_ ?_|rfl|exact bS)) O (by omega) fun b' H0 hb' hO0 hback => ?_
    rw [hb] at hb'
    cases hb'
    have hg:=(cClone_spec (joinM (joinM (joinM (joinM (joinM (joinM X Hs) He) HE) H2) Hn) H0) (rowSize c.fs) t.most (colL t.l j c)).at (b:=b)
    have hroot:=colR_root (rowSize c.fs) t.most (colL t.l j c)
    have hset:(colsT t).set j (colR (rowSize c.fs) t.most (colL t.l j c))=colsT t:=colsG_set hc fun _ _ _ _=>rfl
    have hblt:Nat.blt j ((pvs qs++npt (ps.length-j)).map CV.val).length=true:=by rw [Nat.blt_eq,cV,cU,pvs_len,dC];omega
    have hput:((pvs qs++npt (ps.length-j)).map CV.val).set j (.ptr 601 0)=(pvs qs).map .val ++ .ptr 601 0::(npt (ps.length-(j+1))).map .val:=by
      rw [dF,List.map_replicate,List.map_replicate]
      exact fill_put (by rw [cV,pvs_len];exact hqs) hlt
    (refine rgD mixed<|kfa O O ?_;refine kl1 O O O<|kmv O<|kmv O<|bE [(1000000,501),(1000001,601)] (Lp 601) [atB 501 b (rowSize c.fs) t.most (colL t.l j c),cB 601 (rowSize c.fs) t.most (colL t.l j c)] (hg) O O (by exact (cO ⟨_,O,O⟩ trivial)) (by exact (bR O O)) O O O O (by exact (.box O O (.box O O .nil))) dP<|K.indexSlc O O (by omega) hio dP ?_;refine bG O O O O hblt hput dP<|aB<|rgA ?_;refine rgN<|kad O O hadd<|kmv O<|aB ?_)
    refine cA (σ':=⟨[(0,Lp 1000000),(3,Lp 3),(33,.sv (.one (vS (some ⟨pblk,0,none⟩) ps.length ptcap))),(34,Ln .i64 (ps.length:Nat)),(35,Ln .i64 (j+1:Nat))],[atB 501 b (rowSize c.fs) t.most (colL t.l j c),arB 603 ((pvs qs).map .val ++ .ptr 601 0::(npt (ps.length-(j+1))).map .val),cB 601 (rowSize c.fs) t.most (colL t.l j c),tO 3 t (.val v2) (.val (.slice (some ⟨cb2,0,none⟩) nc cc2)) (.slc 603 0 ps.length 1),tS 1000000 t (.val vE) (.slice (some ⟨cb,0,none⟩) nc cc) (.slice (some ⟨pblk,0,none⟩) ps.length ptcap)],joinM (joinM (joinM (joinM (joinM (joinM X Hs) He) HE) H2) Hn) H0⟩) (Le.of (by exact ⟨O,O,O,O,O,trivial⟩) (by exact ⟨O,O,O,O,O,trivial⟩) (by exact O) (by exact O) (by repeat' (first|refine bR ?_ ?_|rfl|exact bT|exact bS|exact bU O))) ?_
    refine tcol_shut hO0 hroot O (by repeat' (first|refine bR ?_ ?_|rfl|exact bS|exact bU O)) O fun m' Hc' g1 g2 g3 g4 => ?_
    have hB:=hback _ m' Hc' g1 g2 g3
    rw [hset] at hB
    refine Leads.fixRsc (k:=601) (s:=[(0,Lp 1000000),(3,Lp 3),(33,.sv (.one (vS (some ⟨pblk,0,none⟩) ps.length ptcap))),(34,Ln .i64 (ps.length:Nat)),(35,Ln .i64 (j+1:Nat))]) (bx:=[tO 3 t (.val v2) (.val (.slice (some ⟨cb2,0,none⟩) nc cc2)) (.slc 603 0 ps.length 1),tS 1000000 t (.val vE) (.slice (some ⟨cb,0,none⟩) nc cc) (.slice (some ⟨pblk,0,none⟩) ps.length ptcap)]) (s0:=[]) (b0:=[arB 603 ((pvs qs).map .val ++ .ptr 601 0::(npt (ps.length-(j+1))).map .val)]) (by rfl) (by rfl) (by rfl) (by rfl) (by refine bR ?_ rfl;exact fixIn_mid _ _) fun ρ Hc2 k1 k2 => ?_
    obtain ⟨bn,mn⟩:=ρ
    obtain ⟨q1,q2,q3⟩:=OwnedM.swap g4 k2
    have hpush:=hRn.push k1 (hroot _ _ k1) fun x hx=>own_far q1 hx
    have htk:(colsT t).take (j+1)=(colsT t).take j++[colR (rowSize c.fs) t.most (colL t.l j c)]:=take_snoc (colsG_at hc)
    rw [q3,joinM_join _ Hn Hc2]
    refine bZ ⟨ps.length-(j+1),by omega,j+1,qs++[bn],joinM Hn Hc2,_,by omega,rfl,hOn.join q1,by rw [← joinM_join];exact q2,hB,by rw [htk];exact hpush,?_⟩
    have hcells:((pvs qs).map CV.val ++ .ptr 601 0::(npt (ps.length-(j+1))).map CV.val).map (CV.fix 601 bn)=(pvs (qs++[bn])++npt (ps.length-(j+1))).map CV.val:=by
      rw [fix_mid]
      unfold pvs
      simp
    show (⟨[]++_,[arB 603 (((pvs qs).map CV.val ++ .ptr 601 0::(npt (ps.length-(j+1))).map CV.val).map (CV.fix 601 bn))]++_,_⟩:St)=_
    rw [hcells];rfl
  · have e:j=ps.length:=by omega
    subst e
    rw [List.take_of_length_le (by rw [hR.len];exact dL _)] at hRn
    (refine aA<|rgN<|klt O O (cL (by omega))<|aB<|aA<|aF O ?_;refine aJ<|aA<|rgN<|kas O<|aB<|aI ?_)
    refine cA (σ':=⟨[(2,Lp 3)],[(3,some ⟨109,[.val (.int .u32 (t.set:Nat)),.val (.int .i64 (t.most:Nat)),.val (.int .i64 (t.kept:Nat)),.val v2,.val (.int .i64 t.sc.ver),.val (.slice (some ⟨cb2,0,none⟩) nc cc2)] ++ .slc 603 0 qs.length 1::[],false⟩),(603,some ⟨110,(pvs qs).map .val,false⟩),tS 1000000 t (.val vE) (.slice (some ⟨cb,0,none⟩) nc cc) (.slice ptad ps.length ptcap)],joinM (joinM (joinM (joinM (joinM (joinM (joinM X Hs) He) HE) H2) Hn) H) (fun _=>none)⟩) (by
      rw [joinM_nil,hqs]
      rw [Nat.sub_self,show npt 0=[] from rfl,dH]
      exact Le.of (by exact ⟨O,trivial⟩) (by exact ⟨O,O,O,trivial⟩) (by exact O) (by exact O) (by repeat' (first|refine bR ?_ ?_|rfl|exact bT|exact bS|exact bU O))) ?_
    refine Leads.closeCell (OwnedM.nil _ _) (by rw [pvs_len];omega) rfl rfl rfl rfl rfl rfl fun ba oa va _ _ hOa hva => ?_
    generalize withBlock (fun _=>none) ba oa=HA at *
    obtain ⟨⟨p1,p2,p3,p4,p5,_⟩,pe⟩:=ownL_perm (C:=C) (l:=[HE,H2,Hn,H,HA]) (l':=[H,H2,HA,HE,Hn]) ((by decide:[0,1,2,3,4].Perm [3,1,4,0,2]).map fun i:Nat=>[HE,H2,Hn,H,HA].getD i HE) (joinM (joinM X Hs) He) ⟨a1,b1,hOn,hO,hOa,trivial⟩
    rw [show joinM (joinM (joinM (joinM (joinM (joinM (joinM X Hs) He) HE) H2) Hn) H) HA=joinL (joinM (joinM X Hs) He) [HE,H2,Hn,H,HA] from rfl,pe]
    refine cA (σ':=⟨[(2,Lp 3)],[tS 3 t (.val v2) (.slice (some ⟨cb2,0,none⟩) nc cc2) va,tS 1000000 t (.val vE) (.slice (some ⟨cb,0,none⟩) nc cc) (.slice ptad ps.length ptcap)],tH (tH X Hs He H) (joinM H2 HA) HE Hn⟩) (by
      unfold tH
      rw [← joinM_join]
      exact Le.of (by exact ⟨O,trivial⟩) (by exact ⟨O,O,trivial⟩) (by exact O) (by exact O) (by repeat' (first|refine bR ?_ ?_|rfl|exact bT|exact bS|exact bU O))) ?_
    have p4':OwnedM C (joinM (joinM (joinM (joinM X Hs) He) H) (joinM H2 HA)) HE:=by rw [← joinM_join];exact p4
    have p5':OwnedM C (joinM (joinM (joinM (joinM (joinM X Hs) He) H) (joinM H2 HA)) HE) Hn:=by rw [← joinM_join];exact p5
    refine tab_shut (t:=t) (p2.join p3) p4' p5' ⟨⟨cb2,cc2,by rw [hnc],hin2.mono (Go.Lg.joinM_keeps p3)⟩,(ptrs_leads hva).mono fun b o h=>joinM_in h,hRn,hE2,hI.two⟩ ?_
    refine cA (σ':=⟨[(2,Lp 3)],[tS 1000000 t (.val vE) (.slice (some ⟨cb,0,none⟩) nc cc) (.slice ptad ps.length ptcap),tB 3 t],tH X Hs He H⟩) (Le.of (by exact ⟨O,trivial⟩) (by exact ⟨O,O,trivial⟩) (by exact O) (by exact O) (by repeat' (first|refine bR ?_ ?_|rfl|exact bT|exact bS|exact bU O))) ?_
    refine tab_shut (t:=t) h1 h2 p1 ⟨⟨cb,cc,by rw [hnc],hin⟩,hptr,hR,hE,hI.two⟩ (bZ ?_)
    exact ⟨[(1000001,3)],⟨[_],⟨rfl,trivial⟩,rfl⟩,(by repeat' (first|exact trivial|refine cO ⟨_,rfl,?_⟩ ?_|refine cO ⟨_,rfl⟩ ?_|rfl|exact bV _ _ _ _|exact bW _ _ _ _|exact bX rfl)),rfl,rfl⟩
end Go.Proofs.YtjifibloagkeeaaGreat
end
section
namespace Go.Proofs.YtjifibloagkeeaaGreat
open Go Go.Lg Go.Lg.Fld Go.Lg.Sg Go.Lg.Col
set_option maxRecDepth 100000
abbrev Zp:=Cp×Value
def rowsP (zs:List Zp):List Value:=rowsZ (zs.map (·.1)) (zs.map (·.2))
theorem rowsP_len (zs:List Zp):(rowsP zs).length=zs.length*3:=by
  unfold rowsP
  rw [rowsZ_len (by rw [cV,cV]),cV]
theorem rowsP_app (a b:List Zp):rowsP (a++b)=rowsP a++rowsP b:=by
  unfold rowsP
  rw [dF,dF,rowsZ_app (by rw [cV,cV])]
theorem rowsP_cons (z:Zp) (l:List Zp):rowsP (z::l)=[.int .i64 z.1.id,.string ⟨z.1.nm.toArray⟩,z.2]++rowsP l:=rfl
theorem rowsZ_zip {cs:List Cp} {cells:List Value} (h:cells.length=cs.length):rowsZ cs cells=rowsP (cs.zip cells):=by
  unfold rowsP
  rw [List.map_fst_zip (by omega),List.map_snd_zip (by omega)]
abbrev kept (keep:Cp→Bool) (zs:List Zp):List Zp:=zs.filter fun z=>keep z.1
variable (X:Nat→Option Obj)
theorem idxP_lent {S:Nat→Option (Option Box)} {el fel:TypeId} {row:Bool} {zs:List Zp} {k:Nat} (hk:S k=some (some ⟨el,(rowsP zs).map .val,row⟩)) (hG:∀ z∈zs,SliceZ X z.2 fel 3 (flV z.1.fs)) (hb:InB (zs.map (·.1))) (hn:zs.length≤65536) (f:FuncId) (caps:List Value) (p:Cp→Bool)
    (hp:∀ Y:Nat→Option Obj,(∀ b o,X b=some o→Y b=some o)→∀ (c:Cp) fad fcap,PSpec Tryz.prog Y f ([Cx c fad fcap]++caps.map fun v=>.sv (.one (.val v))) (Lb (p c))):
    ∀ (Y:Nat→Option Obj) (us:List Value),(∀ b o,X b=some o→Y b=some o)→LentLs S Y [.sv (.one (.slc k 0 zs.length 3)),Lf f caps] us→PSpec Tryz.prog Y 67 (us.map toLV) (Ln .i64 (findI p (zs.map (·.1)))):=by
  intro Y us hY hL
  obtain ⟨u1,us1,rfl,⟨b,blk,cap2,m,hk',rfl,hc,hfit,hB⟩,u2,us2,rfl,h2,rfl⟩:=hL
  rw [hk] at hk'
  simp only [Option.some.injEq] at hk'
  subst hk'
  obtain ⟨arr,fr,us',sp,hYb,hsz,harr,hv⟩:=hB
  have:=hv _ rfl
  subst this
  have h2:u2 = .func (.func f) #[] caps.toArray:=h2
  subst h2
  have hin:CompsIn Y (some ⟨blk,0,none⟩) (zs.map (·.1)):=comps_block (fel:=fel) hYb harr (by rw [cV,cV]) hb fun i c v hc hv=>by
    rw [dJ] at hc hv
    obtain ⟨z,hz,rfl⟩:=Option.map_eq_some_iff.1 hc
    rw [hz] at hv
    simp only [Option.map_some,Option.some.injEq] at hv
    subst hv
    have hs:=hG z (dB hz)
    refine hs.mono fun b hb' => ?_
    have hne:=hs.some_of hb'
    cases hx:X b with
    | none=>exact absurd hx hne
    | some o=>exact hY b o hx
  have:=idxC_spec Y (some ⟨blk,0,none⟩) cap2 (zs.map (·.1)) hin (by rw [cV];omega) f caps p fun c _=>hp Y hY c
  rw [cV] at this
  exact this
set_option maxHeartbeats 6400000 in
theorem delC (zs:List Zp) {fel:TypeId} (hG:∀ z∈zs,SliceZ X z.2 fel 3 (flV z.1.fs)) (hb:InB (zs.map (·.1))) (hn:zs.length≤65536) (rw_:Bool) (f:FuncId) (caps:List Value) (keep:Cp→Bool)
    (hp:∀ Y:Nat→Option Obj,(∀ b o,X b=some o→Y b=some o)→∀ (c:Cp) fad fcap,PSpec Tryz.prog Y f ([Cx c fad fcap]++caps.map fun v=>.sv (.one (.val v))) (Lb (!keep c))):
    MSpec Tryz.prog X 81 [.sv (.one (.slc 1000000 0 zs.length 3)),Lf f caps] [(1000000,some ⟨69,(rowsP zs).map .val,rw_⟩)] (.sv (.one (.slc 1000000 0 (kept keep zs).length 3)))
      [(1000000,some ⟨69,(rowsP (kept keep zs)++zer (zs.length-(kept keep zs).length)).map .val,rw_⟩)]:=by
  have hidx:∀ {S:Nat→Option (Option Box)} {row:Bool},S 1000000=some (some ⟨69,(rowsP zs).map .val,row⟩)→_:=fun {S row} hk=>idxP_lent X (S:=S) (row:=row) hk hG hb hn f caps (fun c => !keep c) hp
  refine cE Tryz.func81 rfl (by kernel_rfl) rfl rfl (by exact (by repeat' (first|refine bR ?_ ?_|rfl|exact bT|exact bS|exact bU rfl))) rfl rfl ?_
  intro C
  cases hfi:(zs.map (·.1)).findIdx? (fun c => !keep c) with
  | none =>
    have hall:kept keep zs=zs:=List.filter_eq_self.2 fun z hz=>by
      have:=List.findIdx?_eq_none_iff.1 hfi z.1 (List.mem_map.2 ⟨z,hz,rfl⟩)
      simpa using this
    rw [hall,Nat.sub_self,show zer 0=[] from rfl,dH]
    have hI:findI (fun c => !keep c) (zs.map (·.1)) = -1:=by unfold findI;rw [hfi]
    rw [hI] at hidx
    (refine aA<|rgN<|kas O<|aB<|aA<|rgN<|kmv O<|kmv O<|K.callL [1000000] O O O (hidx O) dP ?_;refine kas O<|aB<|aA<|aA<|rgN<|kmv O<|keq O O (r:=true) O<|aB<|aE O ?_;refine aA<|rgN<|kmv O<|kas O<|aB<|aI ?_)
    exact ⟨[],⟨[_],⟨rfl,trivial⟩,rfl⟩,(by repeat' (first|exact trivial|refine cO ⟨_,rfl,?_⟩ ?_|refine cO ⟨_,rfl⟩ ?_|rfl|exact bV _ _ _ _|exact bW _ _ _ _|exact bX rfl)),rfl,rfl⟩
  | some i0 =>
    obtain ⟨hi0,h1,h2⟩:=List.findIdx?_eq_some_iff_getElem.1 hfi
    rw [cV] at hi0
    have hI:findI (fun c => !keep c) (zs.map (·.1))=(i0:Nat):=by unfold findI;rw [hfi]
    rw [hI] at hidx
    have hadd:IntKind.i64.wrap (((i0:Nat):Int)+1)=((i0+1:Nat):Int):=by rw [cF (by omega)];omega
    obtain ⟨z0,hz0⟩:∃ z,zs[i0]? = some z:=⟨_,cW hi0⟩
    have hk0:keep z0.1=false:=by
      have e:z0=zs[i0]:=by rw [cW hi0] at hz0;exact (Option.some.inj hz0).symm
      rw [List.getElem_map] at h1
      rw [e];simpa using h1
    have hpre:kept keep (zs.take i0)=zs.take i0:=List.filter_eq_self.2 fun z hz=>by
      obtain ⟨j,hj,e⟩:=List.mem_take_iff_getElem.1 hz
      have:=h2 j (by omega)
      rw [List.getElem_map] at this
      rw [← e];simpa using this
    have hF0:kept keep (zs.take (i0+1))=zs.take i0:=by
      rw [take_snoc hz0]
      show (zs.take i0++[z0]).filter _=_
      rw [List.filter_append,show (zs.take i0).filter (fun z=>keep z.1)=zs.take i0 from hpre,List.filter_cons,if_neg (by rw [hk0];decide)]
      simp
    have hlt0:(zs.take i0).length=i0:=by rw [cY];omega
    (refine aA<|rgN<|kas O<|aB<|aA<|rgN<|kmv O<|kmv O<|K.callL [1000000] O O O (hidx O) dP ?_;refine kas O<|aB<|aA<|aA<|rgN<|kmv O<|keq O O (r:=false) (cP (by omega))<|aB<|aF O ?_;refine aH ?_;refine aA<|aA<|rgN<|kmv O<|kad O O hadd<|kas O<|aB<|aG ?_)
    refine cH (fun m σ=>∃ (j:Nat) (mid:List Value),j≤zs.length∧m=zs.length-j∧(kept keep (zs.take j)).length<j∧mid.length=(j-(kept keep (zs.take j)).length)*3∧σ=⟨[(0,.sv (.one (.slc 1000000 0 zs.length 3))),(1,Lf f caps),(5,Ln .i64 ((kept keep (zs.take j)).length:Nat)),(6,Ln .i64 (j:Nat))],[(1000000,some ⟨69,(rowsP (kept keep (zs.take j))++(mid++rowsP (zs.drop j))).map .val,rw_⟩)],X⟩) (zs.length-(i0+1))
      ⟨⟨[(0,.sv (.one (.slc 1000000 0 zs.length 3))),(1,Lf f caps),(5,Ln .i64 (i0:Nat)),(6,Ln .i64 (i0+1:Nat))],[(1000000,some ⟨69,(rowsP zs).map .val,rw_⟩)],X⟩,Le.of (by exact ⟨rfl,rfl,rfl,rfl,trivial⟩) (by exact ⟨rfl,trivial⟩) (by exact rfl) (by exact rfl) (by repeat' (first|refine bR ?_ ?_|rfl|exact bT|exact bS|exact bU rfl)),i0+1,[.int .i64 z0.1.id,.string ⟨z0.1.nm.toArray⟩,z0.2],by omega,by omega,by rw [hF0,hlt0];omega,by rw [hF0,hlt0,Nat.add_sub_cancel_left];rfl,by
        rw [hF0,hlt0,← rowsP_cons,← rowsP_app,← mid_of hz0]⟩ ?_
    rintro m σ ⟨j,mid,hj,rfl,hij,hmid,rfl⟩
    by_cases hlt:j<zs.length
    · obtain ⟨z,hz⟩:∃ z,zs[j]? = some z:=⟨_,cW hlt⟩
      obtain ⟨c,v⟩:=z
      obtain ⟨fad,fcap,hv,_⟩:=leaf_in (hG _ (dB hz)) (hb c (List.mem_map.2 ⟨_,dB hz,rfl⟩)).2
      have hv:v = .slice fad c.fs.length fcap:=hv
      subst hv
      have hP:=hp X (fun _ _ h=>h) c fad fcap
      have hdrop:zs.drop j=(c,.slice fad c.fs.length fcap)::zs.drop (j+1):=(drop_at hz)
      have hsn:=take_snoc hz
      have hadd2:IntKind.i64.wrap (((j:Nat):Int)+1)=((j+1:Nat):Int):=by rw [cF (by omega)];omega
      have hix:0+Int.toNat ((j:Nat):Int)*3=j*3:=by rw [dE];omega
      have hfl:(rowsP (kept keep (zs.take j))++mid).length=j*3:=by rw [cU,rowsP_len,hmid];omega
      have hlen:(rowsP (kept keep (zs.take j))++(mid++rowsP (zs.drop j))).length=zs.length*3:=by rw [← dK,cU,hfl,rowsP_len,cZ];omega
      have hbl:Nat.ble (j*3+3) ((rowsP (kept keep (zs.take j))++(mid++rowsP (zs.drop j))).map CV.val).length=true:=by rw [Nat.ble_eq,cV,hlen];omega
      have hcs:(((rowsP (kept keep (zs.take j))++(mid++rowsP (zs.drop j))).map CV.val).drop (j*3)).take 3=[.val (.int .i64 c.id),.val (.string ⟨c.nm.toArray⟩),.val (.slice fad c.fs.length fcap)]:=by
        rw [← List.map_drop,← dK,← hfl,List.drop_left,hdrop,rowsP_cons,← List.map_take];rfl
      cases hkp:keep c with
      | true =>
        rw [hkp] at hP
        have hF1:kept keep (zs.take (j+1))=kept keep (zs.take j)++[(c,.slice fad c.fs.length fcap)]:=by
          rw [hsn]
          show (zs.take j++[_]).filter _=_
          rw [List.filter_append,List.filter_cons,if_pos hkp];rfl
        obtain ⟨m0,m1,m2,mid',rfl⟩:∃ m0 m1 m2 mid',mid=m0::m1::m2::mid':=by
          match mid,hmid with
          | m0::m1::m2::mid',_=>exact ⟨m0,m1,m2,mid',rfl⟩
          | [],h=>simp at h;omega
          | [_],h=>simp at h;omega
          | [_,_],h=>simp at h;omega
        have hixi:0+Int.toNat (((kept keep (zs.take j)).length:Nat):Int)*3=(kept keep (zs.take j)).length*3:=by rw [dE];omega
        have hroom:(kept keep (zs.take j)).length*3+3≤((rowsP (kept keep (zs.take j))++(m0::m1::m2::mid'++rowsP (zs.drop j))).map CV.val).length:=by rw [cV,hlen];omega
        have hspl:splice ((rowsP (kept keep (zs.take j))++(m0::m1::m2::mid'++rowsP (zs.drop j))).map CV.val) ((kept keep (zs.take j)).length*3) [.val (.int .i64 c.id),.val (.string ⟨c.nm.toArray⟩),.val (.slice fad c.fs.length fcap)]=(rowsP (kept keep (zs.take (j+1)))++((mid'++[Value.int .i64 c.id,Value.string ⟨c.nm.toArray⟩,Value.slice fad c.fs.length fcap])++rowsP (zs.drop (j+1)))).map CV.val:=by
          rw [hF1,rowsP_app,hdrop,rowsP_cons,rowsP_cons,show rowsP []=[] from rfl]
          have hml:((rowsP (kept keep (zs.take j))).map CV.val).length=(kept keep (zs.take j)).length*3:=by rw [cV,rowsP_len]
          unfold splice
          simp only [dF,List.map_cons,List.map_nil,dK,List.cons_append,List.nil_append]
          generalize (rowsP (kept keep (zs.take j))).map CV.val=R at *
          rw [← hml,List.take_left,List.drop_length_add_append]
          simp
        have haddi:IntKind.i64.wrap ((((kept keep (zs.take j)).length:Nat):Int)+1)=(((kept keep (zs.take (j+1))).length:Nat):Int):=by rw [hF1,cU,cF (by omega)];simp
        have hi1:(kept keep (zs.take (j+1))).length=(kept keep (zs.take j)).length+1:=by rw [hF1,cU];rfl
        generalize (kept keep (zs.take j)).length=i at *
        generalize (rowsP (kept keep (zs.take j))++(m0::m1::m2::mid'++rowsP (zs.drop j)))=cells at *
        (refine aA<|aA<|rgN<|kmv O<|kmv O<|K.lenSlc O bY O dP ?_;refine klt O O (cN (by omega))<|aB<|aE O ?_;refine aH ?_;refine aA<|aG<|aA<|rgN<|kmv O<|kmv O<|K.indexSlc O O (by omega) hix dP ?_;refine bJ O O hbl hcs dP ?_;refine aP O dP ?_;refine aM O O O O O O dP ?_;refine aB<|aA<|rgN<|kmv O<|aK O O O dP ?_;refine K.callF O O O hP dP ?_;refine aV O O dP<|aB<|aE O ?_;refine aA<|rgN<|kmv O<|kmv O<|aK O O O dP ?_;refine K.indexSlc O O (by omega) hixi dP ?_;refine K.store O O O O (by kernel_rfl) hroom hspl dP<|aB<|rgN<|kmv O<|kad O O haddi<|kas O<|aB<|rgN<|kmv O<|kad O O hadd2<|kas O<|aB ?_)
        refine ⟨_,⟨[(0,.sv (.one (.slc 1000000 0 zs.length 3))),(1,Lf f caps),(5,Ln .i64 ((kept keep (zs.take (j+1))).length:Nat)),(6,Ln .i64 (j+1:Nat))],[(1000000,some ⟨69,(rowsP (kept keep (zs.take (j+1)))++((mid'++[Value.int .i64 c.id,Value.string ⟨c.nm.toArray⟩,Value.slice fad c.fs.length fcap])++rowsP (zs.drop (j+1)))).map CV.val,rw_⟩)],X⟩,(by omega:zs.length-(j+1)<zs.length-j),Le.of (by exact ⟨O,O,O,O,trivial⟩) (by exact ⟨O,trivial⟩) (by exact O) (by exact O) (by repeat' (first|refine bR ?_ ?_|rfl|exact bT|exact bS|exact bU O)),j+1,mid'++[Value.int .i64 c.id,Value.string ⟨c.nm.toArray⟩,Value.slice fad c.fs.length fcap],by omega,O,by omega,?_,O⟩
        simp only [dG] at hmid
        rw [cU,hi1]
        simp only [dG,dM]
        omega
      | false =>
        rw [hkp] at hP
        have hF1:kept keep (zs.take (j+1))=kept keep (zs.take j):=by
          rw [hsn]
          show (zs.take j++[_]).filter _=_
          rw [List.filter_append,List.filter_cons,if_neg (by rw [hkp];decide)];simp
        have hcells:(rowsP (kept keep (zs.take j))++(mid++rowsP (zs.drop j)))=rowsP (kept keep (zs.take (j+1)))++((mid++[Value.int .i64 c.id,Value.string ⟨c.nm.toArray⟩,Value.slice fad c.fs.length fcap])++rowsP (zs.drop (j+1))):=by
          rw [hF1,hdrop,rowsP_cons];simp
        have hi1:(kept keep (zs.take (j+1))).length=(kept keep (zs.take j)).length:=by rw [hF1]
        rw [← hi1]
        rw [hcells] at hbl hcs ⊢
        generalize hii:(kept keep (zs.take (j+1))).length=i at *
        generalize hcc:(rowsP (kept keep (zs.take (j+1)))++((mid++[Value.int .i64 c.id,Value.string ⟨c.nm.toArray⟩,Value.slice fad c.fs.length fcap])++rowsP (zs.drop (j+1))))=cells at *
        (refine aA<|aA<|rgN<|kmv O<|kmv O<|K.lenSlc O bY O dP ?_;refine klt O O (cN (by omega))<|aB<|aE O ?_;refine aH ?_;refine aA<|aG<|aA<|rgN<|kmv O<|kmv O<|K.indexSlc O O (by omega) hix dP ?_;refine bJ O O hbl hcs dP ?_;refine aP O dP ?_;refine aM O O O O O O dP ?_;refine aB<|aA<|rgN<|kmv O<|aK O O O dP ?_;refine K.callF O O O hP dP ?_;refine aV O O dP<|aB<|aF O ?_;refine aH ?_;refine rgN<|kmv O<|kad O O hadd2<|kas O<|aB ?_)
        refine ⟨_,⟨[(0,.sv (.one (.slc 1000000 0 zs.length 3))),(1,Lf f caps),(5,Ln .i64 (i:Nat)),(6,Ln .i64 (j+1:Nat))],[(1000000,some ⟨69,cells.map CV.val,rw_⟩)],X⟩,(by omega:zs.length-(j+1)<zs.length-j),Le.of (by exact ⟨rfl,rfl,rfl,rfl,trivial⟩) (by exact ⟨rfl,trivial⟩) (by exact rfl) (by exact rfl) (by repeat' (first|refine bR ?_ ?_|rfl|exact bT|exact bS|exact bU rfl)),j+1,mid++[Value.int .i64 c.id,Value.string ⟨c.nm.toArray⟩,Value.slice fad c.fs.length fcap],by omega,rfl,by omega,?_,by rw [hii,hcc]⟩
        rw [cU,hmid,hii]
        simp only [dG,dM]
        omega
    · have e:j=zs.length:=by omega
      subst e
      have htk:zs.take zs.length=zs:=dD
      rw [htk] at hij hmid ⊢
      have hmk:MadeOf Tryz.prog 22 69 3 48 [Value.int .i64 0,Value.string ⟨#[]⟩,Value.slice none 0 0]:=⟨by kernel_rfl,by kernel_rfl,rfl⟩
      have hcl:(rowsP (kept keep zs)++(mid++rowsP (zs.drop zs.length)))=rowsP (kept keep zs)++mid:=by rw [List.drop_length];show _++(mid++[])=_;rw [dH]
      rw [hcl]
      have hlen:(rowsP (kept keep zs)++mid).length=zs.length*3:=by rw [cU,rowsP_len,hmid];omega
      have hoff:0+(kept keep zs).length*3=(kept keep zs).length*3:=Nat.zero_add _
      have hroom:(kept keep zs).length*3+(zs.length-(kept keep zs).length)*3≤((rowsP (kept keep zs)++mid).map CV.val).length:=by rw [cV,hlen];omega
      have hclr:splice ((rowsP (kept keep zs)++mid).map CV.val) ((kept keep zs).length*3) ((List.replicate (zs.length-(kept keep zs).length) [Value.int .i64 0,Value.string ⟨#[]⟩,Value.slice none 0 0]).flatten.map CV.val)=(rowsP (kept keep zs)++zer (zs.length-(kept keep zs).length)).map CV.val:=by
        have hzl:((zer (zs.length-(kept keep zs).length)).map CV.val).length=(zs.length-(kept keep zs).length)*3:=by rw [cV,zer_len]
        have hml:((rowsP (kept keep zs)).map CV.val).length=(kept keep zs).length*3:=by rw [cV,rowsP_len]
        show splice _ _ ((zer (zs.length-(kept keep zs).length)).map CV.val)=_
        unfold splice
        rw [dF,dF,← hml,List.take_left,List.drop_eq_nil_of_le (by rw [cU,hml,hzl,cV,hmid];omega),dH]
      generalize (kept keep zs).length=i at *
      generalize rowsP (kept keep zs)++mid=cells at *
      (refine aA<|aA<|rgN<|kmv O<|kmv O<|K.lenSlc O bY O dP ?_;refine klt O O (cL (by omega))<|aB<|aF O ?_;refine aJ<|aA<|rgN<|kmv O<|kmv O<|K.cutLoSlc O O bY (by omega) hoff O dP ?_;refine K.clearSlc O O hmk O hroom (by omega) hclr dP ?_;refine aB<|aA<|rgN<|kmv O<|kmv O<|K.cutSlc O O bY (by omega) dP<|kas O<|aB<|aI ?_)
      exact ⟨[],⟨[_],⟨rfl,trivial⟩,rfl⟩,(by repeat' (first|exact trivial|refine cO ⟨_,rfl,?_⟩ ?_|refine cO ⟨_,rfl⟩ ?_|rfl|exact bV _ _ _ _|exact bW _ _ _ _|exact bX rfl)),rfl,rfl⟩
end Go.Proofs.YtjifibloagkeeaaGreat
end
section
namespace Go.Proofs.YtjifibloagkeeaaGreat
open Go Go.Lg Go.Lg.Fld Go.Lg.Sg Go.Lg.Col
set_option maxRecDepth 100000
def cmR (cs:List Cp):Rsc:=⟨fun ρ H=>(∃ (arr:Array Value) (fr:Nat×Nat),H ρ.1=some (.cells arr 69 fr)∧arr.size=ρ.2)∧CompsIn H (some ⟨ρ.1,0,none⟩) cs⟩
abbrev cmB (k:Nat) (cs:List Cp):Nat×Option Box:=(k,some ⟨0,[],.res (cmR cs)⟩)
variable (X:Nat→Option Obj)
theorem only1_spec (set:Nat) (hset:set<4294967296) (c:Cp) (fad:Option Addr) (fcap:Nat) {b:Nat} {arr:Array Value} {el:TypeId} {fr:Nat×Nat} (hX:X b=some (.cells arr el fr)) (h0:arr[0]? = some (.int .u32 (set:Nat))):
    PSpec Tryz.prog X 82 [Cx c fad fcap,Vp b] (Lb (!hasB set c.id)):=by
  have hh:=gHas X set hset c.id
  refine cD Tryz.func82 rfl (by kernel_rfl) rfl rfl ?_
  intro C
  generalize hasB set c.id=q at *
  cases q with
  | true =>
    (refine aA<|rgN<|aL O O O dP<|kas O<|aB<|aA<|rgN<|aW O hX O h0 dP<|kfa O O ?_;refine kl1 O O O<|kca O O hh<|aV O O dP<|kas O<|aB<|aI ?_)
    exact ⟨[_],⟨O,trivial⟩,O⟩
  | false =>
    (refine aA<|rgN<|aL O O O dP<|kas O<|aB<|aA<|rgN<|aW O hX O h0 dP<|kfa O O ?_;refine kl1 O O O<|kca O O hh<|aV O O dP<|kas O<|aB<|aI ?_)
    exact ⟨[_],⟨O,trivial⟩,O⟩
set_option maxHeartbeats 6400000 in
theorem only0 (ver:Int) (ad:Option Addr) (cap:Nat) (cs:List Cp) (set:Nat) (hset:set<4294967296) (hin:CompsIn X ad cs) (hn:cs.length≤65536) (hfb:∀ c∈cs,c.fs.length≤4398046511104):
    MSpec Tryz.prog X 54 [Sx ver ad cs.length cap,Ln .u32 (set:Nat)] [] (.sv (.agg [.val (.int .i64 ver),.slc 1000001 0 (onlyC cs set).length 3])) [cmB 1000001 (onlyC cs set)]:=by
  refine cE Tryz.func54 rfl (by kernel_rfl) rfl rfl (by exact (by repeat' (first|refine bR ?_ ?_|rfl|exact bT|exact bS|exact bU rfl))) rfl rfl ?_
  intro C
  refine LWP.ends ?_
  (refine aA<|rgN<|aL O O O dP<|K.box1 O O O dP<|aP O dP ?_;refine aB<|aA ?_)
  refine LWP.le (σ':=⟨[(3,Lp 3),(2,Lp 2),(4,Lp 4)],[(3,some ⟨35,[Value.int .u32 (set:Nat)].map .val,false⟩),sxB 2 ver ad cs.length cap,(4,some ⟨24,[.val (.int .i64 0),.val (.slice none 0 0)],false⟩)],X⟩) (Le.of (by exact ⟨O,O,O,trivial⟩) (by exact ⟨O,O,O,trivial⟩) (by exact O) (by exact O) (by repeat' (first|refine bR ?_ ?_|rfl|exact bT|exact bS|exact bU O))) ?_
  refine LWP.freezePtr (by rfl) (by rfl) (by rfl) fun b arr0 fr0 hnb hF0 h0 => ?_
  have hb0:(withBlock X b (.cells arr0 35 fr0)) b=some (.cells arr0 35 fr0):=cK X b _
  have hin':=hin.mono (cG (o:=.cells arr0 35 fr0) hnb)
  have hdr:∀ x o,X x=some o→withBlock X b (.cells arr0 35 fr0) x=some o:=cG hnb
  generalize withBlock X b (.cells arr0 35 fr0)=Y at *
  have hCl:=pCloneBig Y ver ad cap cs hin' hn hfb
  (refine rgN<|aK O O O dP ?_;refine bE [(1000001,602)] (.sv (.agg [.val (.int .i64 ver),.slc 602 0 cs.length 3])) [scB 602 cs] (hCl) O O (by exact trivial) O O O O O (by exact (.box O O .nil)) dP<|aM O O O O O O dP ?_;refine aB<|aA ?_)
  refine LWP.le (σ':=⟨[(3,Vp b),(2,Lp 2),(4,Lp 4)],[scB 602 cs,(2,some ⟨24,[.val (.int .i64 ver),.slc 602 0 cs.length 3],false⟩),(4,some ⟨24,[.val (.int .i64 0),.val (.slice none 0 0)],false⟩)],Y⟩) (Le.of (by exact ⟨O,O,O,trivial⟩) (by exact ⟨O,O,O,trivial⟩) (by exact O) (by exact O) (by repeat' (first|refine bR ?_ ?_|rfl|exact bT|exact bS|exact bU O))) ?_
  refine LWP.openRes (scR_root cs) fun ρ H vals el fr hR hv hO => ?_
  obtain ⟨arr,fr',cells,sp,h1,h2,h3,G,hInb⟩:=hR
  rw [hv] at h1
  simp only [Option.some.injEq,Obj.cells.injEq] at h1
  obtain ⟨rfl,rfl,rfl⟩:=h1
  have hcl:cells.length=cs.length:=by rw [G.len,cV]
  rw [h3,rowsZ_zip hcl]
  have hzf:(cs.zip cells).map (·.1)=cs:=List.map_fst_zip (by omega)
  have hzl:(cs.zip cells).length=cs.length:=by rw [List.length_zip];omega
  have hGz:∀ z∈cs.zip cells,SliceZ (cutM H ρ.1) z.2 79 3 (flV z.1.fs):=fun z hz=>by
    obtain ⟨i,hi⟩:=List.mem_iff_getElem?.1 hz
    obtain ⟨g1,g2⟩:=List.getElem?_zip_eq_some.1 hi
    exact G.at_ i z.2 _ (by simp) g2 (by rw [dJ,g1];rfl)
  have hGy:∀ z∈cs.zip cells,SliceZ (joinM Y (cutM H ρ.1)) z.2 79 3 (flV z.1.fs):=fun z hz=>by
    have hs:=hGz z hz
    refine hs.mono fun b hb => ?_
    have hne:=hs.some_of hb
    cases hc:cutM H ρ.1 b with
    | none=>exact absurd hc hne
    | some o=>exact joinM_in hc
  have hOc:=hO.cut ρ.1
  generalize hzs:cs.zip cells=zs at *
  have hdel:=delC (joinM Y (cutM H ρ.1)) zs hGy (by rw [hzf];exact hInb) (by omega) true 82 [.pointer (some ⟨b,0,none⟩)] (fun c=>hasB set c.id) fun Z hZ c fad fcap=>only1_spec Z set hset c fad fcap (hZ _ _ (joinM_has hOc hb0)) (at_zero h0)
  have hkf:(kept (fun c=>hasB set c.id) zs).map (·.1)=onlyC cs set:=by
    unfold onlyC kept
    rw [← hzf,List.filter_map];rfl
  have hkl:(kept (fun c=>hasB set c.id) zs).length=(onlyC cs set).length:=by rw [← hkf,cV]
  refine LWP.le (σ':=⟨[(3,Vp b),(2,Lp 2),(4,Lp 4)],[(602,some ⟨69,(rowsP zs).map CV.val++sp.map CV.val,false⟩),(2,some ⟨24,[.val (.int .i64 ver),.slc 602 0 cs.length 3],false⟩),(4,some ⟨24,[.val (.int .i64 0),.val (.slice none 0 0)],false⟩)],joinM Y (cutM H ρ.1)⟩) (by rw [dF];exact ⟨fun ι _ _ hr=>⟨ι,hr⟩⟩) ?_
  refine LWP.le Le.trim ?_
  rw [← hzl]
  generalize hks:kept (fun c=>hasB set c.id) zs=ks at *
  (refine rgN<|kfa O O ?_;refine kl1 O O O<|K.makeFunc O O dP ?_;refine bE [(1000000,602)] (.sv (.one (.slc 602 0 ks.length 3))) [(602,some ⟨69,(rowsP ks++zer (zs.length-ks.length)).map .val,true⟩)] (hdel) O O (by exact (cO ⟨_,O,(bW _ _ _ _)⟩ trivial)) (by exact (bR bS O)) O O O O (by exact (.box O (bW _ _ _ _) .nil)) dP<|kfa O O ?_;refine bG O O O O O (nl2 O O O) dP<|aB<|aA<|rgN<|aK O O O dP ?_;refine aM O O O O O O dP ?_;refine aB<|aI ?_)
  refine cA (σ':=⟨[(4,Lp 4)],[(602,some ⟨69,(rowsP ks++zer (zs.length-ks.length)).map .val,true⟩),(4,some ⟨24,[.val (.int .i64 ver),.slc 602 0 ks.length 3],false⟩)],joinM Y (cutM H ρ.1)⟩) (Le.of (by exact ⟨O,trivial⟩) (by exact ⟨O,O,trivial⟩) (by exact O) (by exact O) (by repeat' (first|refine bR ?_ ?_|rfl|exact bT|exact bS|exact bU O))) ?_
  refine Leads.spare fun sp2 => ?_
  refine Leads.closeRes (R:=cmR (onlyC cs set)) hOc (fun ρ2 fr2 g1 g2 g3 => ?_) ?_
  · refine ⟨⟨_,fr2,cK _ _ _,by rw [g3];simp⟩,?_⟩
    rw [← hkf]
    refine comps_block (fel:=79) (cK _ _ _) (cells:=ks.map (·.2)) (sp:=zer (zs.length-ks.length)++sp2) (by unfold rowsP;simp) (by rw [cV,cV]) ?_ fun i c v hc hv => ?_
    · rw [hkf]
      exact fun c hc=>hInb c (only_mem hc).1
    · rw [dJ] at hc hv
      obtain ⟨z,hz,rfl⟩:=Option.map_eq_some_iff.1 hc
      rw [hz] at hv
      simp only [Option.map_some,Option.some.injEq] at hv
      subst hv
      have hzm:z∈zs:=by
        have:=dB hz
        rw [← hks] at this
        exact (List.mem_filter.1 this).1
      have hs:=hGz z hzm
      refine hs.mono fun b' hb' => ?_
      have hne:=hs.some_of hb'
      unfold withBlock
      rw [if_neg (fun e=>hne (by rw [e];exact g1))]
  rw [← hkl]
  refine cA (Le.drop hdr) (bZ ?_)
  exact ⟨[(1000001,602)],⟨[_],⟨⟨_,_,rfl,rfl,rfl,.inl ⟨AggT.h,rfl⟩⟩,trivial⟩,rfl⟩,(by repeat' (first|exact trivial|refine cO ⟨_,rfl,?_⟩ ?_|refine cO ⟨_,rfl⟩ ?_|rfl|exact bV _ _ _ _|exact bW _ _ _ _|exact bX rfl)),rfl,rfl⟩
theorem ofIds {s:Sc} (h:chkE s=0):okIds (s.cs.map Cp.id)=true:=List.all_eq_true.2 fun x hx=>by
  obtain ⟨c,hc,rfl⟩:=List.mem_map.1 hx
  obtain ⟨i,hi⟩:=List.mem_iff_getElem?.1 hc
  obtain ⟨g1,g2,_⟩:=(goodC16 h).one i c hi
  exact okI_iff.2 ⟨g1,g2⟩
theorem within_has {s:Sc} (h:chkE s=0) (set:Nat):withinB set (ofA (s.cs.map Cp.id))=(idsL set).all (hasC s.cs):=by
  unfold withinB
  have ho:=ofIds h
  rw [show ofA (s.cs.map Cp.id)=ofN (s.cs.map Cp.id) from if_pos ho]
  rw [Bool.eq_iff_iff,List.all_eq_true,List.all_eq_true]
  refine forall_congr' fun x=>forall_congr' fun hx => ?_
  have h1:hasB (ofN (s.cs.map Cp.id)) x=true↔x∈s.cs.map Cp.id:=by
    rw [← mem_ofN ho,← any_ids,List.any_eq_true]
    exact ⟨fun ⟨y,hy,e⟩=>by rw [← beq_iff_eq.1 e];exact hy,fun hy=>⟨x,hy,cS rfl⟩⟩
  rw [h1]
  unfold hasC
  rw [List.any_eq_true,List.mem_map]
  exact ⟨fun ⟨c,hc,e⟩=>⟨c,hc,cS e⟩,fun ⟨c,hc,e⟩=>⟨c,hc,beq_iff_eq.1 e⟩⟩
theorem ofA_lt (ids:List Int):ofA ids<4294967296:=by
  unfold ofA
  split
  · rename_i h
    have:=ofN_lt (ids:=ids) (List.all_eq_true.1 h)
    omega
  · omega
set_option maxHeartbeats 3200000 in
theorem isOf0 (s:Sc) (ad:Option Addr) (cap:Nat) (set:Nat) (hset:set<4294967296) (hin:CompsIn X ad s.cs) (hn:s.cs.length≤65536) (hc:chkE s=0) (r:Bool) (hr:(isB set&&(idsL set).all (hasC s.cs))=r):
    PSpec Tryz.prog X 53 [Ln .u32 (set:Nat),Sx s.ver ad s.cs.length cap] (Lb r):=by
  have hI:=pIds X s.ver ad cap s.cs hin hn
  have hOf:∀ {S:Nat→Option (Option Box)} {k:Nat} {el:TypeId} {row:Bool},S k=some (some ⟨el,(nuV (s.cs.map Cp.id)).map .val,row⟩)→∀ (Y:Nat→Option Obj) (us:List Value),(∀ b o,X b=some o→Y b=some o)→LentLs S Y [.sv (.one (.slc k 0 (s.cs.map Cp.id).length))] us→PSpec Tryz.prog Y 77 (us.map toLV) (.tup [Sn .u32 (ofA (s.cs.map Cp.id):Nat),Sn .i64 (ofE (s.cs.map Cp.id))]):=fun hk=>of_lent X (by rw [cV];omega) hk
  rw [show ofE (s.cs.map Cp.id)=0 from if_pos (ofIds hc)] at hOf
  have hids:idsV s.cs=nuV (s.cs.map Cp.id):=by unfold idsV nuV;rw [List.map_map];rfl
  have hil:(s.cs.map Cp.id).length=s.cs.length:=cV _
  rw [hids] at hI
  rw [hil] at hOf
  have hIs:=gIs X set hset
  have hW:=gWithin X set (ofA (s.cs.map Cp.id)) hset (ofA_lt _)
  rw [within_has hc] at hW
  subst hr
  generalize ofA (s.cs.map Cp.id)=oa at *
  generalize nuV (s.cs.map Cp.id)=nv at *
  refine cD Tryz.func53 rfl (by kernel_rfl) rfl rfl ?_
  intro C
  generalize isB set=q at *
  cases q with
  | false =>
    (refine aA<|rgN<|aL O O O dP<|kas O<|aB<|aA<|rgN<|aK O O O dP ?_;refine bE [(1000001,601)] (.sv (.one (.slc 601 0 s.cs.length))) [(601,some ⟨3,nv.map .val,false⟩)] (hI) O O (by exact trivial) O O O O O (by exact (.box O (bW _ _ _ _) .nil)) dP<|K.callL [601] O O O (hOf O) dP ?_;refine kmv O<|kex O O<|kex O O<|kas O<|kas O<|aB<|aA<|rgN<|kmv O<|keq O O (r:=true) O<|kmv O<|gmv O O O<|gca O O hIs O O<|kpt O O ?_;refine kmv O<|aC O O O<|aC O O O<|aC O O O<|kpf O O<|kas O<|aB<|aI ?_)
    exact ⟨[_],⟨O,trivial⟩,O⟩
  | true =>
    generalize (idsL set).all (hasC s.cs)=w at *
    (refine aA<|rgN<|aL O O O dP<|kas O<|aB<|aA<|rgN<|aK O O O dP ?_;refine bE [(1000001,601)] (.sv (.one (.slc 601 0 s.cs.length))) [(601,some ⟨3,nv.map .val,false⟩)] (hI) O O (by exact trivial) O O O O O (by exact (.box O (bW _ _ _ _) .nil)) dP<|K.callL [601] O O O (hOf O) dP ?_;refine kmv O<|kex O O<|kex O O<|kas O<|kas O<|aB<|aA<|rgN<|kmv O<|keq O O (r:=true) O<|kmv O<|gmv O O O<|gca O O hIs O O<|kpt O O ?_;refine kmv O<|gmv O O O<|gmv O O O<|gca O O hW O O<|kpt O O<|kas O<|aB<|aI ?_)
    exact ⟨[_],⟨O,trivial⟩,O⟩
end Go.Proofs.YtjifibloagkeeaaGreat
end
section
namespace Go.Proofs.YtjifibloagkeeaaGreat
open Go Go.Lg Go.Lg.Fld Go.Lg.Sg Go.Lg.Col
set_option maxRecDepth 100000
theorem names16 {cs:List Cp} (hs:cs.length≤30∧∀ c∈cs,c.fs.length≤12) (hm:NamesIn cs):NamesC cs:=fun c hc=>⟨by have:=hs.2 c hc;omega,(hm c hc).1,(hm c hc).2⟩
theorem good_split {s:Sc} {set:Nat} {most:Int}:goodT s set most=(decide (chkE s=0)&&((isB set&&(idsL set).all (hasC s.cs))&&(decide (1≤most)&&decide (most≤256)))):=by
  unfold goodT
  cases decide (chkE s=0)<;>cases isB set<;>cases decide (1≤most)<;>cases decide (most≤256)<;>cases (idsL set).all (hasC s.cs)<;>rfl
variable (X:Nat→Option Obj)
set_option maxHeartbeats 3200000 in
theorem tNew_no (s:Sc) (set:Nat) (most:Int) (ad:Option Addr) (cap:Nat) (hin:CompsIn X ad s.cs) (hm:NamesIn s.cs) (hs:s.cs.length≤30∧∀ c∈s.cs,c.fs.length≤12) (hset:set<4294967296) (h:goodT s set most=false):PSpec Tryz.prog X 33 [Sx s.ver ad s.cs.length cap,Ln .u32 (set:Nat),Ln .i64 most] LnilT:=by
  have hC:=pCheckBig X s ad cap hin (by omega) (names16 hs hm) _ rfl
  have hI:=fun hc=>isOf0 X s ad cap set hset hin (by omega) hc _ rfl
  rw [good_split] at h
  refine cD Tryz.func33 rfl (by kernel_rfl) rfl rfl ?_
  intro C
  by_cases hc:chkE s=0
  case neg =>
    generalize chkE s=e at *
    (refine aA<|rgN<|aL O O O dP<|kas O<|aB<|aA<|aA<|rgN<|aK O O O dP ?_;refine kca O O hC<|kne O O (r:=true) (cR hc)<|kmv O<|aC O O O<|aC O O O<|aC O O O<|aC O O O<|kpt O O<|kmv O<|aC O O O<|aC O O O<|kpt O O<|kmv O<|aC O O O ?_;refine aC O O O<|kpt O O<|aB<|aE O ?_;refine aA<|rgN<|kas O<|aB<|aI ?_)
    exact ⟨[_],⟨O,trivial⟩,O⟩
  have hI:=hI hc
  rw [cN hc,Bool.true_and] at h
  rw [hc] at hC
  generalize (isB set&&(idsL set).all (hasC s.cs))=q at *
  cases q with
  | false =>
    (refine aA<|rgN<|aL O O O dP<|kas O<|aB<|aA<|aA<|rgN<|aK O O O dP ?_;refine kca O O hC<|kne O O (r:=false) O<|kmv O<|gmv O O O<|aK O O O (dQ O O) ?_;refine gca O O hI O O<|aV O O (dQ O O) ?_;refine kpf O O<|kmv O<|aC O O O<|aC O O O<|kpt O O<|kmv O<|aC O O O<|aC O O O<|kpt O O<|aB<|aE O ?_;refine aA<|rgN<|kas O<|aB<|aI ?_)
    exact ⟨[_],⟨O,trivial⟩,O⟩
  | true =>
    by_cases h1:most<1
    · (refine aA<|rgN<|aL O O O dP<|kas O<|aB<|aA<|aA<|rgN<|aK O O O dP ?_;refine kca O O hC<|kne O O (r:=false) O<|kmv O<|gmv O O O<|aK O O O (dQ O O) ?_;refine gca O O hI O O<|aV O O (dQ O O) ?_;refine kpf O O<|kmv O<|gmv O O O<|bK O O (cN h1) (dQ O O) ?_;refine kpf O O<|kmv O<|aC O O O<|aC O O O<|kpt O O<|aB<|aE O ?_;refine aA<|rgN<|kas O<|aB<|aI ?_)
      exact ⟨[_],⟨O,trivial⟩,O⟩
    · have h2:256<most:=by
        rw [Bool.true_and,Bool.and_eq_false_iff,decide_eq_false_iff_not,decide_eq_false_iff_not] at h
        omega
      (refine aA<|rgN<|aL O O O dP<|kas O<|aB<|aA<|aA<|rgN<|aK O O O dP ?_;refine kca O O hC<|kne O O (r:=false) O<|kmv O<|gmv O O O<|aK O O O (dQ O O) ?_;refine gca O O hI O O<|aV O O (dQ O O) ?_;refine kpf O O<|kmv O<|gmv O O O<|bK O O (cL h1) (dQ O O) ?_;refine kpf O O<|kmv O<|gmv O O O<|aS O O (cN h2) (dQ O O) ?_;refine kpf O O<|aB<|aE O ?_;refine aA<|rgN<|kas O<|aB<|aI ?_)
      exact ⟨[_],⟨O,trivial⟩,O⟩
def ArrAt (H:Nat→Option Obj) (v:Value) (qs:List Nat):Prop:=(v=nilSlc∧qs=[])∨∃ db,LeadsTo H db v 110 1 (pvs qs)
theorem ArrAt.ptrs {H:Nat→Option Obj} {v:Value} {qs:List Nat} (h:ArrAt H v qs):PtrsIn H v qs:=by
  rcases h with ⟨rfl,rfl⟩|⟨db,h⟩
  · exact ⟨none,0,rfl,fun i b hb=>by simp at hb⟩
  · exact ptrs_leads h
set_option maxHeartbeats 12800000 in
theorem tNew (s:Sc) (set most:Nat) (ad:Option Addr) (cap:Nat) (hin:CompsIn X ad s.cs) (hm:NamesIn s.cs) (hs:s.cs.length≤30∧∀ c∈s.cs,c.fs.length≤12) (hset:set<4294967296) (h:goodT s set most=true):MSpec Tryz.prog X 33 [Sx s.ver ad s.cs.length cap,Ln .u32 (set:Nat),Ln .i64 (most:Nat)] [] (Lp 1000001) [tB 1000001 ⟨s,set,most,0,[]⟩]:=by
  have hk:TbOk ⟨s,set,most,0,[]⟩:=TbOk.new hset h
  have h24:=t_len24 hk
  have hC:=pCheckBig X s ad cap hin (by omega) (names16 hs hm) _ rfl
  rw [good_split] at h
  obtain ⟨hc,h⟩:=Bool.and_eq_true_iff.1 h
  obtain ⟨hq,h⟩:=Bool.and_eq_true_iff.1 h
  obtain ⟨hm1,hm2⟩:=Bool.and_eq_true_iff.1 h
  replace hc:=of_decide_eq_true hc
  replace hm1:=of_decide_eq_true hm1
  replace hm2:=of_decide_eq_true hm2
  have hI:=isOf0 X s ad cap set hset hin (by omega) hc _ hq
  rw [hc] at hC
  have hOnly:=only0 X s.ver ad cap s.cs set hset hin (by omega) fun c hc=>by have:=hs.2 c hc;omega
  refine cE Tryz.func33 rfl (by kernel_rfl) rfl rfl (by exact (by repeat' (first|refine bR ?_ ?_|rfl|exact bT|exact bS|exact bU rfl))) rfl rfl ?_
  intro C
  refine LWP.ends ?_
  have htc:onlyC (⟨s,set,most,0,[]⟩:Tb).sc.cs (⟨s,set,most,0,[]⟩:Tb).set=onlyC s.cs set:=rfl
  generalize hnc:(onlyC s.cs set).length=nc at *
  (refine aA<|rgN<|aL O O O dP<|kas O<|aB<|aA<|aA<|rgN<|aK O O O dP ?_;refine kca O O hC<|kne O O (r:=false) O<|kmv O<|gmv O O O<|aK O O O (dQ O O) ?_;refine gca O O hI O O<|aV O O (dQ O O) ?_;refine kpf O O<|kmv O<|gmv O O O<|bK O O (cL (by omega)) (dQ O O) ?_;refine kpf O O<|kmv O<|gmv O O O<|aS O O (cL (by omega)) (dQ O O) ?_;refine kpf O O<|aB<|aF O ?_;refine aH ?_;refine aA<|rgN<|kmv O<|kmv O<|aK O O O dP ?_;refine kmv O<|bE [(1000001,602)] (.sv (.agg [.val (.int .i64 s.ver),.slc 602 0 nc 3])) [cmB 602 (onlyC s.cs set)] (hOnly) O O (by exact trivial) O O O O O (by exact (.box O O .nil)) dP<|aT O O (by exact O) (by exact nl7 O O O O O O O O) dP ?_;refine aL O O O dP<|kas O<|aB<|aA<|aA ?_)
  refine LWP.le (σ':=⟨[(7,Lp 35),(2,Ln .i64 (most:Nat))],[(35,some ⟨109,[.val (.int .u32 (set:Nat)),.val (.int .i64 (most:Nat)),.val (.int .i64 (0:Nat)),.val nilSlc,.val (.int .i64 s.ver)] ++ .slc 602 0 nc 3::[.val nilSlc],false⟩),cmB 602 (onlyC s.cs set)],X⟩) (Le.of (by exact ⟨O,O,trivial⟩) (by exact ⟨O,O,trivial⟩) (by exact O) (by exact O) (by repeat' (first|refine bR ?_ ?_|rfl|exact bT|exact bS|exact bU O))) ?_
  refine LWP.fixCell O O O O O O fun ρ H2 cc hcm hO2 hcc _ => ?_
  obtain ⟨cb,cm⟩:=ρ
  have hin2:CompsIn H2 (some ⟨cb,0,none⟩) (onlyC s.cs set):=hcm.2
  (refine rgN<|kmv O<|bI O dP<|kfa O O ?_;refine kfa O O ?_;refine kl1 O O O<|aQ O bY O dP ?_;refine kmv O<|aB<|aG ?_)
  refine cJ (fun m σ=>∃ (j:Nat) (qs:List Nat) (vP:Value) (Hn HA:Nat→Option Obj),j≤nc∧m=nc-j∧OwnedM C (joinM X H2) Hn∧OwnedM C (joinM (joinM X H2) Hn) HA∧Refs Hn qs ((colsT ⟨s,set,most,0,[]⟩).take j)∧ArrAt HA vP qs∧σ=⟨[(7,Lp 35),(2,Ln .i64 (most:Nat)),(40,.sv (.one (vS (some ⟨cb,0,none⟩) nc cc))),(41,Ln .i64 (nc:Nat)),(42,Ln .i64 (j:Nat))],[tS 35 ⟨s,set,most,0,[]⟩ (.val nilSlc) (.slice (some ⟨cb,0,none⟩) nc cc) vP],joinM (joinM (joinM X H2) Hn) HA⟩) nc
    (cA (σ':=⟨[(7,Lp 35),(2,Ln .i64 (most:Nat)),(40,.sv (.one (vS (some ⟨cb,0,none⟩) nc cc))),(41,Ln .i64 (nc:Nat)),(42,Ln .i64 (0:Nat))],[tS 35 ⟨s,set,most,0,[]⟩ (.val nilSlc) (.slice (some ⟨cb,0,none⟩) nc cc) nilSlc],joinM X H2⟩) (Le.of (by exact ⟨rfl,rfl,rfl,rfl,rfl,trivial⟩) (by exact ⟨rfl,trivial⟩) (by exact rfl) (by exact rfl) (by repeat' (first|refine bR ?_ ?_|rfl|exact bT|exact bS|exact bU rfl))) (bZ ⟨0,[],nilSlc,fun _=>none,fun _=>none,by omega,by omega,OwnedM.nil _ _,OwnedM.nil _ _,Refs.nil _,.inl ⟨rfl,rfl⟩,by rw [joinM_nil,joinM_nil]⟩)) ?_
  rintro m σ ⟨j,qs,vP,Hn,HA,hj,rfl,hOn,hOA,hR,hA,rfl⟩
  have hcl:(colsT ⟨s,set,most,0,[]⟩).length=nc:=by rw [← hnc];exact colsG_len _ _ _
  have hqs:qs.length=j:=by rw [hR.len,cY];omega
  by_cases hlt:j<nc
  case neg =>
    have e:j=nc:=by omega
    subst e
    rw [List.take_of_length_le (by omega)] at hR
    (refine aA<|rgN<|klt O O (cL (by omega))<|aB<|aA<|aF O ?_;refine aJ<|aA<|rgN<|kmv O<|kas O<|aB<|aI ?_)
    obtain ⟨p1,p2,p3⟩:=OwnedM.swap hOn hOA
    refine cA (σ':=⟨[(6,Lp 35)],[tS 35 ⟨s,set,most,0,[]⟩ (.val nilSlc) (.slice (some ⟨cb,0,none⟩) j cc) vP],tH X (joinM H2 HA) (fun _=>none) Hn⟩) (by
      unfold tH
      rw [joinM_nil,← joinM_join,← p3]
      exact Le.of (by exact ⟨O,trivial⟩) (by exact ⟨O,trivial⟩) (by exact O) (by exact O) (by repeat' (first|refine bR ?_ ?_|rfl|exact bT|exact bS|exact bU O))) ?_
    refine tab_shut (t:=⟨s,set,most,0,[]⟩) (hO2.join p1) (OwnedM.nil _ _) (by rw [joinM_nil,← joinM_join];exact p2) ⟨⟨cb,cc,by rw [← hnc],hin2.mono (Go.Lg.joinM_keeps p1)⟩,hA.ptrs.mono fun b o h=>joinM_in h,hR,.inl ⟨rfl,rfl⟩,fun r hr=>by cases hr⟩ (bZ ?_)
    exact ⟨[(1000001,35)],⟨[_],⟨rfl,trivial⟩,rfl⟩,(by repeat' (first|exact trivial|refine cO ⟨_,rfl,?_⟩ ?_|refine cO ⟨_,rfl⟩ ?_|rfl|exact bV _ _ _ _|exact bW _ _ _ _|exact bX rfl)),rfl,rfl⟩
  obtain ⟨c,hcj⟩:∃ c,(onlyC s.cs set)[j]? = some c:=⟨_,cW (by omega)⟩
  have hsz:=t_size hk (k:=j) (c:=c) hcj
  have hlay:=t_lay hk (k:=j) (c:=c) hcj
  have hM:∀ b o,H2 b=some o→joinM (joinM (joinM X H2) Hn) HA b=some o:=fun b o hb=>joinM_has hOA (joinM_has hOn (joinM_in hb))
  obtain ⟨cblk,coff,carr,cel,cfr,fad,fcap,hqq,hcX,hcsz,hccs,_,_,_,hF⟩:=(hin2.mono hM).get hcj
  simp only [Option.some.injEq,Addr.mk.injEq] at hqq
  obtain ⟨rfl,rfl,_⟩:=hqq
  have hio:0+Int.toNat (j:Int)*3=0+j*3:=by simp
  have hOf:=Of_ok (joinM (joinM (joinM X H2) Hn) HA) fad fcap c.fs hF (by omega) hlay
  have hNw:=cNew_ok (joinM (joinM (joinM X H2) Hn) HA) (rowSize c.fs) most hsz.2.1 (by omega) (by omega)
  have hadd:IntKind.i64.wrap (((j:Nat):Int)+1)=((j+1:Nat):Int):=by rw [cF (by omega)];omega
  have hroot:=colR_root (rowSize c.fs) most []
  have htk:(colsT ⟨s,set,most,0,[]⟩).take (j+1)=(colsT ⟨s,set,most,0,[]⟩).take j++[colR (rowSize c.fs) most []]:=take_snoc (colsG_at (f:=colL []) (most:=most) hcj)
  have hfin : ∀ (HA0 : Nat → Option Obj) (Mid : St → Prop), OwnedM C (joinM (joinM X H2) Hn) HA0 → (∀ (qs' : List Nat) (vP' : Value) (Hn' HA' : Nat → Option Obj), OwnedM C (joinM X H2) Hn' → OwnedM C (joinM (joinM X H2) Hn') HA' → Refs Hn' qs' ((colsT ⟨s, set, most, 0, []⟩).take (j + 1)) → ArrAt HA' vP' qs' →
        Leads Tryz.f33.ntmps C Mid ⟨[(7,Lp 35),(2,Ln .i64 (most:Nat)),(40,.sv (.one (vS (some ⟨cb,0,none⟩) nc cc))),(41,Ln .i64 (nc:Nat)),(42,Ln .i64 (j+1:Nat))],[tS 35 ⟨s,set,most,0,[]⟩ (.val nilSlc) (.slice (some ⟨cb,0,none⟩) nc cc) vP'],joinM (joinM (joinM X H2) Hn') HA'⟩) →
      Leads Tryz.f33.ntmps C Mid ⟨[(7,Lp 35),(2,Ln .i64 (most:Nat)),(40,.sv (.one (vS (some ⟨cb,0,none⟩) nc cc))),(41,Ln .i64 (nc:Nat)),(42,Ln .i64 (j+1:Nat))],[(603,some ⟨110,(pvs qs).map .val ++ .ptr 601 0::([]:List Value).map .val,true⟩),cB 601 (rowSize c.fs) most [],tO 35 ⟨s,set,most,0,[]⟩ (.val nilSlc) (.val (.slice (some ⟨cb,0,none⟩) nc cc)) (.slc 603 0 (j+1) 1)],joinM (joinM (joinM X H2) Hn) HA0⟩:=fun HA0 Mid hO0 hmid=>by
    refine Leads.fixRsc (k:=601) (s:=[(7,Lp 35),(2,Ln .i64 (most:Nat)),(40,.sv (.one (vS (some ⟨cb,0,none⟩) nc cc))),(41,Ln .i64 (nc:Nat)),(42,Ln .i64 (j+1:Nat))]) (bx:=[tO 35 ⟨s,set,most,0,[]⟩ (.val nilSlc) (.val (.slice (some ⟨cb,0,none⟩) nc cc)) (.slc 603 0 (j+1) 1)]) (s0:=[]) (b0:=[(603,some ⟨110,(pvs qs).map .val ++ .ptr 601 0::([]:List Value).map .val,true⟩)]) (by rfl) (by rfl) (by rfl) (by rfl) (by refine bR ?_ rfl;exact fixIn_mid _ _) fun ρ Hc2 k1 k2 => ?_
    obtain ⟨bn,mn⟩:=ρ
    obtain ⟨q1,q2,q3⟩:=OwnedM.swap hO0 k2
    have hpush:=hR.push k1 (hroot _ _ k1) fun x hx=>own_far q1 hx
    have hcells:((pvs qs).map CV.val ++ .ptr 601 0::([]:List Value).map CV.val).map (CV.fix 601 bn)=(pvs (qs++[bn])).map CV.val:=by
      rw [fix_mid]
      unfold pvs
      simp
    rw [q3]
    refine cA (σ':=⟨[(7,Lp 35),(2,Ln .i64 (most:Nat)),(40,.sv (.one (vS (some ⟨cb,0,none⟩) nc cc))),(41,Ln .i64 (nc:Nat)),(42,Ln .i64 (j+1:Nat))],[(35,some ⟨109,[.val (.int .u32 (set:Nat)),.val (.int .i64 (most:Nat)),.val (.int .i64 (0:Nat)),.val nilSlc,.val (.int .i64 s.ver),.val (.slice (some ⟨cb,0,none⟩) nc cc)] ++ .slc 603 0 (j+1) 1::[],false⟩),(603,some ⟨110,(pvs (qs++[bn])).map .val,true⟩)],joinM (joinM (joinM (joinM X H2) Hn) Hc2) HA0⟩) (by
      show Le _ _ (⟨[]++_,[(603,some ⟨_,((pvs qs).map CV.val ++ .ptr 601 0::([]:List Value).map CV.val).map (CV.fix 601 bn),true⟩)]++_,_⟩:St) _
      rw [hcells]
      exact Le.of (by exact ⟨O,O,O,O,O,trivial⟩) (by exact ⟨O,O,trivial⟩) (by exact O) (by exact O) (by repeat' (first|refine bR ?_ ?_|rfl|exact bT|exact bS|exact bU O))) ?_
    refine Leads.closeCell q2 (by rw [pvs_len,cU];simp only [cX];omega) rfl rfl rfl rfl rfl rfl fun ba oa va _ _ hOa hva => ?_
    rw [joinM_join (joinM X H2) Hn Hc2]
    rw [joinM_join (joinM X H2) Hn Hc2] at hOa
    exact hmid (qs++[bn]) va (joinM Hn Hc2) _ (hOn.join q1) hOa (by rw [htk];exact hpush) (.inr ⟨ba,hva⟩)
  have hdone:∀ (qs':List Nat) (vP':Value) (Hn' HA':Nat→Option Obj),OwnedM C (joinM X H2) Hn'→OwnedM C (joinM (joinM X H2) Hn') HA'→Refs Hn' qs' ((colsT ⟨s,set,most,0,[]⟩).take (j+1))→ArrAt HA' vP' qs'→_:=fun qs' vP' Hn' HA' y1 y2 y3 y4=>bZ (n:=Tryz.f33.ntmps) (C:=C) (Mid:=fun σ'=>∃ m',m'<nc-j∧∃ (j:Nat) (qs:List Nat) (vP:Value) (Hn HA:Nat→Option Obj),j≤nc∧m'=nc-j∧OwnedM C (joinM X H2) Hn∧OwnedM C (joinM (joinM X H2) Hn) HA∧Refs Hn qs ((colsT ⟨s,set,most,0,[]⟩).take j)∧ArrAt HA vP qs∧σ'=⟨[(7,Lp 35),(2,Ln .i64 (most:Nat)),(40,.sv (.one (vS (some ⟨cb,0,none⟩) nc cc))),(41,Ln .i64 (nc:Nat)),(42,Ln .i64 (j:Nat))],[tS 35 ⟨s,set,most,0,[]⟩ (.val nilSlc) (.slice (some ⟨cb,0,none⟩) nc cc) vP],joinM (joinM (joinM X H2) Hn) HA⟩) ⟨nc-(j+1),by omega,j+1,qs',vP',Hn',HA',by omega,rfl,y1,y2,y3,y4,rfl⟩
  (refine aA<|rgN<|klt O O (cN (by omega))<|aB<|aA<|aE O ?_;refine aH ?_;refine aA<|aG<|aA<|rgN<|aR O O bY (by omega) hio dP<|aY O hcX (by kernel_rfl) hcsz hccs dP<|aP O dP ?_;refine aM O O O O O O dP ?_;refine aB<|aA<|rgN<|kfa O O ?_;refine kl1 O O O<|bE [(1000001,503)] (.tup [planV (rowSize c.fs:Nat) (.slc 503 0 c.fs.length 1),Sn .i64 0]) [(503,some ⟨3,(ntV (startsAt 0 c.fs)).map .val,false⟩)] (hOf) O O (by exact trivial) O O O O O (by exact (.box O (bW _ _ _ _) .nil)) dP<|kmv O<|kex O O<|kex O O<|aP O dP ?_;refine aM O O O O O O dP ?_;refine kas O<|aB ?_)
  refine LWP.le (σ':=⟨[(10,Lp 10),(7,Lp 35),(2,Ln .i64 (most:Nat)),(40,.sv (.one (vS (some ⟨cb,0,none⟩) nc cc))),(41,Ln .i64 (nc:Nat)),(42,Ln .i64 (j:Nat))],[(10,some ⟨123,[.val (.int .i64 (rowSize c.fs:Nat)),.slc 503 0 c.fs.length 1],false⟩),(503,some ⟨3,(ntV (startsAt 0 c.fs)).map .val,false⟩),tS 35 ⟨s,set,most,0,[]⟩ (.val nilSlc) (.slice (some ⟨cb,0,none⟩) nc cc) vP],joinM (joinM (joinM X H2) Hn) HA⟩) (Le.of (by exact ⟨O,O,O,O,O,O,trivial⟩) (by exact ⟨O,O,O,trivial⟩) (by exact O) (by exact O) (by repeat' (first|refine bR ?_ ?_|rfl|exact bT|exact bS|exact bU O))) ?_
  rcases hA with ⟨rfl,rfl⟩|⟨db,hd⟩
  · have hj0:j=0:=by rw [← hqs];rfl
    unfold nilSlc
    (refine rgD mixed<|kmv O<|kmv O<|bI O dP<|kfa O O ?_;refine kl1 O O O<|kfa O O ?_;refine kl1 O O O<|kmv O<|bE [(1000001,601)] (Lp 601) [cB 601 (rowSize c.fs) most []] (hNw) O O (by exact trivial) O O O O O (by exact (.box O O .nil)) dP<|aZ (zs:=[.pointer none]) (sz:=1) (e:=110) (cs':=[.ptr 601 0]) (by kernel_rfl) O O O O O O dP<|K.appendNil (by_:=8) (e:=110) (e2:=110) (l2:=[.ptr 601 0]) O O O (dL _) O O (by decide) (by kernel_rfl) (by kernel_rfl) (by omega) (by omega) O dP ?_;refine bI O dP<|kfa O O ?_;refine bG O O O O O (nl7 O O O O O O O O) dP<|aB<|rgA ?_;refine rgN<|kad O O hadd<|kmv O<|aB ?_)
    refine cA (σ':=⟨[(7,Lp 35),(2,Ln .i64 (most:Nat)),(40,.sv (.one (vS (some ⟨cb,0,none⟩) nc cc))),(41,Ln .i64 (nc:Nat)),(42,Ln .i64 (j+1:Nat))],[(603,some ⟨110,(pvs []).map .val ++ .ptr 601 0::([]:List Value).map .val,true⟩),cB 601 (rowSize c.fs) most [],tO 35 ⟨s,set,most,0,[]⟩ (.val nilSlc) (.val (.slice (some ⟨cb,0,none⟩) nc cc)) (.slc 603 0 (j+1) 1)],joinM (joinM (joinM X H2) Hn) HA⟩) (by rw [hj0];exact Le.ofR [(603,62)] (by exact ⟨rfl,rfl,rfl,rfl,rfl,trivial⟩) (by repeat' (first|exact trivial|refine cO ⟨_,rfl,?_⟩ ?_|refine cO ⟨_,rfl⟩ ?_|rfl|exact bV _ _ _ _|exact bW _ _ _ _|exact bX rfl)) (by exact rfl) (by exact rfl) (by repeat' (first|refine bR ?_ ?_|rfl|exact bT|exact bS|exact bU rfl)) (by exact rfl) (by exact rfl)) ?_
    exact hfin _ _ hOA hdone
  · have hel:(pvs qs).length=j*1:=by rw [pvs_len];omega
    have hcl1:((pvs qs).map CV.val).length=j*1:=by rw [cV];exact hel
    refine LWP.le (σ':=⟨[(10,Lp 10),(7,Lp 35),(2,Ln .i64 (most:Nat)),(40,.sv (.one (vS (some ⟨cb,0,none⟩) nc cc))),(41,Ln .i64 (nc:Nat)),(42,Ln .i64 (j:Nat))],[tS 35 ⟨s,set,most,0,[]⟩ (.val nilSlc) (.slice (some ⟨cb,0,none⟩) nc cc) vP,(10,some ⟨123,[.val (.int .i64 (rowSize c.fs:Nat)),.slc 503 0 c.fs.length 1],false⟩),(503,some ⟨3,(ntV (startsAt 0 c.fs)).map .val,false⟩)],joinM (joinM (joinM X H2) Hn) HA⟩) (Le.of (by exact ⟨O,O,O,O,O,O,trivial⟩) (by exact ⟨O,O,O,trivial⟩) (by exact O) (by exact O) (by repeat' (first|refine bR ?_ ?_|rfl|exact bT|exact bS|exact bU O))) ?_
    refine LWP.openCell (A:=[.val (.int .u32 (set:Nat)),.val (.int .i64 (most:Nat)),.val (.int .i64 (0:Nat)),.val nilSlc,.val (.int .i64 s.ver),.val (.slice (some ⟨cb,0,none⟩) nc cc)]) (B:=[]) (k:=602) (sz:=1) (len:=j) hOA hd hel (by omega) O (by repeat' (first|refine bR ?_ ?_|rfl|exact bS)) O O O ?_
    have hNw2:=cNew_ok (joinM (joinM (joinM X H2) Hn) (cutM HA db)) (rowSize c.fs) most hsz.2.1 (by omega) (by omega)
    (refine rgD mixed<|kmv O<|kmv O<|bI O dP<|kfa O O ?_;refine kl1 O O O<|kfa O O ?_;refine kl1 O O O<|kmv O<|bE [(1000001,601)] (Lp 601) [cB 601 (rowSize c.fs) most []] (hNw2) O O (by exact trivial) O O O O O (by exact (.box O O .nil)) dP<|aZ (zs:=[.pointer none]) (sz:=1) (e:=110) (cs':=[.ptr 601 0]) (by kernel_rfl) O O O O O O dP<|bO (by_:=8) (e2:=110) (l2:=[.ptr 601 0]) (nl:=j+1) (nc:=(pvs qs).map .val++[.ptr 601 0]) O O hcl1 O O (dL _) O O (by kernel_rfl) (by kernel_rfl) (by omega) (by omega) O O O dP<|bI O dP<|kfa O O ?_;refine bG O O O O O (nl7 O O O O O O O O) dP<|aB<|rgA ?_;refine rgN<|kad O O hadd<|kmv O<|aB ?_)
    refine cA (σ':=⟨[(7,Lp 35),(2,Ln .i64 (most:Nat)),(40,.sv (.one (vS (some ⟨cb,0,none⟩) nc cc))),(41,Ln .i64 (nc:Nat)),(42,Ln .i64 (j+1:Nat))],[(603,some ⟨110,(pvs qs).map .val ++ .ptr 601 0::([]:List Value).map .val,true⟩),cB 601 (rowSize c.fs) most [],tO 35 ⟨s,set,most,0,[]⟩ (.val nilSlc) (.val (.slice (some ⟨cb,0,none⟩) nc cc)) (.slc 603 0 (j+1) 1)],joinM (joinM (joinM X H2) Hn) (cutM HA db)⟩) (Le.ofR [(603,62)] (by exact ⟨rfl,rfl,rfl,rfl,rfl,trivial⟩) (by repeat' (first|exact trivial|refine cO ⟨_,rfl,?_⟩ ?_|refine cO ⟨_,rfl⟩ ?_|rfl|exact bV _ _ _ _|exact bW _ _ _ _|exact bX rfl)) (by exact rfl) (by exact rfl) (by repeat' (first|refine bR ?_ ?_|rfl|exact bT|exact bS|exact bU rfl)) (by exact rfl) (by exact rfl)) ?_
    exact hfin _ _ (hOA.cut db) hdone
end Go.Proofs.YtjifibloagkeeaaGreat
end
section
namespace Go.Proofs.YtjifibloagkeeaaGreat
open Go Go.Lg Go.Lg.Fld Go.Lg.Sg Go.Lg.Arith
set_option maxRecDepth 100000
def greatB16 (cs:List Cp):Bool:=decide (30<cs.length)||cs.any fun c=>decide (12<c.fs.length)
variable (X:Nat→Option Obj)
theorem greatB16_no {cs:List Cp} (h:greatB16 cs=false):cs.length≤30∧∀ c∈cs,c.fs.length≤12:=by
  unfold greatB16 at h
  rw [Bool.or_eq_false_iff,decide_eq_false_iff_not,List.any_eq_false] at h
  exact ⟨by omega,fun c hc=>by have:=h.2 c hc;simpa using this⟩
end Go.Proofs.YtjifibloagkeeaaGreat
end
section
namespace Go.Proofs.YtjifibloagkeeaaGreat
open Go Go.Lg Go.Lg.Fld Go.Lg.Sg
set_option maxRecDepth 100000
structure EnIn (X:Nat→Option Obj) (ad:Option Addr) (l:List Nat):Prop where
  at_:∀ (i:Nat) (h:Nat),l[i]? = some h→∃ (blk off:Nat) (arr:Array Value) (el:TypeId) (fr:Nat×Nat),ad=some ⟨blk,off,none⟩∧X blk=some (.cells arr el fr)∧arr[off+i*1]? = some (.int .u64 (h:Nat))
variable (X:Nat→Option Obj)
end Go.Proofs.YtjifibloagkeeaaGreat
end
section
namespace Go.Proofs.YtjifibloagkeeaaGreat
open Go Go.Lg Go.Lg.Fld Go.Lg.Sg
set_option maxRecDepth 100000
structure Ac where
  kind:Int
  i:Int
  e:Nat
  p:List Pt
structure AcsIn (X:Nat→Option Obj) (ad:Option Addr) (acs:List Ac):Prop where
  at_:∀ (i:Nat) (a:Ac),acs[i]? = some a→∃ (blk off:Nat) (arr:Array Value) (el:TypeId) (fr:Nat×Nat) (pad:Option Addr) (pcap:Nat),ad=some ⟨blk,off,none⟩∧X blk=some (.cells arr el fr)∧off+i*4+4≤arr.size ∧
    (arr.toList.drop (off+i*4)).take 4=[.int .i64 a.kind,.int .i64 a.i,.int .u64 (a.e:Nat),.slice pad a.p.length pcap]∧PartsC X pad a.p
  small:∀ a∈acs,(-9223372036854775808≤a.kind∧a.kind<9223372036854775808)∧(-9223372036854775808≤a.i∧a.i<9223372036854775808)∧a.e<18446744073709551616∧a.p.length<4611686018427387904∧∀ x∈a.p,x.val.length<4611686018427387904
variable (X:Nat→Option Obj)
end Go.Proofs.YtjifibloagkeeaaGreat
end
