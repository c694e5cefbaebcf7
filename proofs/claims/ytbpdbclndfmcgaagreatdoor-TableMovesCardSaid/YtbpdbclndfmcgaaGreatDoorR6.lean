/- A piece of a proof over this program: contracts of its functions, and a logic to prove them by. -/
import Derived.Test.YtbpdbclndfmcgaaGreatDoorR3
import Derived.Test.YtbpdbclndfmcgaaGreatDoorR4
import Derived.Test.YtbpdbclndfmcgaaGreatDoorR5
import Derived.Laws.BitsAllLaws
import Derived.Lib.Join
import Derived.Lib.IndexLaws
section
namespace Go.Proofs.YtbpdbclndfmcgaaGreatDoor
open Go Go.Lg Go.Lg.Col
set_option maxRecDepth 100000
variable (X:Nat→Option Obj)
theorem seek_ok (z q m:Nat) (v:Value) (i:Nat) (h:i<m):MSpec Tryz.prog X 86 [Lp 1000000,Ln .i64 (i:Nat)] [sB 1000000 z q m (.val v)] (Ln .i64 0) [sB 1000000 z q m (.val v)]:=by
  refine cD Tryz.func86 rfl (by kernel_rfl) rfl rfl (by exact (by repeat' (first|refine bR ?_ ?_|rfl|exact bT|exact bS|exact bU rfl))) rfl rfl ?_
  intro C
  (refine aA<|rgN<|kas O<|aB<|aA<|aA<|rgN<|kmv O<|K.ptrNil O (by kernel_rfl) (.inl ⟨O,O⟩) dN<|aB<|aE O ?_;refine aG ?_;refine aA<|aA<|rgN<|kmv O<|klt O O (cK (by omega))<|kmv O<|gmv O O O<|gmv O O O<|bH O (dO O O) ?_;refine aM O O (dO O O) ?_;refine aN O O O (dO O O) ?_;refine K.geq O O (cK (by omega)) (dO O O) ?_;refine kpf O O<|aB<|aE O ?_;refine aG ?_;refine aA<|rgN<|kas O<|aB<|aH ?_)
  exact ⟨[],⟨[_],⟨rfl,trivial⟩,rfl⟩,(by repeat' (first|exact trivial|refine cM ⟨_,rfl,?_⟩ ?_|refine cM ⟨_,rfl⟩ ?_|rfl|exact bV _ _ _ _|exact bW _ _ _ _|exact bX rfl)),rfl,rfl⟩
theorem h0_of {p z cl:Nat} (i:Nat) (hp:i%16*z=p) (h:p+z≤cl):p<cl∨p=0:=by
  rcases Nat.eq_zero_or_pos z with h0|h0
  · right;rw [← hp,h0,Nat.mul_zero]
  · left;omega
theorem at_X (z q m i:Nat) {db nc ccap b cl cap:Nat} {arr:Array Value} {fr:Nat×Nat} (hz:z≤256) (hi:i<65536) (hin:i/16<nc) (hX:X db=some (.cells arr 151 fr)) (hc:arr[i/16]? = some (.slice (some ⟨b,0,none⟩) cl cap)) (hlen:i%16*z+z≤cl) (hcap:cl≤cap):
    MSpec Tryz.prog X 85 [Lp 1000000,Ln .i64 (i:Nat)] [sB 1000000 z q m (.val (.slice (some ⟨db,0,none⟩) nc ccap))] (.sv (.one (.val (.slice (some ⟨b,i%16*z,none⟩) z (cap-i%16*z)))))
      [sB 1000000 z q m (.val (.slice (some ⟨db,0,none⟩) nc ccap))]:=by
  refine cD Tryz.func85 rfl (by kernel_rfl) rfl rfl (by exact (by repeat' (first|refine bR ?_ ?_|rfl|exact bT|exact bS|exact bU rfl))) rfl rfl ?_
  intro C
  have h1:((i:Nat):Int).tmod 16=((i%16:Nat):Int):=by rw [Int.tmod_eq_emod_of_nonneg (by omega)];omega
  have h16:i%16*z≤15*256:=Nat.mul_le_mul (by omega) hz
  have h2:IntKind.i64.wrap (((i%16:Nat):Int)*(z:Nat))=((i%16*z:Nat):Int):=by rw [← Int.natCast_mul,cE (by omega)]
  have h3:IntKind.i64.wrap (((i:Nat):Int).tdiv 16)=((i/16:Nat):Int):=by rw [quo_i64 (by omega) (by omega)];omega
  have h4:IntKind.i64.wrap (((i%16*z:Nat):Int)+(z:Nat))=((i%16*z+z:Nat):Int):=by rw [cE (by omega)];omega
  have hix:0+Int.toNat ((i/16:Nat):Int)*1=i/16:=by rw [dC];omega
  have h0:=h0_of (cl:=cl) i rfl hlen
  generalize hp:i%16*z=p at *
  (refine aA<|rgN<|kas O<|aB<|aA<|rgN<|kmv O<|K.rem O O (by decide) h1 dN<|kmv O<|bH O dN<|kfa O O ?_;refine kl1 O O O<|bK O O h2 dN<|kas O<|aB<|aA<|rgD mixed<|kmv O<|bH O dN<|kfa O O ?_;refine kl1 O O O<|kmv O<|K.quo O O (by decide) h3 dN<|aQ O O bY (by omega) hix dN<|aV O hX O hc dN<|kmv O<|kmv O<|kmv O<|bH O dN<|kfa O O ?_;refine kl1 O O O<|kad O O h4<|K.cut2X (sz:=1) (l:=p) (h:=p+z) (off':=p) (len':=z) (cap':=cap-p) O O O (by kernel_rfl) (by omega) (by omega) h0 hcap (by omega) (by omega) O dN ?_;refine kas O<|aB<|rgA ?_;refine aH ?_)
  exact ⟨[],⟨[_],⟨rfl,trivial⟩,rfl⟩,(by repeat' (first|exact trivial|refine cM ⟨_,rfl,?_⟩ ?_|refine cM ⟨_,rfl⟩ ?_|rfl|exact bV _ _ _ _|exact bW _ _ _ _|exact bX rfl)),rfl,rfl⟩
theorem at_B (z q m:Nat) (l:List UInt8) (i:Nat) (nc cl:Nat) (A B:List Value) (r1 r2:Bool) (hz:z≤256) (hi:i<65536) (hA:A.length=i/16) (hin:i/16<nc) (hlen:i%16*z+z≤cl):
    MSpec Tryz.prog X 85 [Lp 1000000,Ln .i64 (i:Nat)] [sB 1000000 z q m (.slc 1000001 0 nc),(1000001,some ⟨151,A.map .val ++ .slc 1000002 0 cl::B.map .val,r1⟩),(1000002,some ⟨5,l.map bc,r2⟩)] (.sv (.one (.slc 1000002 (i%16*z) z)))
      [sB 1000000 z q m (.slc 1000001 0 nc),(1000001,some ⟨151,A.map .val ++ .slc 1000002 0 cl::B.map .val,r1⟩),(1000002,some ⟨5,l.map bc,r2⟩)]:=by
  refine cD Tryz.func85 rfl (by kernel_rfl) rfl rfl (by exact (by repeat' (first|refine bR ?_ ?_|rfl|exact bT|exact bS|exact bU rfl))) rfl rfl ?_
  intro C
  have h1:((i:Nat):Int).tmod 16=((i%16:Nat):Int):=by rw [Int.tmod_eq_emod_of_nonneg (by omega)];omega
  have h16:i%16*z≤15*256:=Nat.mul_le_mul (by omega) hz
  have h2:IntKind.i64.wrap (((i%16:Nat):Int)*(z:Nat))=((i%16*z:Nat):Int):=by rw [← Int.natCast_mul,cE (by omega)]
  have h3:IntKind.i64.wrap (((i:Nat):Int).tdiv 16)=((i/16:Nat):Int):=by rw [quo_i64 (by omega) (by omega)];omega
  have h4:IntKind.i64.wrap (((i%16*z:Nat):Int)+(z:Nat))=((i%16*z+z:Nat):Int):=by rw [cE (by omega)];omega
  have hix:0+Int.toNat ((i/16:Nat):Int)*1=i/16:=by rw [dC];omega
  have hcell:(A.map CV.val ++ .slc 1000002 0 cl::B.map CV.val)[i/16]? = some (.slc 1000002 0 cl):=mid_get (by rw [cT];exact hA)
  have h0:=h0_of (cl:=cl) i rfl hlen
  generalize hp:i%16*z=p at *
  (refine aA<|rgN<|kas O<|aB<|aA<|rgN<|kmv O<|K.rem O O (by decide) h1 dN<|kmv O<|bH O dN<|kfa O O ?_;refine kl1 O O O<|bK O O h2 dN<|kas O<|aB<|aA<|rgD mixed<|kmv O<|bH O dN<|kfa O O ?_;refine kl1 O O O<|kmv O<|K.quo O O (by decide) h3 dN<|K.indexSlc O O (by omega) hix dN ?_;refine kl1 O O hcell<|kmv O<|kmv O<|kmv O<|bH O dN<|kfa O O ?_;refine kl1 O O O<|kad O O h4<|K.cut2Slc (l:=p) (h:=p+z) (off':=p) (len':=z) O O O (by kernel_rfl) (by omega) (by omega) h0 (by omega) (by omega) dN ?_;refine kas O<|aB<|rgA ?_;refine aH ?_)
  exact ⟨[],⟨[_],⟨rfl,trivial⟩,rfl⟩,(by repeat' (first|exact trivial|refine cM ⟨_,rfl,?_⟩ ?_|refine cM ⟨_,rfl⟩ ?_|rfl|exact bV _ _ _ _|exact bW _ _ _ _|exact bX rfl)),rfl,rfl⟩
theorem at_V (z q m:Nat) (l:List UInt8) (i:Nat) (nc cl cl2 b cap:Nat) (A B:List Value) (r1 r2:Bool) (hz:z≤256) (hi:i<65536) (hin:i/16<nc) (hlen:i%16*z+z≤cl) (hcap:cl≤cap) (hcell:(A.map CV.val ++ .slc 1000002 0 cl2::B.map CV.val)[i/16]? = some (.val (.slice (some ⟨b,0,none⟩) cl cap))):
    MSpec Tryz.prog X 85 [Lp 1000000,Ln .i64 (i:Nat)] [sB 1000000 z q m (.slc 1000001 0 nc),(1000001,some ⟨151,A.map .val ++ .slc 1000002 0 cl2::B.map .val,r1⟩),(1000002,some ⟨5,l.map bc,r2⟩)] (.sv (.one (.val (.slice (some ⟨b,i%16*z,none⟩) z (cap-i%16*z)))))
      [sB 1000000 z q m (.slc 1000001 0 nc),(1000001,some ⟨151,A.map .val ++ .slc 1000002 0 cl2::B.map .val,r1⟩),(1000002,some ⟨5,l.map bc,r2⟩)]:=by
  refine cD Tryz.func85 rfl (by kernel_rfl) rfl rfl (by exact (by repeat' (first|refine bR ?_ ?_|rfl|exact bT|exact bS|exact bU rfl))) rfl rfl ?_
  intro C
  have h1:((i:Nat):Int).tmod 16=((i%16:Nat):Int):=by rw [Int.tmod_eq_emod_of_nonneg (by omega)];omega
  have h16:i%16*z≤15*256:=Nat.mul_le_mul (by omega) hz
  have h2:IntKind.i64.wrap (((i%16:Nat):Int)*(z:Nat))=((i%16*z:Nat):Int):=by rw [← Int.natCast_mul,cE (by omega)]
  have h3:IntKind.i64.wrap (((i:Nat):Int).tdiv 16)=((i/16:Nat):Int):=by rw [quo_i64 (by omega) (by omega)];omega
  have h4:IntKind.i64.wrap (((i%16*z:Nat):Int)+(z:Nat))=((i%16*z+z:Nat):Int):=by rw [cE (by omega)];omega
  have hix:0+Int.toNat ((i/16:Nat):Int)*1=i/16:=by rw [dC];omega
  have h0:=h0_of (cl:=cl) i rfl hlen
  generalize hp:i%16*z=p at *
  (refine aA<|rgN<|kas O<|aB<|aA<|rgN<|kmv O<|K.rem O O (by decide) h1 dN<|kmv O<|bH O dN<|kfa O O ?_;refine kl1 O O O<|bK O O h2 dN<|kas O<|aB<|aA<|rgD mixed<|kmv O<|bH O dN<|kfa O O ?_;refine kl1 O O O<|kmv O<|K.quo O O (by decide) h3 dN<|K.indexSlc O O (by omega) hix dN ?_;refine kl1 O O hcell<|kmv O<|kmv O<|kmv O<|bH O dN<|kfa O O ?_;refine kl1 O O O<|kad O O h4<|K.cut2X (sz:=1) (l:=p) (h:=p+z) (off':=p) (len':=z) (cap':=cap-p) O O O (by kernel_rfl) (by omega) (by omega) h0 hcap (by omega) (by omega) O dN ?_;refine kas O<|aB<|rgA ?_;refine aH ?_)
  exact ⟨[],⟨[_],⟨rfl,trivial⟩,rfl⟩,(by repeat' (first|exact trivial|refine cM ⟨_,rfl,?_⟩ ?_|refine cM ⟨_,rfl⟩ ?_|rfl|exact bV _ _ _ _|exact bW _ _ _ _|exact bX rfl)),rfl,rfl⟩
theorem cNew_ok (size cap:Nat) (hs:size≤256) (h1:1≤cap) (hc:cap≤65536):MSpec Tryz.prog X 40 [Ln .i64 (size:Nat),Ln .i64 (cap:Nat)] [] (Lp 1000001) [cB 1000001 size cap []]:=by
  refine cD Tryz.func40 rfl (by kernel_rfl) rfl rfl (by exact (by repeat' (first|refine bR ?_ ?_|rfl|exact bT|exact bS|exact bU rfl))) rfl rfl ?_
  intro C
  refine LWP.ends ?_
  (refine aA<|rgN<|kas O<|aB<|aA<|aA<|rgN<|kmv O<|klt O O (cK (by omega))<|kmv O<|gmv O O O<|aR O O (cK (by omega)) (dO O O) ?_;refine kpf O O<|kmv O<|gmv O O O<|bJ O O (cK (by omega)) (dO O O) ?_;refine kpf O O<|kmv O<|gmv O O O<|aR O O (cK (by omega)) (dO O O) ?_;refine kpf O O<|aB<|aE O ?_;refine aG ?_;refine aA<|rgN<|kmv O<|kmv O<|aS O O (by exact O) (by exact nl4 O O O O O) dN ?_;refine aK O O O dN<|kas O<|aB<|aH ?_)
  refine cA (σ':=⟨[(4,Lp 22)],[sB 22 size cap ([]:List (List UInt8)).length (.val (.slice none 0 0))],joinM X (fun _=>none)⟩) (by rw [joinM_nil];exact Le.of (by exact ⟨rfl,trivial⟩) (by exact ⟨rfl,trivial⟩) (by exact rfl) (by exact rfl) (by repeat' (first|refine bR ?_ ?_|rfl|exact bT|exact bS|exact bU rfl))) ?_
  refine col_shut (cells:=[]) (B:=[]) (OwnedM.nil C X) ⟨Grid.empty _ _ _,Packed.nil ⟨hs,hc⟩⟩ (bZ ?_)
  exact ⟨[(1000001,22)],⟨[_],⟨rfl,trivial⟩,rfl⟩,(by repeat' (first|exact trivial|refine cM ⟨_,rfl,?_⟩ ?_|refine cM ⟨_,rfl⟩ ?_|rfl|exact bV _ _ _ _|exact bW _ _ _ _|exact bX rfl)),rfl,rfl⟩
set_option maxHeartbeats 1600000 in
theorem cGet_ok (size cap:Nat) (L:List (List UInt8)) (i:Nat) (l:List UInt8) (h:L[i]? = some l):
    MSpec Tryz.prog X 52 [Lp 1000000,Ln .i64 (i:Nat)] [cB 1000000 size cap L] (.tup [Ss l,Sn .i64 0]) [cB 1000000 size cap L]:=by
  refine cD Tryz.func52 rfl (by kernel_rfl) rfl rfl (by exact (by repeat' (first|refine bR ?_ ?_|rfl|exact bT|exact bS|exact bU rfl))) rfl rfl ?_
  intro C
  have hi:=(List.getElem?_eq_some_iff.1 h).1
  refine LWP.ends (col_open fun H v cells B hO hI => ?_)
  have hs:=seek_ok (joinM X H) size cap L.length v i hi
  have hp:=hI.pk.chunk hi
  have hfit:=place_fit i size
  have hsm:=hI.pk.small
  have hq:=hI.pk.fit
  obtain ⟨db,ccap,arr,fr,b,cap2,arr2,fr2,sp,rfl,h1,h2,h3,h4,h5⟩:=hI.place hp
  obtain ⟨h6,h7⟩:=chunk_read (p:=i%16*size) (z:=size) h5 (by rw [hI.pk.len_at hp];exact hfit)
  have hat:=at_X (joinM X H) size cap L.length i (ccap:=ccap) hsm.1 (by omega) hp (joinM_in h1) h2 hfit h3
  have hl:(arr2.toList.drop (i%16*size)).take size=l.map fun c=>Value.int .u8 (c.toNat:Nat):=by
    rw [h7]
    have:=hI.pk.row i l h
    unfold rowOf at this
    rw [this];rfl
  have hX2:=joinM_in (X:=X) h4
  generalize i%16*size=p at *
  (refine aA<|rgN<|kas O<|kas O<|aB<|aA<|aA<|rgN<|kmv O<|kmv O<|K.callR [(1000000,1000000)] (hs) O O (by exact (cM ⟨_,O,O⟩ trivial)) (by exact (bR (bR O (bR O (bR O (bR O O)))) O)) O O O O dN<|kas O<|aB<|aA ?_;refine rgN<|kmv O<|kne O O ((cO (by omega)))<|aB<|aE O ?_;refine aG ?_;refine aA<|rgN<|kmv O<|kmv O<|K.callR [(1000000,1000000)] (hat) O O (by exact (cM ⟨_,O,O⟩ trivial)) (by exact (bR (bR O (bR O (bR O (bR O O)))) O)) O O O O dN<|K.convStrX (l:=l) O hX2 (by kernel_rfl) StrT.u h6 hl dN ?_;refine kas O<|kas O<|aB<|aH ?_)
  refine col_shut hO hI (bZ ?_)
  exact ⟨[],⟨[_,_],⟨rfl,rfl,trivial⟩,rfl⟩,(by repeat' (first|exact trivial|refine cM ⟨_,rfl,?_⟩ ?_|refine cM ⟨_,rfl⟩ ?_|rfl|exact bV _ _ _ _|exact bW _ _ _ _|exact bX rfl)),rfl,rfl⟩
end Go.Proofs.YtbpdbclndfmcgaaGreatDoor
end
section
namespace Go.Lg.Col
open Go Go.Lg
def appE (size cap n:Nat) (row:List UInt8):Int:=if row.length≠size then 4 else if cap≤n then 5 else 0
theorem appE_ok {size cap n:Nat} {row:List UInt8} (h:appE size cap n row=0):row.length=size∧n<cap:=by
  unfold appE at h
  split at h
  · omega
  · split at h<;>omega
theorem splice_bc (ch:List UInt8) (p:Nat) (row:List UInt8):splice (ch.map bc) p (row.map bc)=(splice ch p row).map bc:=by unfold splice;simp
end Go.Lg.Col
namespace Go.Proofs.YtbpdbclndfmcgaaGreatDoor
open Go Go.Lg Go.Lg.Col
set_option maxRecDepth 100000
variable (X:Nat→Option Obj)
set_option maxHeartbeats 1600000 in
theorem cSet_ok (size cap:Nat) (L:List (List UInt8)) (i:Nat) (row:List UInt8) (hi:i<L.length) (h:row.length=size):
    MSpec Tryz.prog X 53 [Lp 1000000,Ln .i64 (i:Nat),Ls row] [cB 1000000 size cap L] (Ln .i64 0) [cB 1000000 size cap (L.set i row)]:=by
  refine cD Tryz.func53 rfl (by kernel_rfl) rfl rfl (by exact (by repeat' (first|refine bR ?_ ?_|rfl|exact bT|exact bS|exact bU rfl))) rfl rfl ?_
  intro C
  refine LWP.ends (col_open fun H v cells B hO hI => ?_)
  have hs:=seek_ok (joinM X H) size cap L.length v i hi
  have hp:=hI.pk.chunk hi
  have hfit:=place_fit i size
  have hsm:=hI.pk.small
  have hq:=hI.pk.fit
  have hcl:=hI.len
  have hbl:=hI.pk.len_at hp
  have hne:(((row.length:Nat):Int) != (size:Nat))=false:=by rw [bne_eq_false_iff_eq,h]
  (refine aA<|rgN<|kas O<|aB<|aA<|aA<|rgN<|kmv O<|kmv O<|K.callR [(1000000,1000000)] (hs) O O (by exact (cM ⟨_,O,O⟩ trivial)) (by exact (bR (bR O (bR O (bR O (bR O O)))) O)) O O O O dN<|kas O<|aB<|aA<|rgN ?_;refine kmv O<|kne O O ((cO (by omega)))<|aB<|aE O ?_;refine aG ?_;refine aA<|aA<|rgN<|kmv O<|kln O<|kmv O<|bH O dN<|kfa O O ?_;refine kl1 O O O<|kne O O hne<|aB<|aE O ?_;refine aG ?_;refine aA ?_)
  refine chunk_open hO hI hp (fun _=>O) (fun _ _=>O) fun H0 hO0 G _ => ?_
  have hat:=at_B (joinM X H0) size cap L.length (B.getD (i/16) []) i cells.length (B.getD (i/16) []).length (cells.take (i/16)) (cells.drop (i/16+1)) true true hsm.1 (by omega) (by rw [cW];omega) (by omega) (by omega)
  have hcp:i%16*size+row.length≤((B.getD (i/16) []).map bc).length:=by rw [cT,h,hbl];exact hfit
  (refine rgN<|kmv O<|kmv O<|bD [(1000000,1000000),(1000001,900001),(1000002,900002)] (.sv (.one (.slc 900002 (i%16*size) size))) (oB size cap L.length (i/16) cells (B.getD (i/16) [])) (hat) O O (by exact (cM ⟨_,O,O⟩ (cM ⟨_,O,(bX O)⟩ (cM ⟨_,O,(bV _ _ _ _)⟩ trivial)))) (by exact (bR (bR O (bR O (bR O (bR O O)))) (bR (bU O) (bR bT O)))) O O O O (by exact (.box O O (.box O (bX O) (.box O (bV _ _ _ _) .nil)))) dN<|kmv O<|K.copyStr (e:=5) O O O (by kernel_rfl) (by kernel_rfl) (by omega) hcp O (splice_bc _ _ _) dN ?_;refine aB<|aA<|rgN<|kas O<|aB<|aH ?_)
  refine cA (σ':=⟨[(6,Ln .i64 0)],oB size cap (L.set i row).length (i/16) cells (splice (B.getD (i/16) []) (i%16*size) row),joinM X H0⟩) ?_ ?_
  · unfold oB oBr
    rw [splice_len (by rw [hbl,h];exact hfit),List.length_set]
    exact Le.of (by exact ⟨O,trivial⟩) (by exact ⟨O,O,O,trivial⟩) (by exact O) (by exact O) (by repeat' (first|refine bR ?_ ?_|rfl|exact bT|exact bS|exact bU O))
  refine chunk_shut (by omega) hO0 G O O fun H' v' cells' hO' G' => ?_
  refine col_shut hO' ⟨G',hI.pk.set hi h⟩ (bZ ?_)
  exact ⟨[],⟨[_],⟨rfl,trivial⟩,rfl⟩,(by repeat' (first|exact trivial|refine cM ⟨_,rfl,?_⟩ ?_|refine cM ⟨_,rfl⟩ ?_|rfl|exact bV _ _ _ _|exact bW _ _ _ _|exact bX rfl)),rfl,rfl⟩
set_option maxHeartbeats 3200000 in
theorem cAppend_in (size cap:Nat) (L:List (List UInt8)) (row:List UInt8) (h:row.length=size) (hn:L.length<cap) (h16:L.length%16≠0):
    MSpec Tryz.prog X 47 [Lp 1000000,Ls row] [cB 1000000 size cap L] (Ln .i64 0) [cB 1000000 size cap (L++[row])]:=by
  refine cD Tryz.func47 rfl (by kernel_rfl) rfl rfl (by exact (by repeat' (first|refine bR ?_ ?_|rfl|exact bT|exact bS|exact bU rfl))) rfl rfl ?_
  intro C
  refine LWP.ends (col_open fun H v cells B hO hI => ?_)
  have hnb:=hI.pk.nb
  have hp:L.length/16<B.length:=by omega
  have hfit:=place_fit L.length size
  have hsm:=hI.pk.small
  have hcl:=hI.len
  have hbl:=hI.pk.len_at hp
  have hne:(((row.length:Nat):Int) != (size:Nat))=false:=by rw [bne_eq_false_iff_eq,h]
  have hmul:IntKind.i64.wrap (((B.length:Nat):Int)*16)=((B.length*16:Nat):Int):=by rw [cE (by omega)];omega
  have heq:(((L.length:Nat):Int)==((B.length*16:Nat):Int))=false:=by rw [beq_eq_false_iff_ne];omega
  have hadd:IntKind.i64.wrap (((L.length:Nat):Int)+1)=((L.length+1:Nat):Int):=by rw [cE (by omega)];omega
  have hsub:IntKind.i64.wrap (((L.length+1:Nat):Int)-1)=((L.length:Nat):Int):=by rw [cE (by omega)];omega
  obtain ⟨ad,ccap,hv⟩:=hI.slice
  rw [hv]
  (refine aA<|rgN<|kas O<|aB<|aA<|aF<|aA<|rgN<|kmv O<|K.ptrNil O (by kernel_rfl) (.inl ⟨O,O⟩) dN<|kas O<|aB<|aE O ?_;refine aA<|rgN<|kmv O<|kln O<|kmv O<|bH O dN<|kfa O O ?_;refine kl1 O O O<|kne O O hne<|kas O<|aB<|aE O ?_;refine aA<|rgD mixed<|kmv O<|bH O dN<|kfa O O ?_;refine kl1 O O O<|kmv O<|bH O dN<|kfa O O ?_;refine kl1 O O O<|K.geq O O (cK (by omega)) dN<|kas O<|aB<|rgA ?_;refine aE O ?_;refine aG ?_;refine aA<|aA<|rgD mixed<|kmv O<|bH O dN<|kfa O O ?_;refine kl1 O O O<|kmv O<|bH O dN<|kfa O O ?_;refine kl1 O O O<|aP O bY O dN ?_;refine bK O O hmul dN<|keq O O heq<|aB<|rgA ?_;refine aE O ?_;refine aG ?_;refine aA<|rgN<|kmv O<|bH O dN<|kfa O O ?_;refine kl1 O O O<|kad O O hadd<|bH O dN<|kfa O O ?_;refine bF O O O O O (nl4 O O O O O) dN<|aB<|aA ?_)
  refine LWP.le (σ':=⟨[(0,Lp 1000000),(1,Ls row)],[sB 1000000 size cap (L.length+1) (.val (.slice ad B.length ccap))],joinM X H⟩) (Le.of (by exact ⟨O,O,trivial⟩) (by exact ⟨O,trivial⟩) (by exact O) (by exact O) (by repeat' (first|refine bR ?_ ?_|rfl|exact bT|exact bS|exact bU O))) ?_
  rw [← hv]
  refine chunk_open (m:=L.length+1) hO hI hp (fun _=>O) (fun _ _=>O) fun H0 hO0 G _ => ?_
  have hat:=at_B (joinM X H0) size cap (L.length+1) (B.getD (L.length/16) []) L.length cells.length (B.getD (L.length/16) []).length (cells.take (L.length/16)) (cells.drop (L.length/16+1)) true true hsm.1 (by omega) (by rw [cW];omega) (by omega) (by omega)
  have hcp:L.length%16*size+row.length≤((B.getD (L.length/16) []).map bc).length:=by rw [cT,h,hbl];exact hfit
  (refine rgN<|kmv O<|kmv O<|bH O dN<|kfa O O ?_;refine kl1 O O O<|aZ O O hsub dN<|bD [(1000000,1000000),(1000001,900001),(1000002,900002)] (.sv (.one (.slc 900002 (L.length%16*size) size))) (oB size cap (L.length+1) (L.length/16) cells (B.getD (L.length/16) [])) (hat) O O (by exact (cM ⟨_,O,O⟩ (cM ⟨_,O,(bX O)⟩ (cM ⟨_,O,(bV _ _ _ _)⟩ trivial)))) (by exact (bR (bR O (bR O (bR O (bR O O)))) (bR (bU O) (bR bT O)))) O O O O (by exact (.box O O (.box O (bX O) (.box O (bV _ _ _ _) .nil)))) dN<|kmv O<|K.copyStr (e:=5) O O O (by kernel_rfl) (by kernel_rfl) (by omega) hcp O (splice_bc _ _ _) dN ?_;refine aB<|aA<|rgN<|kas O<|aB<|aH ?_)
  refine cA (σ':=⟨[(4,Ln .i64 0)],oB size cap (L++[row]).length (L.length/16) cells (splice (B.getD (L.length/16) []) (L.length%16*size) row),joinM X H0⟩) ?_ ?_
  · unfold oB oBr
    rw [splice_len (by rw [hbl,h];exact hfit),cS]
    exact Le.of (by exact ⟨O,trivial⟩) (by exact ⟨O,O,O,trivial⟩) (by exact O) (by exact O) (by repeat' (first|refine bR ?_ ?_|rfl|exact bT|exact bS|exact bU O))
  refine chunk_shut (by omega) hO0 G O O fun H' v' cells' hO' G' => ?_
  refine col_shut hO' ⟨G',hI.pk.push h hn h16⟩ (bZ ?_)
  exact ⟨[],⟨[_],⟨rfl,trivial⟩,rfl⟩,(by repeat' (first|exact trivial|refine cM ⟨_,rfl,?_⟩ ?_|refine cM ⟨_,rfl⟩ ?_|rfl|exact bV _ _ _ _|exact bW _ _ _ _|exact bX rfl)),rfl,rfl⟩
end Go.Proofs.YtbpdbclndfmcgaaGreatDoor
end
section
namespace Go.Proofs.YtbpdbclndfmcgaaGreatDoor
open Go Go.Lg Go.Lg.Col
set_option maxRecDepth 100000
abbrev zs0 (z:Nat):List UInt8:=List.replicate (16*z) 0
section
variable {n:Nat} {C:Ctx} {X:Nat→Option Obj} {s:List (Nat×LV)}
theorem new_shut {Mid:St→Prop} {z q:Nat} {L B:List (List UInt8)} {row:List UInt8} {H0:Nat→Option Obj} {cells:List Value} (hO:OwnedM C X H0) (G:Cells H0 5 [] cells (B.map byV)) (pk:Packed z q L B) (hr:row.length=z) (hf:L.length<q) (hn:L.length%16=0)
    (h:Leads n C Mid ⟨[(4,Ln .i64 0)],[cB 1000000 z q (L++[row])],X⟩):
    Leads n C Mid ⟨[(4,Ln .i64 0)],oBr z q (L++[row]).length cells.length (cells++[nilSlc]) (splice (zs0 z) (L.length%16*z) row) false,joinM X H0⟩:=by
  have hcl:cells.length=B.length:=by rw [G.len,cT]
  have hb:B.length=L.length/16:=by rw [pk.nb];omega
  have G2:Cells H0 5 [cells.length] (cells++[nilSlc]) ((B++[zs0 z]).map byV):=by
    rw [dD];exact G.snoc nilSlc (byV (zs0 z))
  refine chunk_shut (by rw [cS];exact Nat.lt_succ_self _) hO G2 rfl rfl fun H' v' cells' hO' G' => ?_
  have hw:(B++[zs0 z]).set cells.length (splice (zs0 z) (L.length%16*z) row)=wr (B++[zs0 z]) z L.length row:=by
    unfold wr
    rw [hcl,hb]
    congr 2
    rw [← hb,List.getD_eq_getElem?_getD,List.getElem?_append_right (dJ _),Nat.sub_self];rfl
  rw [hw] at G'
  exact col_shut hO' ⟨G',pk.push_new hr hf hn⟩ h
end
variable (X:Nat→Option Obj)
set_option maxHeartbeats 6400000 in
theorem cAppend_new (size cap:Nat) (L:List (List UInt8)) (row:List UInt8) (h:row.length=size) (hn:L.length<cap) (h16:L.length%16=0):
    MSpec Tryz.prog X 47 [Lp 1000000,Ls row] [cB 1000000 size cap L] (Ln .i64 0) [cB 1000000 size cap (L++[row])]:=by
  refine cD Tryz.func47 rfl (by kernel_rfl) rfl rfl (by exact (by repeat' (first|refine bR ?_ ?_|rfl|exact bT|exact bS|exact bU rfl))) rfl rfl ?_
  intro C
  refine LWP.ends (col_open fun H v cells B hO hI => ?_)
  have hnb:=hI.pk.nb
  have hfit:=place_fit L.length size
  have hsm:=hI.pk.small
  have hcl:=hI.len
  have hne:(((row.length:Nat):Int) != (size:Nat))=false:=by rw [bne_eq_false_iff_eq,h]
  have hmul:IntKind.i64.wrap (((B.length:Nat):Int)*16)=((B.length*16:Nat):Int):=by rw [cE (by omega)];omega
  have heq:(((L.length:Nat):Int)==((B.length*16:Nat):Int))=true:=by rw [beq_iff_eq];omega
  have hadd:IntKind.i64.wrap (((L.length:Nat):Int)+1)=((L.length+1:Nat):Int):=by rw [cE (by omega)];omega
  have hsub:IntKind.i64.wrap (((L.length+1:Nat):Int)-1)=((L.length:Nat):Int):=by rw [cE (by omega)];omega
  have hmz:IntKind.i64.wrap (((size:Nat):Int)*16)=((16*size:Nat):Int):=by rw [cE (by omega)];omega
  have hmk:slcBuild Tryz.prog 151 (16*size)=some (List.replicate (16*size) (.int .u8 0),1,5):=slcBuild_one (by kernel_rfl) (by kernel_rfl) (by omega)
  have hz0:(List.replicate (16*size) (Value.int .u8 0)).map CV.val=(zs0 size).map bc:=by unfold zs0;rw [List.map_replicate,List.map_replicate];rfl
  have hzl:(zs0 size).length=16*size:=dA
  have hspl:(splice (zs0 size) (L.length%16*size) row).length=16*size:=by rw [splice_len (by rw [hzl,h];exact hfit),hzl]
  have hcp:L.length%16*size+row.length≤((zs0 size).map bc).length:=by rw [cT,h,hzl];exact hfit
  obtain ⟨ad,ccap,hv⟩:=hI.slice
  rw [hv]
  (refine aA<|rgN<|kas O<|aB<|aA<|aF<|aA<|rgN<|kmv O<|K.ptrNil O (by kernel_rfl) (.inl ⟨O,O⟩) dN<|kas O<|aB<|aE O ?_;refine aA<|rgN<|kmv O<|kln O<|kmv O<|bH O dN<|kfa O O ?_;refine kl1 O O O<|kne O O hne<|kas O<|aB<|aE O ?_;refine aA<|rgD mixed<|kmv O<|bH O dN<|kfa O O ?_;refine kl1 O O O<|kmv O<|bH O dN<|kfa O O ?_;refine kl1 O O O<|K.geq O O (cK (by omega)) dN<|kas O<|aB<|rgA ?_;refine aE O ?_;refine aG ?_;refine aA<|aA<|rgD mixed<|kmv O<|bH O dN<|kfa O O ?_;refine kl1 O O O<|kmv O<|bH O dN<|kfa O O ?_;refine kl1 O O O<|aP O bY O dN ?_;refine bK O O hmul dN<|keq O O heq<|aB<|rgA ?_;refine aD O ?_)
  refine LWP.le (σ':=⟨[(0,Lp 1000000),(1,Ls row)],[sB 1000000 size cap L.length (.val (.slice ad B.length ccap))],joinM X H⟩) (Le.of (by exact ⟨O,O,trivial⟩) (by exact ⟨O,trivial⟩) (by exact O) (by exact O) (by repeat' (first|refine bR ?_ ?_|rfl|exact bT|exact bS|exact bU O))) ?_
  rw [← hv]
  rcases hI.grid with ⟨db,hd,G⟩|⟨rfl,rfl,hB0⟩
  · have hat:=at_B (joinM X (cutM H db)) size cap (L.length+1) (zs0 size) L.length (cells.length+1) (16*size) cells [] true false hsm.1 (by omega) (by omega) (by omega) hfit
    have hcl1:(cells.map CV.val).length=cells.length*1:=by rw [cT,Nat.mul_one]
    refine LWP.openCell (A:=[.val (.int .i64 (size:Nat)),.val (.int .i64 (cap:Nat)),.val (.int .i64 (L.length:Nat))]) (B:=[]) (k:=900001) (sz:=1) (len:=cells.length) hO hd (by omega) (by omega) O O O O O ?_
    (refine rgD mixed<|kmv O<|kmv O<|bH O dN<|kfa O O ?_;refine kl1 O O O<|kmv O<|bH O dN<|kfa O O ?_;refine kl1 O O O<|bK O O hmz dN<|K.makeSlc (m:=16*size) (bytes:=1) O O hmk (by kernel_rfl) (by omega) hz0 O dN<|aY (zs:=[.slice none 0 0]) (sz:=1) (e:=151) (cs':=[.slc 47 0 (16*size)]) (by kernel_rfl) O O O O O O dN<|bO (by_:=24) (e2:=151) (l2:=[.slc 47 0 (16*size)]) (nl:=cells.length+1) (nc:=cells.map .val++[.slc 47 0 (16*size)]) O O hcl1 O O (dJ _) O O (by kernel_rfl) (by kernel_rfl) (by omega) (by omega) O O O dN<|bH O dN<|kfa O O ?_;refine bF O O O O O (nl4 O O O O O) dN<|aB<|rgA ?_;refine aA<|rgN<|kmv O<|bH O dN<|kfa O O ?_;refine kl1 O O O<|kad O O hadd<|bH O dN<|kfa O O ?_;refine bF O O O O O (nl4 O O O O O) dN<|aB<|aA<|rgN<|kmv O<|kmv O<|bH O dN<|kfa O O ?_;refine kl1 O O O<|aZ O O hsub dN<|bD [(1000000,1000000),(1000001,49),(1000002,47)] (.sv (.one (.slc 47 (L.length%16*size) size))) [sB 1000000 size cap (L.length+1) (.slc 49 0 (cells.length+1)),(49,some ⟨151,cells.map .val++[.slc 47 0 (16*size)],true⟩),(47,some ⟨5,(zs0 size).map bc,false⟩)] (hat) O O (by exact (cM ⟨_,O,O⟩ (cM ⟨_,O,(bX O)⟩ (cM ⟨_,O,(bV _ _ _ _)⟩ trivial)))) (by exact (bR (bR O (bR O (bR O (bR O O)))) (bR (bU O) (bR bT O)))) O O O O (by exact (.box O O (.box O (bX O) (.box O (bV _ _ _ _) .nil)))) dN<|kmv O<|K.copyStr (e:=5) O O O (by kernel_rfl) (by kernel_rfl) (by omega) hcp O (splice_bc _ _ _) dN ?_;refine aB<|aA<|rgN<|kas O<|aB<|aH ?_)
    refine cA (σ':=⟨[(4,Ln .i64 0)],oBr size cap (L++[row]).length cells.length (cells++[nilSlc]) (splice (zs0 size) (L.length%16*size) row) false,joinM X (cutM H db)⟩) ?_ ?_
    · unfold oBr
      rw [hspl,cS,cS,List.take_left,List.drop_eq_nil_of_le (by rw [cS];exact dJ _)]
      exact Le.ofR [(900001,49),(900002,47)] (by exact ⟨rfl,trivial⟩) (by repeat' (first|exact trivial|refine cM ⟨_,rfl,?_⟩ ?_|refine cM ⟨_,rfl⟩ ?_|rfl|exact bV _ _ _ _|exact bW _ _ _ _|exact bX rfl)) (by exact rfl) (by exact rfl) (by repeat' (first|refine bR ?_ ?_|rfl|exact bT|exact bS|exact bU rfl)) (by exact rfl) (by exact rfl)
    refine new_shut (hO.cut db) G hI.pk h hn h16 (bZ ?_)
    exact ⟨[],⟨[_],⟨rfl,trivial⟩,rfl⟩,(by repeat' (first|exact trivial|refine cM ⟨_,rfl,?_⟩ ?_|refine cM ⟨_,rfl⟩ ?_|rfl|exact bV _ _ _ _|exact bW _ _ _ _|exact bX rfl)),rfl,rfl⟩
  · have hB:B=[]:=List.map_eq_nil_iff.1 hB0
    subst hB
    have hat:=at_B (joinM X H) size cap (L.length+1) (zs0 size) L.length 1 (16*size) [] [] true false hsm.1 (by omega) (by rw [dK] at *;omega) (by rw [dK] at *;omega) hfit
    (refine rgD mixed<|kmv O<|kmv O<|bH O dN<|kfa O O ?_;refine kl1 O O O<|kmv O<|bH O dN<|kfa O O ?_;refine kl1 O O O<|bK O O hmz dN<|K.makeSlc (m:=16*size) (bytes:=1) O O hmk (by kernel_rfl) (by omega) hz0 O dN<|aY (zs:=[.slice none 0 0]) (sz:=1) (e:=151) (cs':=[.slc 47 0 (16*size)]) (by kernel_rfl) O O O O O O dN<|K.appendNil (by_:=24) (e:=151) (e2:=151) (l2:=[.slc 47 0 (16*size)]) O O O (dJ _) O O (by decide) (by kernel_rfl) (by kernel_rfl) (by omega) (by omega) O dN ?_;refine bH O dN<|kfa O O ?_;refine bF O O O O O (nl4 O O O O O) dN<|aB<|rgA ?_;refine aA<|rgN<|kmv O<|bH O dN<|kfa O O ?_;refine kl1 O O O<|kad O O hadd<|bH O dN<|kfa O O ?_;refine bF O O O O O (nl4 O O O O O) dN<|aB<|aA<|rgN<|kmv O<|kmv O<|bH O dN<|kfa O O ?_;refine kl1 O O O<|aZ O O hsub dN<|bD [(1000000,1000000),(1000001,49),(1000002,47)] (.sv (.one (.slc 47 (L.length%16*size) size))) [sB 1000000 size cap (L.length+1) (.slc 49 0 1),(49,some ⟨151,[.slc 47 0 (16*size)],true⟩),(47,some ⟨5,(zs0 size).map bc,false⟩)] (hat) O O (by exact (cM ⟨_,O,O⟩ (cM ⟨_,O,O⟩ (cM ⟨_,O,(bV _ _ _ _)⟩ trivial)))) (by exact (bR (bR O (bR O (bR O (bR O O)))) (bR (bR O O) (bR bT O)))) O O O O (by exact (.box O O (.box O O (.box O (bV _ _ _ _) .nil)))) dN<|kmv O<|K.copyStr (e:=5) O O O (by kernel_rfl) (by kernel_rfl) (by omega) hcp O (splice_bc _ _ _) dN ?_;refine aB<|aA<|rgN<|kas O<|aB<|aH ?_)
    refine cA (σ':=⟨[(4,Ln .i64 0)],oBr size cap (L++[row]).length ([]:List Value).length ([]++[nilSlc]) (splice (zs0 size) (L.length%16*size) row) false,joinM X H⟩) ?_ ?_
    · unfold oBr
      rw [hspl,cS]
      exact Le.ofR [(900001,49),(900002,47)] (by exact ⟨rfl,trivial⟩) (by repeat' (first|exact trivial|refine cM ⟨_,rfl,?_⟩ ?_|refine cM ⟨_,rfl⟩ ?_|rfl|exact bV _ _ _ _|exact bW _ _ _ _|exact bX rfl)) (by exact rfl) (by exact rfl) (by repeat' (first|refine bR ?_ ?_|rfl|exact bT|exact bS|exact bU rfl)) (by exact rfl) (by exact rfl)
    refine new_shut (B:=[]) hO (Cells.nil H 5 []) hI.pk h hn h16 (bZ ?_)
    exact ⟨[],⟨[_],⟨rfl,trivial⟩,rfl⟩,(by repeat' (first|exact trivial|refine cM ⟨_,rfl,?_⟩ ?_|refine cM ⟨_,rfl⟩ ?_|rfl|exact bV _ _ _ _|exact bW _ _ _ _|exact bX rfl)),rfl,rfl⟩
theorem cAppend_ok (size cap:Nat) (L:List (List UInt8)) (row:List UInt8) (h:appE size cap L.length row=0):
    MSpec Tryz.prog X 47 [Lp 1000000,Ls row] [cB 1000000 size cap L] (Ln .i64 0) [cB 1000000 size cap (L++[row])]:=by
  obtain ⟨h1,h2⟩:=appE_ok h
  by_cases h16:L.length%16=0
  · exact cAppend_new X size cap L row h1 h2 h16
  · exact cAppend_in X size cap L row h1 h2 h16
end Go.Proofs.YtbpdbclndfmcgaaGreatDoor
end
section
namespace Go.Proofs.YtbpdbclndfmcgaaGreatDoor
open Go Go.Lg Go.Lg.Col
set_option maxRecDepth 100000
theorem mid_other {α β:Type} {f:α→β} {cells:List α} {p j:Nat} {x:β} {c:α} (hp:p<cells.length) (hj:p≠j) (hc:cells[j]? = some c):((cells.take p).map f++x::(cells.drop (p+1)).map f)[j]? = some (f c):=by
  have e:(cells.take p).map f++x::(cells.drop (p+1)).map f=(cells.map f).set p x:=by
    rw [List.set_eq_take_append_cons_drop,if_pos (by rw [cT];exact hp),List.map_take,List.map_drop]
  rw [e,List.getElem?_set_ne hj,dH,hc];rfl
variable (X:Nat→Option Obj)
theorem drop_spec (z q m:Nat) (A:List Value) (w:Value) (hA:A.length<65536):
    MSpec Tryz.prog X 87 [Lp 1000000] [sB 1000000 z q m (.slc 1000001 0 (A.length+1)),(1000001,some ⟨151,A.map .val ++ .val w::([]:List Value).map .val,true⟩)] (.tup [])
      [sB 1000000 z q m (.slc 1000001 0 A.length),(1000001,some ⟨151,A.map .val ++ .val nilSlc::([]:List Value).map .val,true⟩)]:=by
  refine cD Tryz.func87 rfl (by kernel_rfl) rfl rfl (by exact (by repeat' (first|refine bR ?_ ?_|rfl|exact bT|exact bS|exact bU rfl))) rfl rfl ?_
  intro C
  have hsub:IntKind.i64.wrap (((A.length+1:Nat):Int)-1)=((A.length:Nat):Int):=by rw [cE (by omega)];omega
  have hix:0+Int.toNat ((A.length:Nat):Int)*1=A.length:=by rw [dC];omega
  have hblt:Nat.blt A.length (A.map CV.val ++ .val w::([]:List Value).map CV.val).length=true:=by rw [Nat.blt_eq,cS,cT];simp
  have hput:(A.map CV.val ++ .val w::([]:List Value).map CV.val).set A.length (.val nilSlc)=A.map CV.val ++ .val nilSlc::([]:List Value).map CV.val:=by
    rw [List.set_append_right _ _ (by rw [cT];exact dJ _),cT,Nat.sub_self];rfl
  (refine aA<|rgN<|kmv O<|bH O dN<|kfa O O ?_;refine kl1 O O O<|K.lenSlc O bY O dN ?_;refine aZ O O hsub dN<|kas O<|aB<|aA<|rgN<|kmv O<|bH O dN<|kfa O O ?_;refine kl1 O O O<|kmv O<|K.indexSlc O O (by omega) hix dN ?_;refine bF O O O O hblt hput dN<|aB<|rgN<|kmv O<|kmv O<|bH O dN<|kfa O O ?_;refine kl1 O O O<|kmv O<|K.cutSlc O O bY (by omega) dN<|bH O dN<|kfa O O ?_;refine bF O O O O O (nl4 O O O O O) dN<|aB ?_)
  exact ⟨[],⟨[],trivial,rfl⟩,(by repeat' (first|exact trivial|refine cM ⟨_,rfl,?_⟩ ?_|refine cM ⟨_,rfl⟩ ?_|rfl|exact bV _ _ _ _|exact bW _ _ _ _|exact bX rfl)),rfl,rfl⟩
set_option maxHeartbeats 6400000 in
theorem cSwap_ok (size cap:Nat) (L:List (List UInt8)) (i:Nat) {M:List (List UInt8)} (h:i<L.length) (hM:swapL L i=M):
    MSpec Tryz.prog X 49 [Lp 1000000,Ln .i64 (i:Nat)] [cB 1000000 size cap L] (.tup [Sn .i64 (L.length-1:Nat),Sn .i64 0]) [cB 1000000 size cap M]:=by
  subst hM
  refine cD Tryz.func49 rfl (by kernel_rfl) rfl rfl (by exact (by repeat' (first|refine bR ?_ ?_|rfl|exact bT|exact bS|exact bU rfl))) rfl rfl ?_
  intro C
  refine LWP.ends (col_open fun H v cells B hO hI => ?_)
  obtain ⟨l,hl⟩:∃ l,L[L.length-1]? = some l:=⟨_,cU (by omega)⟩
  have hlen:=hI.pk.rows l (cZ hl)
  have hs:=seek_ok (joinM X H) size cap L.length v i h
  have hnb:=hI.pk.nb
  have hp:i/16<B.length:=by omega
  have hp1:(L.length-1)/16<B.length:=by omega
  have hfit:=place_fit i size
  have hfit1:=place_fit (L.length-1) size
  have hsm:=hI.pk.small
  have hq:=hI.pk.fit
  have hcl:=hI.len
  have hbl:=hI.pk.len_at hp
  have hbl1:=hI.pk.len_at hp1
  have hrow:=hI.pk.row _ l hl
  unfold rowOf at hrow
  have hsw:=hI.pk.swap h hl
  have hswl:=swapL_len (L:=L) (i:=i) (by omega)
  have hsub:IntKind.i64.wrap (((L.length:Nat):Int)-1)=((L.length-1:Nat):Int):=by rw [cE (by omega)];omega
  have hone:(byV l).all Value.oneCell'=true:=by unfold byV;rw [List.all_map];exact List.all_eq_true.2 fun _ _=>rfl
  (refine aA<|rgN<|kas O<|kas O<|aB<|aA<|aA<|rgN<|kmv O<|kmv O<|K.callR [(1000000,1000000)] (hs) O O (by exact (cM ⟨_,O,O⟩ trivial)) (by exact (bR (bR O (bR O (bR O (bR O O)))) O)) O O O O dN<|kas O<|aB<|aA ?_;refine rgN<|kmv O<|kne O O ((cO (by omega)))<|aB<|aE O ?_;refine aG ?_;refine aA<|rgN<|kmv O<|bH O dN<|kfa O O ?_;refine kl1 O O O<|aZ O O hsub dN<|kas O<|aB<|aA ?_)
  generalize hn1:L.length-1=n1 at *
  refine LWP.meetL (fun σ=>∃ (H':Nat→Option Obj) (v':Value) (cells':List Value),OwnedM C X H'∧Grid H' 151 5 v' cells' ((wr B size i l).map byV)∧σ=⟨[(0,Lp 1000000),(7,Ln .i64 (n1:Nat))],[sB 1000000 size cap L.length (.val v')],joinM X H'⟩) ?_ ?_
  · refine chunk_open hO hI hp (fun _=>rfl) (fun _ _=>rfl) fun H0 hO0 G hoth => ?_
    have hat:=at_B (joinM X H0) size cap L.length (B.getD (i/16) []) i cells.length (B.getD (i/16) []).length (cells.take (i/16)) (cells.drop (i/16+1)) true true hsm.1 (by omega) (by rw [cW];omega) (by omega) (by omega)
    have hcp:i%16*size+size≤((B.getD (i/16) []).map bc).length:=by rw [cT,hbl];exact hfit
    have hspl:splice ((B.getD (i/16) []).map bc) (i%16*size) ((byV l).map CV.val)=(splice (B.getD (i/16) []) (i%16*size) l).map bc:=by rw [byV_bc];exact splice_bc _ _ _
    have hend:(splice (B.getD (i/16) []) (i%16*size) l).length=(B.getD (i/16) []).length:=splice_len (by rw [hlen,hbl];exact hfit)
    by_cases hsame:i/16=n1/16
    · have hat2:=at_B (joinM X H0) size cap L.length (B.getD (i/16) []) n1 cells.length (B.getD (i/16) []).length (cells.take (i/16)) (cells.drop (i/16+1)) true true hsm.1 (by omega) (by rw [cW];omega) (by omega) (by omega)
      have hsrc:(((B.getD (i/16) []).map bc).drop (n1%16*size)).take size=(byV l).map CV.val:=by rw [← List.map_drop,← List.map_take,hsame,hrow,byV_bc]
      have hcp2:n1%16*size+size≤((B.getD (i/16) []).map bc).length:=by rw [cT,hbl];exact hfit1
      (refine rgN<|kmv O<|kmv O<|bD [(1000000,1000000),(1000001,900001),(1000002,900002)] (.sv (.one (.slc 900002 (i%16*size) size))) (oB size cap L.length (i/16) cells (B.getD (i/16) [])) (hat) O O (by exact (cM ⟨_,O,O⟩ (cM ⟨_,O,(bX O)⟩ (cM ⟨_,O,(bV _ _ _ _)⟩ trivial)))) (by exact (bR (bR O (bR O (bR O (bR O O)))) (bR (bU O) (bR bT O)))) O O O O (by exact (.box O O (.box O (bX O) (.box O (bV _ _ _ _) .nil)))) dN<|kmv O<|kmv O<|bD [(1000000,1000000),(1000001,900001),(1000002,900002)] (.sv (.one (.slc 900002 (n1%16*size) size))) (oB size cap L.length (i/16) cells (B.getD (i/16) [])) (hat2) O O (by exact (cM ⟨_,O,O⟩ (cM ⟨_,O,(bX O)⟩ (cM ⟨_,O,(bV _ _ _ _)⟩ trivial)))) (by exact (bR (bR O (bR O (bR O (bR O O)))) (bR (bU O) (bR bT O)))) O O O O (by exact (.box O O (.box O (bX O) (.box O (bV _ _ _ _) .nil)))) dN<|K.copySlc (e:=5) (m:=size) (byV l) O O O O (by kernel_rfl) (by kernel_rfl) (Nat.min_self _) hcp hcp2 hsrc hone hspl dN ?_;refine aB ?_)
      refine cA (σ':=⟨[(0,Lp 1000000),(7,Ln .i64 (n1:Nat))],oB size cap L.length (i/16) cells (splice (B.getD (i/16) []) (i%16*size) l),joinM X H0⟩) ?_ ?_
      · unfold oB oBr
        rw [hend]
        exact Le.of (by exact ⟨O,O,trivial⟩) (by exact ⟨O,O,O,trivial⟩) (by exact O) (by exact O) (by repeat' (first|refine bR ?_ ?_|rfl|exact bT|exact bS|exact bU O))
      exact chunk_shut (by omega) hO0 G O O fun H' v' cells' hO' G'=>bZ ⟨H',v',cells',hO',G',O⟩
    · obtain ⟨c,hc⟩:∃ c,cells[n1/16]? = some c:=⟨_,cU (by omega)⟩
      obtain ⟨b,ccap,arr,fr,sp,rfl,g1,g2,g3⟩:=hoth (n1/16) c (fun e=>hsame e.symm) hc
      have hcell:((cells.take (i/16)).map CV.val ++ .slc 1000002 0 (B.getD (i/16) []).length::(cells.drop (i/16+1)).map CV.val)[n1/16]? = some (.val (.slice (some ⟨b,0,none⟩) (16*size) ccap)):=mid_other (by omega) hsame hc
      have hat2:=at_V (joinM X H0) size cap L.length (B.getD (i/16) []) n1 cells.length (16*size) (B.getD (i/16) []).length b ccap (cells.take (i/16)) (cells.drop (i/16+1)) true true hsm.1 (by omega) (by omega) hfit1 g1 hcell
      obtain ⟨r1,r2⟩:=chunk_read (p:=n1%16*size) (z:=size) g3 (by rw [hbl1];exact hfit1)
      rw [hrow] at r2
      have hX2:=joinM_in (X:=X) g2
      (refine rgN<|kmv O<|kmv O<|bD [(1000000,1000000),(1000001,900001),(1000002,900002)] (.sv (.one (.slc 900002 (i%16*size) size))) (oB size cap L.length (i/16) cells (B.getD (i/16) [])) (hat) O O (by exact (cM ⟨_,O,O⟩ (cM ⟨_,O,(bX O)⟩ (cM ⟨_,O,(bV _ _ _ _)⟩ trivial)))) (by exact (bR (bR O (bR O (bR O (bR O O)))) (bR (bU O) (bR bT O)))) O O O O (by exact (.box O O (.box O (bX O) (.box O (bV _ _ _ _) .nil)))) dN<|kmv O<|kmv O<|K.callR [(1000000,1000000),(1000001,900001),(1000002,900002)] (hat2) O O (by exact (cM ⟨_,O,O⟩ (cM ⟨_,O,(bX O)⟩ (cM ⟨_,O,(bV _ _ _ _)⟩ trivial)))) (by exact (bR (bR O (bR O (bR O (bR O O)))) (bR (bU O) (bR bT O)))) O O O O dN<|K.copyX (e:=5) (m:=size) (byV l) O O O hX2 (by kernel_rfl) (by kernel_rfl) (Nat.min_self _) hcp r1 r2 hone hspl dN ?_;refine aB ?_)
      refine cA (σ':=⟨[(0,Lp 1000000),(7,Ln .i64 (n1:Nat))],oB size cap L.length (i/16) cells (splice (B.getD (i/16) []) (i%16*size) l),joinM X H0⟩) ?_ ?_
      · unfold oB oBr
        rw [hend]
        exact Le.of (by exact ⟨O,O,trivial⟩) (by exact ⟨O,O,O,trivial⟩) (by exact O) (by exact O) (by repeat' (first|refine bR ?_ ?_|rfl|exact bT|exact bS|exact bU O))
      exact chunk_shut (by omega) hO0 G O O fun H' v' cells' hO' G'=>bZ ⟨H',v',cells',hO',G',O⟩
  · rintro σ ⟨H',v',cells',hO',G',rfl⟩
    have hrem:((n1:Nat):Int).tmod 16=((n1%16:Nat):Int):=by rw [Int.tmod_eq_emod_of_nonneg (by omega)];omega
    have hcl':cells'.length=B.length:=by rw [G'.len,cT,wr_len]
    by_cases hd:n1%16=0
    · have hz:(((n1%16:Nat):Int)==0)=true:=by rw [beq_iff_eq];omega
      (refine aA<|rgN<|kmv O<|kmv O<|bH O dN<|kfa O O ?_;refine bF O O O O O (nl4 O O O O O) dN<|aB<|aA<|aA<|rgN<|kmv O<|K.rem O O (by decide) hrem dN<|keq O O hz<|aB<|aD O ?_)
      refine LWP.le (σ':=⟨[(0,Lp 1000000),(7,Ln .i64 (n1:Nat))],[sB 1000000 size cap n1 (.val v')],joinM X H'⟩) (Le.of (by exact ⟨O,O,trivial⟩) (by exact ⟨O,trivial⟩) (by exact O) (by exact O) (by repeat' (first|refine bR ?_ ?_|rfl|exact bT|exact bS|exact bU O))) ?_
      obtain ⟨db,hdb,Gc⟩:=G'.real (fun e=>by
        have:((wr B size i l).map byV).length=0:=by rw [e];rfl
        rw [cT,wr_len] at this;omega)
      refine LWP.openCell (A:=[.val (.int .i64 (size:Nat)),.val (.int .i64 (cap:Nat)),.val (.int .i64 (n1:Nat))]) (B:=[]) (k:=900001) (sz:=1) (len:=cells'.length) hO' hdb (by omega) (by omega) O O O O O ?_
      obtain ⟨w,hw⟩:∃ w,cells'[n1/16]? = some w:=⟨_,cU (by omega)⟩
      have hAl:(cells'.take (n1/16)).length=n1/16:=by rw [cW];omega
      have hdr:cells'.drop (n1/16+1)=[]:=List.drop_eq_nil_of_le (by omega)
      have hmid:cells'.map CV.val=(cells'.take (n1/16)).map .val ++ .val w::([]:List Value).map .val:=by
        conv=>lhs;rw [mid_of hw,hdr]
        simp
      have htk:=Gc.take (n1/16)
      have hlen1:cells'.length=(cells'.take (n1/16)).length+1:=by rw [hAl];omega
      rw [hmid,hlen1]
      have hdrop:=drop_spec (joinM X (cutM H' db)) size cap n1 (cells'.take (n1/16)) w (by omega)
      generalize cells'.take (n1/16)=A at *
      (refine rgN<|kmv O<|aT [(1000000,1000000),(1000001,900001)] [sB 1000000 size cap n1 (.slc 900001 0 A.length),(900001,some ⟨151,A.map .val ++ .val nilSlc::([]:List Value).map .val,true⟩)] (hdrop) O O (by exact (cM ⟨_,O,O⟩ (cM ⟨_,O,(bX O)⟩ trivial))) (by exact (bR (bR O (bR O (bR O (bR O O)))) (bR (bU O) O))) O O O O (by exact (.box O O (.box O (bX O) .nil))) dN<|aB<|aA<|rgN<|kmv O<|kas O<|kas O<|aB<|aH ?_)
      refine cA (σ':=⟨[(4,Ln .i64 (n1:Nat)),(5,Ln .i64 0)],[(900001,some ⟨151,A.map .val ++ .val nilSlc::([]:List Value).map .val,true⟩),sB 1000000 size cap n1 (.slc 900001 0 A.length)],joinM X (cutM H' db)⟩) (Le.of (by exact ⟨O,O,trivial⟩) (by exact ⟨O,O,trivial⟩) (by exact O) (by exact O) (by repeat' (first|refine bR ?_ ?_|rfl|exact bT|exact bS|exact bU O))) ?_
      refine cA Le.trim ?_
      refine cA (σ':=⟨[(4,Ln .i64 (n1:Nat)),(5,Ln .i64 0)],[(1000000,some ⟨143,[.val (.int .i64 (size:Nat)),.val (.int .i64 (cap:Nat)),.val (.int .i64 (n1:Nat))] ++ .slc 900001 0 A.length::[],false⟩),(900001,some ⟨151,A.map .val,true⟩)],joinM X (cutM H' db)⟩) ?_ ?_
      · exact Le.same ⟨fun _=>rfl,fun j=>look_swap rfl,rfl⟩
      refine Leads.closeCell (hO'.cut db) (by omega) O O O O O O fun d1 o2 v2 h2 _ hO4 hv2 => ?_
      have hgr:=Grid.shut htk h2 hv2
      rw [← List.map_take] at hgr
      rw [← hswl]
      refine col_shut hO4 (cells:=A) (B:=(wr B size i l).take ((n1+15)/16)) ⟨?_,hsw⟩ (bZ ?_)
      · rw [show (n1+15)/16=n1/16 by omega];exact hgr
      · exact ⟨[],⟨[_,_],⟨rfl,rfl,trivial⟩,rfl⟩,(by repeat' (first|exact trivial|refine cM ⟨_,rfl,?_⟩ ?_|refine cM ⟨_,rfl⟩ ?_|rfl|exact bV _ _ _ _|exact bW _ _ _ _|exact bX rfl)),rfl,rfl⟩
    · have hz:(((n1%16:Nat):Int)==0)=false:=by rw [beq_eq_false_iff_ne];omega
      (refine aA<|rgN<|kmv O<|kmv O<|bH O dN<|kfa O O ?_;refine bF O O O O O (nl4 O O O O O) dN<|aB<|aA<|aA<|rgN<|kmv O<|K.rem O O (by decide) hrem dN<|keq O O hz<|aB<|aE O ?_;refine aG ?_;refine aA<|rgN<|kmv O<|kas O<|kas O<|aB<|aH ?_)
      refine cA (σ':=⟨[(4,Ln .i64 (n1:Nat)),(5,Ln .i64 0)],[sB 1000000 size cap (swapL L i).length (.val v')],joinM X H'⟩) (by rw [hswl];exact Le.of (by exact ⟨rfl,rfl,trivial⟩) (by exact ⟨rfl,trivial⟩) (by exact rfl) (by exact rfl) (by repeat' (first|refine bR ?_ ?_|rfl|exact bT|exact bS|exact bU rfl))) ?_
      rw [List.take_of_length_le (by rw [wr_len];omega)] at hsw
      refine col_shut hO' ⟨G',hsw⟩ (bZ ?_)
      exact ⟨[],⟨[_,_],⟨rfl,rfl,trivial⟩,rfl⟩,(by repeat' (first|exact trivial|refine cM ⟨_,rfl,?_⟩ ?_|refine cM ⟨_,rfl⟩ ?_|rfl|exact bV _ _ _ _|exact bW _ _ _ _|exact bX rfl)),rfl,rfl⟩
end Go.Proofs.YtbpdbclndfmcgaaGreatDoor
end
section
namespace Go.Lg.Sg
open Go Go.Lg
def digS (n:Int) (c:UInt8):Option Int:=if c.toNat<48∨57<c.toNat∨n=0∨99<n∨(n<0∧c.toNat=48) then none else some ((if n<0 then 0 else n)*10+((c.toNat:Int)-48))
def sepS (q:List Int×Int):Option (List Int×Int):=if q.2<1∨24<q.2∨(q.1.getLast?.any fun y=>decide (q.2≤y))=true then none else some (q.1++[q.2],-1)
def chS (q:List Int×Int) (c:UInt8):Option (List Int×Int):=if c=43 then sepS q else (digS q.2 c).map fun n=>(q.1,n)
def runS (q:List Int×Int) (s:List UInt8):Option (List Int×Int):=s.foldlM chS q
def parseA (s:List UInt8):Option Nat:=if s=[45] then some 0 else ((runS ([],-1) s).bind sepS).map fun q=>ofN q.1
def rising (l:List Int):Prop:=l.Pairwise (fun x y=>x<y)
theorem idsTo_rising (a n:Nat):rising (idsTo a n):=by
  unfold rising idsTo
  rw [List.pairwise_map]
  refine List.Pairwise.imp (fun {x y} (h:x<y)=>by omega) (List.Pairwise.filter _ List.pairwise_lt_range)
theorem ids_ofN {l:List Int} (h:∀ x∈l,okJ x=true) (hr:rising l):idsL (ofN l)=l:=by
  refine Fld.sorted_eq (fun x:Int=>x) (idsTo_rising _ _) hr fun x => ?_
  unfold idsL
  rw [mem_ids]
  constructor
  · rintro ⟨h1,h2,h3⟩
    rw [ofN_bit,List.any_eq_true] at h3
    obtain ⟨y,hy,e⟩:=h3
    have:=okI_iff.1 (h y hy)
    have:=beq_iff_eq.1 e
    rw [show x=y by omega]
    exact hy
  · intro hx
    have:=okI_iff.1 (h x hx)
    exact ⟨this.1,this.2,by rw [ofN_bit,List.any_eq_true];exact ⟨x,hx,cR rfl⟩⟩
theorem isB_ext {a b:Nat} (ha:isB a=true) (hb:isB b=true) (ha2:a<4294967296) (hb2:b<4294967296) (h:idsL a=idsL b):a=b:=by
  rw [isB_iff] at ha hb
  refine Nat.eq_of_testBit_eq fun i => ?_
  by_cases hi:i<32
  · have key:∀ {p q:Nat},(∀ i,i<32→p.testBit i=true→1≤i∧i≤24)→idsL p=idsL q→p.testBit i=true→q.testBit i=true:=fun {p q} hp e ht=>by
      obtain ⟨h1,h2⟩:=hp i hi ht
      have hm:(i:Int)∈idsL p:=mem_ids.2 ⟨by omega,by omega,ht⟩
      rw [e] at hm
      exact (mem_ids.1 hm).2.2
    cases h1:a.testBit i with
    | true=>exact (key ha h h1).symm
    | false =>
      cases h2:b.testBit i with
      | false=>rfl
      | true=>rw [key hb h.symm h2] at h1;cases h1
  · have big:∀ {p:Nat},p<4294967296→p.testBit i=false:=fun {p} hp=>Nat.testBit_lt_two_pow (Nat.lt_of_lt_of_le hp (show 2^32≤2^i from Nat.pow_le_pow_right (by decide) (by omega)))
    rw [big ha2,big hb2]
theorem idsL_ok {a:Nat}:∀ x∈idsL a,1≤x∧x≤24:=fun x hx=>by
  obtain ⟨h1,h2,_⟩:=mem_ids.1 hx
  exact ⟨h1,by omega⟩
theorem ofN_ids {a:Nat} (h:isB a=true) (h2:a<4294967296):ofN (idsL a)=a:=by
  have hok:∀ x∈idsL a,okJ x=true:=fun x hx=>okI_iff.2 (idsL_ok x hx)
  exact isB_ext (ofN_isB hok) h (by have:=ofN_lt hok;omega) h2 (ids_ofN hok (idsTo_rising a 24))
def preT (ids:List Int):List UInt8:=(txF ids).1++if ids=[] then [] else [43]
def digT (n:Int):List UInt8:=if n<0 then [] else Lib.itoa n
structure Rd (p:List UInt8) (q:List Int×Int):Prop where
  text:p=preT q.1++digT q.2
  ids:∀ y∈q.1,1≤y∧y≤24
  rise:rising q.1
  num:q.2 = -1∨(1≤q.2∧q.2≤999)
end Go.Lg.Sg
end
section
namespace Go.Lg.Sg
open Go Go.Lg
theorem take_cons {α:Type} {l:List α} {i:Nat} {x:α} (h:l[i]? = some x):l=l.take i++x::l.drop (i+1):=by
  obtain ⟨hi,e⟩:=List.getElem?_eq_some_iff.1 h
  rw [← e,← List.drop_eq_getElem_cons hi,List.take_append_drop]
end Go.Lg.Sg
namespace Go.Proofs.YtbpdbclndfmcgaaGreatDoor
open Go Go.Lg Go.Lg.Fld Go.Lg.Sg
set_option maxRecDepth 100000
variable (X:Nat→Option Obj)
end Go.Proofs.YtbpdbclndfmcgaaGreatDoor
end
section
namespace Go.Lg.Sg
open Go Go.Lg Go.Lg.Fld
def withN (a:Nat) (id:Int):Nat:=if okJ id=true then a ||| 2^id.toNat else a
def withinB (a b:Nat):Bool:=(idsL a).all (hasB b)
def twiceTo (l:List Int) (n:Nat):Bool:=(List.range n).any fun k=>match l[k]? with|some x=>(l.take k).any (fun y=>y==x)|none=>false
def ofE (ids:List Int):Int:=if okIds ids=true then 0 else 1
def prE (ids:List Int):Int:=if okIds ids=true then (if twiceTo ids ids.length=true then 7 else 0) else 1
def prN (ids:List Int):Nat:=if prE ids=0 then ofN ids else 0
theorem lt32_of_bits {a:Nat} (h:∀ j,32≤j→a.testBit j=false):a<4294967296:=Nat.lt_pow_two_of_testBit (n:=32) _ h
theorem bits32 {a:Nat} (h:a<4294967296) {j:Nat} (hj:32≤j):a.testBit j=false:=Nat.testBit_lt_two_pow (Nat.lt_of_lt_of_le h (show 2^32≤2^j from Nat.pow_le_pow_right (by decide) hj))
end Go.Lg.Sg
end
section
namespace Go.Lg.Sg
open Go Go.Lg Go.Lg.Fld
def allN:Nat:=33554430
theorem allN_bit (j:Nat):allN.testBit j=(decide (1≤j)&&decide (j≤24)):=by
  by_cases h:j<32
  · have hd:∀ k:Fin 32,allN.testBit k.val=(decide (1≤k.val)&&decide (k.val≤24)):=by decide
    exact hd ⟨j,h⟩
  · rw [Nat.testBit_lt_two_pow (Nat.lt_of_lt_of_le (show allN<2^32 by decide) (Nat.pow_le_pow_right (by decide) (by omega))),cK (show ¬ j≤24 by omega),Bool.and_false]
theorem nz_bit {x:Nat}:x≠0↔∃ j,x.testBit j=true:=by
  constructor
  · intro h
    by_cases he:∃ j,x.testBit j=true
    · exact he
    · refine absurd (Nat.eq_of_testBit_eq fun i => ?_) h
      rw [Nat.zero_testBit]
      cases hb:x.testBit i with
      | false=>rfl
      | true=>exact absurd ⟨i,hb⟩ he
  · rintro ⟨j,hj⟩ rfl
    rw [Nat.zero_testBit] at hj
    cases hj
theorem ne0_is {x:Nat} {b:Bool} (h:b=true↔∃ j,x.testBit j=true):((((x:Nat):Int) != 0))=b:=by
  rw [Bool.eq_iff_iff,bne_iff_ne,h,← nz_bit]
  omega
theorem eq0_is {x:Nat} {b:Bool} (h:b=false↔∃ j,x.testBit j=true):((((x:Nat):Int)==0))=b:=by
  rw [← nz_bit] at h
  by_cases hx:x=0
  · subst hx
    cases b with
    | true=>rfl
    | false=>exact absurd rfl (h.1 rfl)
  · rw [h.2 hx,cN (by omega)]
theorem andN_32 {a b:Nat} (ha:a<4294967296) (hb:b<4294967296):bits .and .u32 ((a:Nat):Int) ((b:Nat):Int)=((a &&& b:Nat):Int):=u32_and_nat _ _ ha hb
theorem orN_32 {a b:Nat} (ha:a<4294967296) (hb:b<4294967296):bits .or .u32 ((a:Nat):Int) ((b:Nat):Int)=((a ||| b:Nat):Int):=u32_or_nat _ _ ha hb
theorem notN_bit (a b i:Nat):(a ^^^ (a &&& b)).testBit i=(a.testBit i && !b.testBit i):=by
  rw [Nat.testBit_xor,Nat.testBit_and]
  cases a.testBit i<;>cases b.testBit i<;>rfl
theorem notN_lt {a b:Nat} (ha:a<4294967296):a ^^^ (a &&& b)<4294967296:=lt32_of_bits fun j hj=>by
  rw [notN_bit,bits32 ha hj,Bool.false_and]
theorem notN_bits {a b:Nat} (ha:a<4294967296):(BitVec.ofNat 32 a &&& ~~~ BitVec.ofNat 32 b).toNat=a ^^^ (a &&& b):=by
  apply Nat.eq_of_testBit_eq
  intro i
  rw [BitVec.testBit_toNat,BitVec.getLsbD_and,BitVec.getLsbD_not,BitVec.getLsbD_ofNat,BitVec.getLsbD_ofNat,notN_bit]
  by_cases hi:i<32
  · simp [hi]
  · have h:=bits32 ha (show 32≤i by omega)
    simp [hi,h]
theorem notN_32 {a b:Nat} (ha:a<4294967296):bits .andNot .u32 ((a:Nat):Int) ((b:Nat):Int)=((a ^^^ (a &&& b):Nat):Int):=by
  have h1:bits .andNot .u32 ((a:Nat):Int) ((b:Nat):Int)=IntKind.u32.wrap (((BitVec.ofNat 32 a &&& ~~~ BitVec.ofNat 32 b).toNat:Nat):Int):=rfl
  rw [h1,notN_bits ha]
  have:=notN_lt (b:=b) ha
  exact wrap_u32 ⟨Int.natCast_nonneg _,by omega⟩
def bitN (id:Int):Nat:=if okJ id=true then 2^id.toNat else 0
theorem bitN_bit (id:Int) (j:Nat):(bitN id).testBit j=(okJ id&&decide (id.toNat=j)):=by
  unfold bitN
  by_cases h:okJ id=true
  · rw [if_pos h,h,Nat.testBit_two_pow,Bool.true_and]
  · rw [if_neg h,show okJ id=false by simpa using h,Nat.zero_testBit,Bool.false_and]
theorem bitN_lt (id:Int):bitN id<4294967296:=lt32_of_bits fun j hj=>by
  rw [bitN_bit]
  by_cases ho:okJ id=true
  · have:=okI_iff.1 ho
    rw [cK (by omega),Bool.and_false]
  · rw [show okJ id=false by simpa using ho,Bool.false_and]
theorem shl_bit {id:Int} (h:okJ id=true):IntKind.u32.wrap (1*2^(min id.toNat IntKind.u32.bits))=((bitN id:Nat):Int):=by
  have hi:=okI_iff.1 h
  have hm:min id.toNat IntKind.u32.bits=id.toNat:=by
    show min id.toNat 32=id.toNat
    omega
  have hb:=bitN_lt id
  have he:bitN id=2^id.toNat:=if_pos h
  rw [he] at hb ⊢
  rw [hm,Int.one_mul,show ((2:Int)^id.toNat)=((2^id.toNat:Nat):Int) by rw [Int.natCast_pow];rfl]
  exact wrap_u32 ⟨Int.natCast_nonneg _,by omega⟩
theorem is_bits {a:Nat} (ha:a<4294967296):((((a ^^^ (a &&& allN):Nat):Int))==0)=isB a:=by
  refine eq0_is ?_
  constructor
  · intro h
    have hn:¬ isB a=true:=by rw [h];decide
    rw [isB_iff] at hn
    simp only [Classical.not_forall] at hn
    obtain ⟨i,hi,hb,hno⟩:=hn
    refine ⟨i,?_⟩
    rw [notN_bit,hb,allN_bit]
    by_cases h1:1≤i
    · rw [cK (show ¬ i≤24 by omega),Bool.and_false];rfl
    · rw [cK h1];rfl
  · rintro ⟨j,hj⟩
    rw [notN_bit,allN_bit,Bool.and_eq_true] at hj
    cases hb:isB a with
    | false=>rfl
    | true =>
      rw [isB_iff] at hb
      have hj32:j<32:=by
        by_cases h:j<32
        · exact h
        · rw [bits32 ha (by omega)] at hj;cases hj.1
      obtain ⟨h1,h2⟩:=hb j hj32 hj.1
      rw [cL h1,cL h2] at hj
      cases hj.2
theorem has_bits (a:Nat) (id:Int):((((a &&& bitN id:Nat):Int)) != 0)=hasB a id:=by
  refine ne0_is ?_
  unfold hasB
  constructor
  · intro h
    rw [Bool.and_eq_true] at h
    exact ⟨id.toNat,by rw [Nat.testBit_and,bitN_bit,h.1,h.2,cL rfl];rfl⟩
  · rintro ⟨j,hj⟩
    rw [Nat.testBit_and,bitN_bit,Bool.and_eq_true,Bool.and_eq_true] at hj
    obtain ⟨h1,h2,h3⟩:=hj
    rw [h2,of_decide_eq_true h3,h1];rfl
theorem with_bits (a:Nat) (id:Int):a ||| bitN id=withN a id:=by
  unfold bitN withN
  by_cases h:okJ id=true
  · rw [if_pos h,if_pos h]
  · rw [if_neg h,if_neg h,Nat.or_zero]
theorem within_bits (a b:Nat):(((((a &&& allN) ^^^ ((a &&& allN) &&& b):Nat):Int))==0)=withinB a b:=by
  refine eq0_is ?_
  unfold withinB
  rw [List.all_eq_false]
  constructor
  · rintro ⟨x,hx,hn⟩
    obtain ⟨h1,h2,h3⟩:=mem_ids.1 hx
    refine ⟨x.toNat,?_⟩
    have ho:okJ x=true:=okI_iff.2 ⟨h1,by omega⟩
    unfold hasB at hn
    rw [ho,Bool.true_and] at hn
    rw [notN_bit,Nat.testBit_and,allN_bit,h3,cL (show 1≤x.toNat by omega),cL (show x.toNat≤24 by omega),show b.testBit x.toNat=false by simpa using hn]
    rfl
  · rintro ⟨j,hj⟩
    rw [notN_bit,Nat.testBit_and,allN_bit,Bool.and_eq_true,Bool.and_eq_true,Bool.and_eq_true] at hj
    obtain ⟨⟨h1,h2,h3⟩,h4⟩:=hj
    have h2:=of_decide_eq_true h2
    have h3:=of_decide_eq_true h3
    refine ⟨(j:Int),mem_ids.2 ⟨by omega,by omega,h1⟩,?_⟩
    unfold hasB
    rw [show ((j:Int)).toNat=j from rfl]
    cases hb:b.testBit j with
    | false=>rw [Bool.and_false];decide
    | true=>rw [hb] at h4;cases h4
def cntB (x:Nat):Nat:=(List.range 32).countP x.testBit
def pc8 (x:Nat):Nat:=(List.range 8).countP x.testBit
theorem pc8_le (x:Nat):pc8 x≤8:=Nat.le_trans List.countP_le_length (by rw [List.length_range];exact dJ _)
theorem countP_range_add (p:Nat→Bool) (a b:Nat):(List.range (a+b)).countP p=(List.range a).countP p+(List.range b).countP (fun j=>p (a+j)):=by
  rw [List.range_add,List.countP_append,List.countP_map]
  rfl
theorem countP_range_congr {p q:Nat→Bool} {n:Nat} (h:∀ j,j<n→p j=q j):(List.range n).countP p=(List.range n).countP q:=
  List.countP_congr fun x hx=>by rw [h x (List.mem_range.1 hx)]
theorem pc8_part (x k:Nat):pc8 (x/2^k%256)=(List.range 8).countP (fun j=>x.testBit (k+j)):=by
  refine countP_range_congr fun j hj => ?_
  rw [show (256:Nat)=2^8 from rfl,Nat.testBit_mod_two_pow,cL hj,Bool.true_and,Nat.testBit_div_two_pow,Nat.add_comm]
theorem cntB_parts {x:Nat} (hx:x<4294967296):pc8 (x/16777216)+pc8 (x/65536%256)+pc8 (x/256%256)+pc8 (x%256)=cntB x:=by
  have h3:=pc8_part x 24
  have h2:=pc8_part x 16
  have h1:=pc8_part x 8
  have h0:=pc8_part x 0
  rw [show x/2^24%256=x/16777216 from Nat.mod_eq_of_lt (by omega)] at h3
  rw [show x/2^0%256=x%256 by rw [Nat.pow_zero,Nat.div_one]] at h0
  rw [h3,show x/65536%256=x/2^16%256 from rfl,h2,show x/256%256=x/2^8%256 from rfl,h1,h0]
  unfold cntB
  rw [show 32=8+(8+(8+8)) from rfl,countP_range_add,countP_range_add,countP_range_add]
  have e0:(List.range 8).countP (fun j=>x.testBit (0+j))=(List.range 8).countP x.testBit:=countP_range_congr fun j _=>by rw [Nat.zero_add]
  have e2:(List.range 8).countP (fun j=>x.testBit (16+j))=(List.range 8).countP (fun j=>x.testBit (8+(8+j))):=countP_range_congr fun j _=>by rw [show 16+j=8+(8+j) by omega]
  have e3:(List.range 8).countP (fun j=>x.testBit (24+j))=(List.range 8).countP (fun j=>x.testBit (8+(8+(8+j)))):=countP_range_congr fun j _=>by rw [show 24+j=8+(8+(8+j)) by omega]
  rw [e0,e2,e3]
  omega
theorem cnt_ids (a:Nat):cntB (a &&& allN)=(idsL a).length:=by
  unfold cntB idsL idsTo
  rw [cT,← List.countP_eq_length_filter,show 32=1+(24+7) from rfl,countP_range_add,countP_range_add]
  have e0:(List.range 1).countP (a &&& allN).testBit=0:=by
    rw [List.countP_eq_zero]
    intro j hj
    have:=List.mem_range.1 hj
    rw [Nat.testBit_and,allN_bit,cK (show ¬ 1≤j by omega)]
    simp
  have e2:(List.range 7).countP (fun j=>(a &&& allN).testBit (1+(24+j)))=0:=by
    rw [List.countP_eq_zero]
    intro j _
    rw [Nat.testBit_and,allN_bit,cK (show ¬ 1+(24+j)≤24 by omega)]
    simp
  have e1:(List.range 24).countP (fun j=>(a &&& allN).testBit (1+j))=(List.range 24).countP (fun j=>a.testBit (j+1)):=countP_range_congr fun j hj=>by
    rw [Nat.testBit_and,allN_bit,cL (show 1≤1+j by omega),cL (show 1+j≤24 by omega),Bool.and_self,Bool.and_true,Nat.add_comm]
  rw [e0,e1,e2]
  omega
theorem ofN_snoc (l:List Int) (x:Int):ofN (l++[x])=ofN l ||| 2^x.toNat:=by
  unfold ofN
  rw [List.foldl_append]
  rfl
theorem with_snoc {l:List Int} {x:Int} (h:okJ x=true):withN (ofN l) x=ofN (l++[x]):=by
  rw [ofN_snoc]
  exact if_pos h
theorem okIds_no {l:List Int} {i:Nat} {x:Int} (hx:l[i]? = some x) (h:okJ x=false):okIds l=false:=by
  unfold okIds
  rw [List.all_eq_false]
  exact ⟨x,cZ hx,by rw [h];decide⟩
theorem sub_len:∀ {l1 l2:List Int},l1.Nodup→(∀ x∈l1,x∈l2)→l1.length≤l2.length
  | [],_,_,_=>Nat.zero_le _
  | x::t,l2,hn,hs=>by
    rw [List.nodup_cons] at hn
    have hx:=hs x (List.mem_cons_self ..)
    have h1:t.length≤(l2.erase x).length:=sub_len hn.2 fun y hy=>by
      have hne:y≠x:=fun e=>hn.1 (e▸hy)
      exact (List.mem_erase_of_ne hne).2 (hs y (List.mem_cons_of_mem _ hy))
    have h2:=List.length_erase_of_mem hx
    have h3:=List.length_pos_of_mem hx
    rw [dE]
    omega
theorem idsTo_nodup (a n:Nat):(idsTo a n).Nodup:=(idsTo_rising a n).imp fun {x y} (h:x<y)=>by omega
theorem mem_ofN {l:List Int} (h:okIds l=true) (x:Int):x∈idsL (ofN l)↔x∈l:=by
  have hok:∀ y∈l,okJ y=true:=List.all_eq_true.1 h
  unfold idsL
  rw [mem_ids]
  constructor
  · rintro ⟨h1,h2,h3⟩
    rw [ofN_bit,List.any_eq_true] at h3
    obtain ⟨y,hy,e⟩:=h3
    have:=okI_iff.1 (hok y hy)
    have:=beq_iff_eq.1 e
    rw [show x=y by omega]
    exact hy
  · intro hx
    have:=okI_iff.1 (hok x hx)
    exact ⟨this.1,this.2,by rw [ofN_bit,List.any_eq_true];exact ⟨x,hx,cR rfl⟩⟩
theorem twice_len {l:List Int} (h:okIds l=true):((((idsL (ofN l)).length:Nat):Int) != ((l.length:Nat):Int))=twiceTo l l.length:=by
  have hm:=mem_ofN h
  have h1:(idsL (ofN l)).length≤l.length:=sub_len (idsTo_nodup _ _) fun x hx=>(hm x).1 hx
  cases ht:twiceTo l l.length with
  | true =>
    unfold twiceTo at ht
    rw [List.any_eq_true] at ht
    obtain ⟨k,hk,hc⟩:=ht
    have hk:=List.mem_range.1 hk
    obtain ⟨x,hx⟩:∃ x,l[k]? = some x:=⟨_,cU hk⟩
    rw [hx] at hc
    have hc:((l.take k).any fun y=>y==x)=true:=hc
    rw [List.any_eq_true] at hc
    obtain ⟨y,hy,e⟩:=hc
    have e:=beq_iff_eq.1 e
    subst e
    have hl:l=l.take k++y::l.drop (k+1):=take_cons hx
    have h2:(idsL (ofN l)).length≤(l.take k++l.drop (k+1)).length:=sub_len (idsTo_nodup _ _) fun z hz=>by
      have hz:=(hm z).1 hz
      rw [hl] at hz
      rcases List.mem_append.1 hz with hz|hz
      · exact List.mem_append_left _ hz
      · rcases List.mem_cons.1 hz with rfl|hz
        · exact List.mem_append_left _ hy
        · exact List.mem_append_right _ hz
    rw [cS,cW,cX] at h2
    rw [bne_iff_ne]
    omega
  | false =>
    have hn:l.Nodup:=by
      unfold List.Nodup
      rw [List.pairwise_iff_getElem]
      intro i j hi hj hij e
      unfold twiceTo at ht
      rw [List.any_eq_false] at ht
      refine ht j (List.mem_range.2 hj) ?_
      rw [cU hj]
      show ((l.take j).any fun y=>y==l[j])=true
      rw [List.any_eq_true]
      exact ⟨l[i],List.mem_iff_getElem?.2 ⟨i,by rw [List.getElem?_take,if_pos hij,cU hi]⟩,cR e⟩
    have h2:l.length≤(idsL (ofN l)).length:=sub_len hn fun x hx=>(hm x).2 hx
    rw [bne_eq_false_iff_eq]
    omega
def Unread (s:List UInt8) (ids:List Int) (l:List UInt8):Prop:=(runS ([],-1) s).bind sepS=(runS (ids,-1) l).bind sepS
def cutM (s:List UInt8):Bool:=decide (0≤Lib.indexByte s 43)
end Go.Lg.Sg
end
section
namespace Go.Lg.Sg
open Go Go.Lg Go.Lg.Fld
theorem okI_eq (id:Int):okJ id=(decide (1≤id)&&decide (id≤24)):=rfl
def popB (i:Nat):UInt8:=UInt8.ofNat (pc8 i)
theorem popB_nat (i:Nat):(popB i).toNat=pc8 i:=by
  unfold popB
  have:=pc8_le i
  rw [UInt8.toNat_ofNat']
  omega
end Go.Lg.Sg
namespace Go.Proofs.YtbpdbclndfmcgaaGreatDoor
open Go Go.Lg Go.Lg.Fld Go.Lg.Sg
set_option maxRecDepth 100000
variable (X:Nat→Option Obj)
theorem zIsId (id:Int):PSpec Tryz.prog X 96 [Ln .i64 id] (Lb (okJ id)):=by
  refine cC Tryz.func96 rfl (by kernel_rfl) rfl rfl ?_
  intro C
  by_cases h1:1≤id
  · rw [okI_eq,cL h1,Bool.true_and]
    (refine aA<|rgN<|kas O<|aB<|aA<|rgN<|kmv O<|K.geq O O (cL h1) dN<|kmv O<|gmv O O O<|K.leq O O (r:=decide (id≤24)) O (dO O O) ?_;refine kpt O O<|kas O<|aB<|aH ?_)
    exact ⟨[_],⟨O,trivial⟩,O⟩
  · rw [okI_eq,cK h1,Bool.false_and]
    (refine aA<|rgN<|kas O<|aB<|aA<|rgN<|kmv O<|K.geq O O (cK h1) dN<|kmv O<|aC O O O<|aC O O O<|kpf O O<|kas O<|aB ?_;refine aH ?_)
    exact ⟨[_],⟨O,trivial⟩,O⟩
theorem zBit (id:Int):PSpec Tryz.prog X 98 [Ln .i64 id] (Ln .u32 (bitN id:Nat)):=by
  have hI:=zIsId X id
  refine cC Tryz.func98 rfl (by kernel_rfl) rfl rfl ?_
  intro C
  cases h:okJ id with
  | false =>
    have hz:bitN id=0:=if_neg (by rw [h];decide)
    rw [h] at hI
    rw [hz]
    (refine aA<|rgN<|kas O<|aB<|aA<|aA<|rgN<|kmv O<|kca O O (hI)<|aU O O dN<|aB<|aD O ?_;refine aA<|rgN<|kas O<|aB<|aH ?_)
    exact ⟨[_],⟨O,trivial⟩,O⟩
  | true =>
    have hs:=shl_bit h
    have h0:=(okI_iff.1 h).1
    rw [h] at hI
    generalize bitN id=b at *
    (refine aA<|rgN<|kas O<|aB<|aA<|aA<|rgN<|kmv O<|kca O O (hI)<|aU O O dN<|aB<|aE O ?_;refine aG ?_;refine aA<|rgN<|kmv O<|K.shl O O (by omega) hs dN<|kas O<|aB<|aH ?_)
    exact ⟨[_],⟨O,trivial⟩,O⟩
section
variable (a b:Nat) (ha:a<4294967296) (hb:b<4294967296) (id:Int)
include ha
theorem gIs:PSpec Tryz.prog X 68 [Ln .u32 (a:Nat)] (Lb (isB a)):=by
  have h1:=notN_32 (b:=allN) ha
  have h2:=is_bits ha
  refine cC Tryz.func68 rfl (by kernel_rfl) rfl rfl ?_
  intro C
  generalize a ^^^ (a &&& allN)=c at *
  (refine aA<|rgN<|kas O<|aB<|aA<|rgN<|kmv O<|K.bitop (by simp) O O h1 dN<|keq O O h2<|kas O<|aB<|aH ?_)
  exact ⟨[_],⟨O,trivial⟩,O⟩
theorem gHas:PSpec Tryz.prog X 72 [Ln .u32 (a:Nat),Ln .i64 id] (Lb (hasB a id)):=by
  have h1:=andN_32 ha (bitN_lt id)
  have h2:=has_bits a id
  have hB:=zBit X id
  refine cC Tryz.func72 rfl (by kernel_rfl) rfl rfl ?_
  intro C
  generalize a &&& bitN id=c at *
  generalize bitN id=d at *
  (refine aA<|rgN<|kas O<|aB<|aA<|rgN<|kmv O<|kmv O<|kca O O (hB)<|K.bitop (by simp) O O h1 dN<|kne O O h2<|kas O<|aB<|aH ?_)
  exact ⟨[_],⟨O,trivial⟩,O⟩
theorem gWith:PSpec Tryz.prog X 97 [Ln .u32 (a:Nat),Ln .i64 id] (Ln .u32 (withN a id:Nat)):=by
  have h1:=orN_32 ha (bitN_lt id)
  rw [with_bits] at h1
  have hB:=zBit X id
  refine cC Tryz.func97 rfl (by kernel_rfl) rfl rfl ?_
  intro C
  generalize withN a id=c at *
  generalize bitN id=d at *
  (refine aA<|rgN<|kas O<|aB<|aA<|rgN<|kmv O<|kmv O<|kca O O (hB)<|K.bitop (by simp) O O h1 dN<|kas O<|aB<|aH ?_)
  exact ⟨[_],⟨O,trivial⟩,O⟩
theorem gWithin (_:b<4294967296):PSpec Tryz.prog X 69 [Ln .u32 (a:Nat),Ln .u32 (b:Nat)] (Lb (withinB a b)):=by
  have h1:=andN_32 ha (show allN<4294967296 by decide)
  have hm:a &&& allN<4294967296:=Nat.lt_of_le_of_lt Nat.and_le_left ha
  have h2:=notN_32 (b:=b) hm
  have h3:=within_bits a b
  refine cC Tryz.func69 rfl (by kernel_rfl) rfl rfl ?_
  intro C
  generalize (a &&& allN) ^^^ ((a &&& allN) &&& b)=d at *
  generalize a &&& allN=c at *
  (refine aA<|rgN<|kas O<|aB<|aA<|rgN<|kmv O<|K.bitop (by simp) O O h1 dN<|kmv O<|K.bitop (by simp) O O h2 dN<|keq O O h3<|kas O<|aB<|aH ?_)
  exact ⟨[_],⟨O,trivial⟩,O⟩
include hb
end
end Go.Proofs.YtbpdbclndfmcgaaGreatDoor
end
section
namespace Go.Lg.Sg
open Go Go.Lg Go.Lg.Fld
def popT:ByteArray:=⟨((([0,1,1,2,1,2,2,3,1,2,2,3,2,3,3,4,1,2,2,3,2,3,3,4,2,3,3,4,3,4,4,5,1,2,2,3,2,3,3,4,2,3,3,4,3,4,4,5,2,3,3,4,3,4,4,5,3,4,4,5,4,5,5,6]:List UInt8).append [1,2,2,3,2,3,3,4,2,3,3,4,3,4,4,5,2,3,3,4,3,4,4,5,3,4,4,5,4,5,5,6,2,3,3,4,3,4,4,5,3,4,4,5,4,5,5,6,3,4,4,5,4,5,5,6,4,5,5,6,5,6,6,7]).append (([1,2,2,3,2,3,3,4,2,3,3,4,3,4,4,5,2,3,3,4,3,4,4,5,3,4,4,5,4,5,5,6,2,3,3,4,3,4,4,5,3,4,4,5,4,5,5,6,3,4,4,5,4,5,5,6,4,5,5,6,5,6,6,7]:List UInt8).append [2,3,3,4,3,4,4,5,3,4,4,5,4,5,5,6,3,4,4,5,4,5,5,6,4,5,5,6,5,6,6,7,3,4,4,5,4,5,5,6,4,5,5,6,5,6,6,7,4,5,5,6,5,6,6,7,5,6,6,7,6,7,7,8])).toArray⟩
theorem pop_fin:∀ k:Fin 256,popT[k.val]? = some (popB k.val):=by decide +kernel
theorem pop_at {i:Nat} (h:i<256):popT[(((i:Nat):Int)).toNat]? = some (popB i):=pop_fin ⟨i,h⟩
theorem pop_shr (x k:Nat) (hk:k<32):((x:Nat):Int).fdiv (2^(min (Int.toNat (k:Int)) IntKind.u32.bits))=((x/2^k:Nat):Int):=by
  have hm:min (Int.toNat (k:Int)) IntKind.u32.bits=k:=by
    show min k 32=k
    omega
  rw [hm,Int.fdiv_eq_ediv_of_nonneg _ (by have:=Int.pow_pos (n:=(2:Int)) (m:=k) (by decide);omega),Int.natCast_ediv,Int.natCast_pow]
  rfl
theorem pop_and {m:Nat} (h:m<4294967296):bits .and .u32 ((m:Nat):Int) 255=((m%256:Nat):Int):=by
  rw [show (255:Int)=((255:Nat):Int) from rfl,u32_and_nat _ _ h (by decide)]
  rw [show m &&& 255=m%256 from Nat.and_two_pow_sub_one_eq_mod m 8]
theorem pop_add {i j n:Nat} (h:i+j=n) (hn:n<256):IntKind.u8.wrap (((i:Nat):Int)+((j:Nat):Int))=((n:Nat):Int):=by
  rw [IntKind.wrap_u8]
  omega
end Go.Lg.Sg
namespace Go.Proofs.YtbpdbclndfmcgaaGreatDoor
open Go Go.Lg Go.Lg.Fld Go.Lg.Sg
set_option maxRecDepth 100000
variable (X:Nat→Option Obj)
set_option maxHeartbeats 1600000 in
theorem zOnes (x:Nat) (hx:x<4294967296):PSpec Tryz.prog X 117 [Ln .u32 (x:Nat)] (Ln .i64 (cntB x:Nat)):=by
  refine cC Tryz.func117 rfl (by kernel_rfl) rfl rfl ?_
  intro C
  have hsum:=cntB_parts hx
  have s3:=pop_shr x 24 (by decide)
  have s2:=pop_shr x 16 (by decide)
  have s1:=pop_shr x 8 (by decide)
  rw [show x/2^24=x/16777216 from rfl] at s3
  rw [show x/2^16=x/65536 from rfl] at s2
  rw [show x/2^8=x/256 from rfl] at s1
  have a2:=pop_and (m:=x/65536) (by omega)
  have a1:=pop_and (m:=x/256) (by omega)
  have a0:=pop_and hx
  have p3:=pop_at (i:=x/16777216) (by omega)
  have p2:=pop_at (i:=x/65536%256) (by omega)
  have p1:=pop_at (i:=x/256%256) (by omega)
  have p0:=pop_at (i:=x%256) (by omega)
  have b3:=popB_nat (x/16777216)
  have b2:=popB_nat (x/65536%256)
  have b1:=popB_nat (x/256%256)
  have b0:=popB_nat (x%256)
  have l3:=pc8_le (x/16777216)
  have l2:=pc8_le (x/65536%256)
  have l1:=pc8_le (x/256%256)
  have l0:=pc8_le (x%256)
  rw [← b3,← b2,← b1,← b0] at hsum
  rw [← b3] at l3
  rw [← b2] at l2
  rw [← b1] at l1
  rw [← b0] at l0
  have d1:=pop_add (i:=(popB (x/16777216)).toNat) (j:=(popB (x/65536%256)).toNat) rfl (by omega)
  have d2:=pop_add (i:=(popB (x/16777216)).toNat+(popB (x/65536%256)).toNat) (j:=(popB (x/256%256)).toNat) rfl (by omega)
  have d3:=pop_add (i:=(popB (x/16777216)).toNat+(popB (x/65536%256)).toNat+(popB (x/256%256)).toNat) (j:=(popB (x%256)).toNat) hsum (by omega)
  have hcv:IntKind.i64.wrap ((cntB x:Nat):Int)=((cntB x:Nat):Int):=cE (by omega)
  generalize cntB x=n at *
  generalize popB (x/16777216)=q3 at *
  generalize popB (x/65536%256)=q2 at *
  generalize popB (x/256%256)=q1 at *
  generalize popB (x%256)=q0 at *
  have i3:(0:Int)≤((x/16777216:Nat):Int):=Int.natCast_nonneg _
  have i2:(0:Int)≤((x/65536%256:Nat):Int):=Int.natCast_nonneg _
  have i1:(0:Int)≤((x/256%256:Nat):Int):=Int.natCast_nonneg _
  have i0:(0:Int)≤((x%256:Nat):Int):=Int.natCast_nonneg _
  (refine aA<|rgN<|kas O<|aB<|aA<|rgD mixed<|kmv O<|bM O O (by decide) s3 dN<|bA O O i3 p3 dN<|kmv O<|bM O O (by decide) s2 dN<|K.bitop (by simp) O O a2 dN<|bA O O i2 p2 dN<|kad O O d1 ?_;refine kmv O<|bM O O (by decide) s1 dN<|K.bitop (by simp) O O a1 dN<|bA O O i1 p1 dN<|kad O O d2<|kmv O<|K.bitop (by simp) O O a0 dN<|bA O O i0 p0 dN<|kad O O d3<|kcv O hcv ?_;refine kas O<|aB<|rgA ?_;refine aH ?_)
  exact ⟨[_],⟨O,trivial⟩,O⟩
theorem gLen (a:Nat) (ha:a<4294967296):PSpec Tryz.prog X 101 [Ln .u32 (a:Nat)] (Ln .i64 ((idsL a).length:Nat)):=by
  have h1:=andN_32 ha (show allN<4294967296 by decide)
  have hm:a &&& allN<4294967296:=Nat.lt_of_le_of_lt Nat.and_le_left ha
  have hO:=zOnes X (a &&& allN) hm
  rw [cnt_ids] at hO
  refine cC Tryz.func101 rfl (by kernel_rfl) rfl rfl ?_
  intro C
  generalize a &&& allN=c at *
  (refine aA<|rgN<|kas O<|aB<|aA<|rgN<|kmv O<|K.bitop (by simp) O O h1 dN<|kca O O (hO)<|kas O<|aB<|aH ?_)
  exact ⟨[_],⟨O,trivial⟩,O⟩
end Go.Proofs.YtbpdbclndfmcgaaGreatDoor
end
section
namespace Go.Proofs.YtbpdbclndfmcgaaGreatDoor
open Go Go.Lg Go.Lg.Fld Go.Lg.Sg
set_option maxRecDepth 100000
variable (X:Nat→Option Obj)
set_option maxHeartbeats 1600000 in
theorem gOf (ids:List Int) (ad:Option Addr) (cap:Nat) (hin:NuIn X ad ids) (hbig:ids.length<4611686018427387904):
    PSpec Tryz.prog X 66 [Vn ad ids.length cap] (.tup [Sn .u32 (ofA ids:Nat),Sn .i64 (ofE ids)]):=by
  refine cC Tryz.func66 rfl (by kernel_rfl) rfl rfl ?_
  intro C
  (refine aA<|rgN<|kas O<|kas O<|aB<|aA<|rgN<|kas O<|aB<|aA<|aA<|rgN<|kmv O<|aP O bY O dN ?_;refine kmv O<|aB<|aF ?_)
  refine cG (fun m σ=>∃ i:Nat,i≤ids.length∧m=ids.length-i∧(∀ id∈ids.take i,okJ id=true)∧σ=⟨[(4,Ln .u32 (ofN (ids.take i):Nat)),(7,Vn ad ids.length cap),(8,Ln .i64 (ids.length:Nat)),(9,Ln .i64 (i:Nat))],[],X⟩) ids.length
    ⟨⟨[(4,Ln .u32 (ofN (ids.take 0):Nat)),(7,Vn ad ids.length cap),(8,Ln .i64 (ids.length:Nat)),(9,Ln .i64 (0:Nat))],[],X⟩,Le.of (by exact ⟨rfl,rfl,rfl,rfl,trivial⟩) (by exact trivial) (by exact rfl) (by exact rfl) (by repeat' (first|refine bR ?_ ?_|rfl|exact bT|exact bS|exact bU rfl)),0,by omega,rfl,fun id h=>by simp at h,rfl⟩ ?_
  rintro m σ ⟨i,hi,rfl,hpre,rfl⟩
  by_cases hlt:i<ids.length
  · obtain ⟨x,hx⟩:∃ x,ids[i]? = some x:=⟨_,cU hlt⟩
    obtain ⟨blk,off,arr,el,fr,rfl,hX,hc⟩:=hin.at hx
    have hio:off+Int.toNat (i:Int)*1=off+i*1:=by simp
    have hI:=zIsId X x
    cases hk:okJ x with
    | false =>
      have hno:=okIds_no hx hk
      rw [show ofA ids=0 by unfold ofA;rw [hno];rfl,show ofE ids=1 by unfold ofE;rw [hno];rfl]
      rw [hk] at hI
      (refine aA<|rgN<|klt O O (cL (by omega))<|aB<|aA<|aD O ?_;refine aG ?_;refine aA<|aF<|aA<|rgN<|aQ O O bY (by omega) hio dN<|aV O hX O hc dN<|kas O<|aB<|aA<|aA<|rgN<|kmv O<|kca O O hI<|aU O O dN ?_;refine aB<|aD O ?_;refine aA<|rgN<|kas O<|kas O<|aB<|aH ?_)
      exact ⟨[_,_],⟨O,O,trivial⟩,O⟩
    | true =>
      have hlt32:=ofN_lt hpre
      have hW:=gWith X (ofN (ids.take i)) (by omega) x
      rw [with_snoc hk,← take_snoc hx] at hW
      rw [hk] at hI
      have hadd:IntKind.i64.wrap (((i:Nat):Int)+1)=((i+1:Nat):Int):=by rw [cE (by omega)];omega
      (refine aA<|rgN<|klt O O (cL (by omega))<|aB<|aA<|aD O ?_;refine aG ?_;refine aA<|aF<|aA<|rgN<|aQ O O bY (by omega) hio dN<|aV O hX O hc dN<|kas O<|aB<|aA<|aA<|rgN<|kmv O<|kca O O hI<|aU O O dN ?_;refine aB<|aE O ?_;refine aG ?_;refine rgN<|kmv O<|kmv O<|kca O O hW<|kas O<|aB<|rgN<|kad O O hadd<|kmv O<|aB ?_)
      exact ⟨_,⟨[(4,Ln .u32 (ofN (ids.take (i+1)):Nat)),(7,Vn (some ⟨blk,off,none⟩) ids.length cap),(8,Ln .i64 (ids.length:Nat)),(9,Ln .i64 (i+1:Nat))],[],X⟩,by omega,Le.of (by exact ⟨O,O,O,O,trivial⟩) (by exact trivial) (by exact O) (by exact O) (by repeat' (first|refine bR ?_ ?_|rfl|exact bT|exact bS|exact bU O)),i+1,by omega,O,(fun id h=>by
        rw [take_snoc hx] at h
        rcases List.mem_append.1 h with h|h
        · exact hpre id h
        · rw [List.mem_singleton.1 h];exact hk),rfl⟩
  · have e:i=ids.length:=by omega
    subst e
    rw [dB] at hpre ⊢
    have hok:okIds ids=true:=List.all_eq_true.2 hpre
    rw [show ofA ids=ofN ids from if_pos hok,show ofE ids=0 from if_pos hok]
    (refine aA<|rgN<|klt O O (cK (by omega))<|aB<|aA<|aE O ?_;refine aI<|aA<|rgN<|kmv O<|kas O<|kas O<|aB<|aH ?_)
    exact ⟨[_,_],⟨O,O,trivial⟩,O⟩
theorem of_lent {S:Nat→Option (Option Box)} {l:List Int} {k:Nat} {el:TypeId} {row:Bool} (hbig:l.length<4611686018427387904) (hk:S k=some (some ⟨el,(nuV l).map .val,row⟩)):
    ∀ (Y:Nat→Option Obj) (us:List Value),(∀ b o,X b=some o→Y b=some o)→LentLs S Y [.sv (.one (.slc k 0 l.length))] us→PSpec Tryz.prog Y 66 (us.map toLV) (.tup [Sn .u32 (ofA l:Nat),Sn .i64 (ofE l)]):=by
  intro Y us hY hL
  obtain ⟨u1,us1,rfl,⟨b,blk,cap2,m,hk',rfl,hc,hfit,hB⟩,rfl⟩:=hL
  rw [hk] at hk'
  simp only [Option.some.injEq] at hk'
  subst hk'
  obtain ⟨arr,fr,us',sp,hYb,hsz,harr,hv⟩:=hB
  have:=hv _ rfl
  subst this
  have hN:NuIn Y (some ⟨blk,0,none⟩) l:=by
    have hr:=rows_frozen (X:=Y) (blk:=blk) (arr:=arr) (el:=el) (fr:=fr) (sz:=1) (rows:=l.map fun n=>[Value.int .i64 n]) (fun r hr=>by obtain ⟨x,_,rfl⟩:=List.mem_map.1 hr;rfl) ⟨sp,by rw [nu_flat];exact harr⟩
    have e:withBlock Y blk (.cells arr el fr)=Y:=by
      funext b
      unfold withBlock
      by_cases hb:b=blk
      · rw [if_pos hb,hb,hYb]
      · rw [if_neg hb]
    rw [e] at hr
    exact hr
  exact gOf Y l (some ⟨blk,0,none⟩) cap2 hN hbig
abbrev ppSt (ad:Option Addr) (n cap:Nat) (ids:List Int) (i:Nat) (Y:Nat→Option Obj):St:=
  ⟨[(0,Vn ad n cap),(4,.sv (.one (.slc 500 0 n))),(12,Vn ad n cap),(13,Ln .i64 (n:Nat)),(14,Ln .i64 (i:Nat))],[(500,some ⟨3,(nuV (ids.take i)++List.replicate (n-i) (Value.int .i64 0)).map .val,false⟩)],Y⟩
set_option maxHeartbeats 3200000 in
theorem gParts (ps:List Pt) (ad:Option Addr) (cap:Nat) (hin:PartsIn X ad ps) (hbig:ps.length≤40):
    PSpec Tryz.prog X 78 [Vn ad ps.length cap] (.tup [Sn .u32 (prN (ps.map fun p=>p.comp):Nat),Sn .i64 (prE (ps.map fun p=>p.comp))]):=by
  have hmk:slcBuild Tryz.prog 58 ps.length=some (List.replicate ps.length (.int .i64 0),1,3):=slcBuild_one (by kernel_rfl) (by kernel_rfl) (by omega)
  refine cC Tryz.func78 rfl (by kernel_rfl) rfl rfl ?_
  intro C
  have hil:(ps.map fun p=>p.comp).length=ps.length:=cT _
  have hia:∀ (i:Nat) (p:Pt),ps[i]? = some p→(ps.map fun p=>p.comp)[i]? = some p.comp:=fun i p h=>by rw [dH,h];rfl
  generalize (ps.map fun p=>p.comp)=ids at *
  (refine aA<|rgN<|kas O<|kas O<|aB<|aA<|rgN<|kmv O<|aP O bY O dN ?_;refine K.makeSlc (m:=ps.length) (bytes:=8) O O hmk (by kernel_rfl) (by omega) O O dN<|kas O<|aB<|aA<|aA<|rgN<|kmv O<|aP O bY O dN ?_;refine kmv O<|aB<|aF ?_)
  refine cG (fun m σ=>∃ i:Nat,i≤ps.length∧m=ps.length-i∧σ=ppSt ad ps.length cap ids i X) ps.length
    ⟨ppSt ad ps.length cap ids 0 X,Le.ofR [(500,11)] (by exact ⟨rfl,rfl,rfl,rfl,rfl,trivial⟩) (by repeat' (first|exact trivial|refine cM ⟨_,rfl,?_⟩ ?_|refine cM ⟨_,rfl⟩ ?_|rfl|exact bV _ _ _ _|exact bW _ _ _ _|exact bX rfl)) (by exact rfl) (by exact rfl) (by repeat' (first|refine bR ?_ ?_|rfl|exact bT|exact bS|exact bU rfl)) (by exact rfl) (by exact rfl),0,by omega,by omega,rfl⟩ ?_
  rintro m σ ⟨i,hi,rfl,rfl⟩
  by_cases hlt:i<ps.length
  · obtain ⟨p,hp⟩:∃ p,ps[i]? = some p:=⟨_,cU hlt⟩
    obtain ⟨blk,off,arr,el,fr,vad,vcap,rfl,hX,hsz,hcs,_,_,hN⟩:=hin.get hp
    have hio:off+Int.toNat (i:Int)*2=off+i*2:=by simp
    have hxi:=hia i p hp
    have hpl:(nuV (ids.take i)).length=i:=by unfold nuV;rw [cT,cW];omega
    have hix:0+Int.toNat (i:Int)*1=i:=by rw [dC];omega
    have hroom:i+1≤((nuV (ids.take i)++List.replicate (ps.length-i) (Value.int .i64 0)).map CV.val).length:=by rw [cT,cS,hpl,dA];omega
    have hspl:splice ((nuV (ids.take i)++List.replicate (ps.length-i) (Value.int .i64 0)).map CV.val) i [.val (.int .i64 p.comp)]=(nuV (ids.take (i+1))++List.replicate (ps.length-(i+1)) (Value.int .i64 0)).map CV.val:=by
      rw [take_snoc hxi,show ps.length-i=(ps.length-(i+1))+1 by omega,List.replicate_succ,show nuV (ids.take i++[p.comp])=nuV (ids.take i)++[.int .i64 p.comp] by unfold nuV;simp]
      unfold splice
      simp only [dD,dI]
      have hml:((nuV (ids.take i)).map CV.val).length=i:=by rw [cT,hpl]
      generalize (nuV (ids.take i)).map CV.val=R at *
      rw [← hml,List.take_left,List.drop_length_add_append]
      simp
    have hadd:IntKind.i64.wrap (((i:Nat):Int)+1)=((i+1:Nat):Int):=by rw [cE (by omega)];omega
    (refine aA<|rgN<|klt O O (cL (by omega))<|aB<|aA<|aD O ?_;refine aG ?_;refine aA<|aF<|aA<|rgN<|kmv O<|aQ O O bY (by omega) hio dN<|aX O hX (by kernel_rfl) hsz hcs dN<|aO O dN ?_;refine kas O<|aL O O O O O O dN ?_;refine aB<|rgN<|kmv O<|kmv O<|kfa O O ?_;refine kl1 O O O<|K.indexSlc O O (by omega) hix dN ?_;refine K.store O O O O (by kernel_rfl) hroom hspl dN<|aB<|rgN<|kad O O hadd<|kmv O<|aB ?_)
    exact ⟨_,ppSt (some ⟨blk,off,none⟩) ps.length cap ids (i+1) X,by omega,Le.of (by exact ⟨O,O,O,O,O,trivial⟩) (by exact ⟨O,trivial⟩) (by exact O) (by exact O) (by repeat' (first|refine bR ?_ ?_|rfl|exact bT|exact bS|exact bU O)),i+1,by omega,O,O⟩
  · have e:i=ps.length:=by omega
    subst e
    unfold ppSt
    rw [← hil,dB,Nat.sub_self,List.replicate_zero,dF]
    have hO:∀ {S:Nat→Option (Option Box)} {k:Nat} {el:TypeId} {row:Bool},S k=some (some ⟨el,(nuV ids).map .val,row⟩)→∀ (Y:Nat→Option Obj) (us:List Value),(∀ b o,X b=some o→Y b=some o)→LentLs S Y [.sv (.one (.slc k 0 ids.length))] us→PSpec Tryz.prog Y 66 (us.map toLV) (.tup [Sn .u32 (ofA ids:Nat),Sn .i64 (ofE ids)]):=fun hk=>of_lent X (l:=ids) (by omega) hk
    cases hk:okIds ids with
    | false =>
      have hE:ofE ids=1:=by unfold ofE;rw [hk];rfl
      have hA:ofA ids=0:=by unfold ofA;rw [hk];rfl
      rw [hE,hA] at hO
      have hP:prE ids=1:=by unfold prE;rw [hk];rfl
      rw [show prN ids=0 by unfold prN;rw [hP];rfl,hP]
      (refine aA<|rgN<|klt O O (cK (by omega))<|aB<|aA<|aE O ?_;refine aI<|aA<|rgN<|kmv O<|K.callL [500] O O O (hO O) dN ?_;refine kmv O<|kex O O<|kex O O<|kas O<|kas O<|aB<|aA<|aA<|rgN<|kmv O<|keq O O (r:=false) O<|kmv O<|aC O O O<|aC O O O ?_;refine aC O O O<|aC O O O<|aC O O O<|kpf O O<|aB<|aE O ?_;refine aG ?_;refine aA<|rgN<|kmv O<|kmv O<|kas O<|kas O<|aB<|aH ?_)
      exact ⟨[_,_],⟨O,O,trivial⟩,O⟩
    | true =>
      have hE:ofE ids=0:=if_pos hk
      have hA:ofA ids=ofN ids:=if_pos hk
      rw [hE,hA] at hO
      have hok:∀ id∈ids,okJ id=true:=List.all_eq_true.1 hk
      have hlt:=ofN_lt hok
      have hL:=gLen X (ofN ids) (by omega)
      have hne:=twice_len hk
      cases ht:twiceTo ids ids.length with
      | true =>
        have hP:prE ids=7:=by unfold prE;rw [hk,ht];rfl
        rw [show prN ids=0 by unfold prN;rw [hP];rfl,hP]
        rw [ht] at hne
        generalize (idsL (ofN ids)).length=q at *
        (refine aA<|rgN<|klt O O (cK (by omega))<|aB<|aA<|aE O ?_;refine aI<|aA<|rgN<|kmv O<|K.callL [500] O O O (hO O) dN ?_;refine kmv O<|kex O O<|kex O O<|kas O<|kas O<|aB<|aA<|aA<|rgN<|kmv O<|keq O O (r:=true) O<|kmv O<|gmv O O O<|gca O O hL O O ?_;refine gmv O O O<|aP O bY O (dO O O) ?_;refine aW O O hne (dO O O) ?_;refine kpt O O<|aB<|aD O ?_;refine aA<|rgN<|kas O<|kas O<|aB<|aH ?_)
        exact ⟨[_,_],⟨O,O,trivial⟩,O⟩
      | false =>
        have hP:prE ids=0:=by unfold prE;rw [hk,ht];rfl
        rw [show prN ids=ofN ids by unfold prN;rw [hP];rfl,hP]
        rw [ht] at hne
        generalize (idsL (ofN ids)).length=q at *
        (refine aA<|rgN<|klt O O (cK (by omega))<|aB<|aA<|aE O ?_;refine aI<|aA<|rgN<|kmv O<|K.callL [500] O O O (hO O) dN ?_;refine kmv O<|kex O O<|kex O O<|kas O<|kas O<|aB<|aA<|aA<|rgN<|kmv O<|keq O O (r:=true) O<|kmv O<|gmv O O O<|gca O O hL O O ?_;refine gmv O O O<|aP O bY O (dO O O) ?_;refine aW O O hne (dO O O) ?_;refine kpt O O<|aB<|aE O ?_;refine aG ?_;refine aA<|rgN<|kmv O<|kmv O<|kas O<|kas O<|aB<|aH ?_)
        exact ⟨[_,_],⟨O,O,trivial⟩,O⟩
end Go.Proofs.YtbpdbclndfmcgaaGreatDoor
end
section
namespace Go.Proofs.YtbpdbclndfmcgaaGreatDoor
open Go Go.Lg Go.Lg.Fld Go.Lg.Sg Go.Lg.Col
set_option maxRecDepth 100000
def onlyC (cs:List Cp) (set:Nat):List Cp:=cs.filter fun c=>hasB set c.id
def valR (r:Rw) (k:Nat):List (Bool×Int):=match r.p[k]? with|some p=>p.val|none=>[]
def colL (l:List Rw) (k:Nat) (c:Cp):List (List UInt8):=l.map fun r=>packB c.fs (valR r k)
def colsG (f:Nat→Cp→List (List UInt8)) (most:Nat) (cs:List Cp):List Rsc:=cs.mapIdx fun k c=>colR (rowSize c.fs) most (f k c)
def colsT (t:Tb):List Rsc:=colsG (colL t.l) t.most (onlyC t.sc.cs t.set)
theorem colsG_at {f:Nat→Cp→List (List UInt8)} {most:Nat} {cs:List Cp} {k:Nat} {c:Cp} (h:cs[k]? = some c):(colsG f most cs)[k]? = some (colR (rowSize c.fs) most (f k c)):=by
  unfold colsG;rw [List.getElem?_mapIdx,h];rfl
theorem colsG_len (f:Nat→Cp→List (List UInt8)) (most:Nat) (cs:List Cp):(colsG f most cs).length=cs.length:=by unfold colsG;rw [List.length_mapIdx]
theorem colsG_set {f g:Nat→Cp→List (List UInt8)} {most:Nat} {cs:List Cp} {k:Nat} {c:Cp} (h:cs[k]? = some c) (hk:∀ j d,j≠k→cs[j]? = some d→g j d=f j d):
    (colsG f most cs).set k (colR (rowSize c.fs) most (g k c))=colsG g most cs:=by
  refine List.ext_getElem? fun j => ?_
  have hlt:=(List.getElem?_eq_some_iff.1 h).1
  by_cases e:j=k
  · subst e
    rw [List.getElem?_set_self (by rw [colsG_len];exact hlt),colsG_at h]
  · rw [List.getElem?_set_ne (fun e'=>e e'.symm)]
    unfold colsG
    rw [List.getElem?_mapIdx,List.getElem?_mapIdx]
    cases hd:cs[j]? with
    | none=>rfl
    | some d=>simp only [Option.map_some];rw [hk j d e hd]
theorem colsG_congr {f g:Nat→Cp→List (List UInt8)} {most:Nat} {cs:List Cp} (h:∀ j d,cs[j]? = some d→g j d=f j d):colsG g most cs=colsG f most cs:=by
  refine List.ext_getElem? fun j => ?_
  unfold colsG
  rw [List.getElem?_mapIdx,List.getElem?_mapIdx]
  cases hd:cs[j]? with
  | none=>rfl
  | some d=>simp only [Option.map_some];rw [h j d hd]
theorem sorted_ext:∀ {a b:List Int},a.Pairwise (· < ·)→b.Pairwise (· < ·)→(∀ x,x∈a↔x∈b)→a=b
  | [],[],_,_,_=>rfl
  | [],y::b,_,_,h=>absurd ((h y).2 (List.mem_cons_self ..)) (by simp)
  | x::a,[],_,_,h=>absurd ((h x).1 (List.mem_cons_self ..)) (by simp)
  | x::a,y::b,ha,hb,h=>by
    obtain ⟨ha1,ha2⟩:=List.pairwise_cons.1 ha
    obtain ⟨hb1,hb2⟩:=List.pairwise_cons.1 hb
    have e:x=y:=by
      rcases List.mem_cons.1 ((h x).1 (List.mem_cons_self ..)) with e|h1
      · exact e
      · rcases List.mem_cons.1 ((h y).2 (List.mem_cons_self ..)) with e|h2
        · exact e.symm
        · have:=hb1 x h1;have:=ha1 y h2;omega
    subst e
    rw [sorted_ext ha2 hb2 fun z => ?_]
    constructor
    · intro hz
      rcases List.mem_cons.1 ((h z).1 (List.mem_cons_of_mem _ hz)) with e|h1
      · have:=ha1 z hz;omega
      · exact h1
    · intro hz
      rcases List.mem_cons.1 ((h z).2 (List.mem_cons_of_mem _ hz)) with e|h1
      · have:=hb1 z hz;omega
      · exact h1
theorem idsL_sorted (a:Nat):(idsL a).Pairwise (· < ·):=by
  unfold idsL idsTo
  rw [List.pairwise_map]
  refine List.Pairwise.imp (R:=fun i j=>i<j) (fun {i j} (h:i<j)=>by omega) (List.Pairwise.filter _ List.pairwise_lt_range)
theorem goodC16 {s:Sc} (h:chkE s=0):Fld.Good s.cs:=by
  unfold chkE at h
  split at h
  · cases h
  · exact good_of h
theorem pair16 {cs:List Cp} (h:Fld.Good cs):cs.Pairwise (fun c d=>c.id<d.id):=by
  rw [List.pairwise_iff_getElem]
  intro i j hi hj hij
  exact (h.two i j _ _ hij (cU hi) (cU hj)).1
theorem lay16 {s:Sc} (h:chkE s=0) {c:Cp} (hc:c∈s.cs):layErr c.fs=0:=by
  obtain ⟨i,hi⟩:=List.mem_iff_getElem?.1 hc
  exact ((goodC16 h).one i c hi).2.2.2.2
theorem only_mem {cs:List Cp} {set:Nat} {c:Cp} (h:c∈onlyC cs set):c∈cs∧hasB set c.id=true:=List.mem_filter.1 h
theorem only_ids {s:Sc} {set:Nat} (h:chkE s=0) (hh:∀ id∈idsL set,hasC s.cs id=true):(onlyC s.cs set).map Cp.id=idsL set:=by
  refine sorted_ext ?_ (idsL_sorted set) fun x => ?_
  · rw [List.pairwise_map]
    exact (pair16 (goodC16 h)).filter _
  · have hx:x∈idsL set↔hasB set x=true:=by
      rw [← any_ids,List.any_eq_true]
      exact ⟨fun h=>⟨x,h,cR rfl⟩,fun ⟨y,h1,h2⟩=>by rw [← beq_iff_eq.1 h2];exact h1⟩
    rw [List.mem_map]
    constructor
    · rintro ⟨c,hc,rfl⟩
      exact hx.2 (only_mem hc).2
    · intro hm
      have h1:=hh x hm
      unfold hasC at h1
      rw [List.any_eq_true] at h1
      obtain ⟨c,hc,he⟩:=h1
      rw [beq_iff_eq] at he
      exact ⟨c,List.mem_filter.2 ⟨hc,by rw [he];exact hx.1 hm⟩,he⟩
theorem find_of {cs:List Cp} (h:cs.Pairwise (fun c d=>c.id<d.id)) {c:Cp} (hc:c∈cs):cs.find? (fun d=>d.id==c.id)=some c:=by
  induction cs with
  | nil=>cases hc
  | cons d t ih =>
    obtain ⟨h1,h2⟩:=List.pairwise_cons.1 h
    rcases List.mem_cons.1 hc with e|hm
    · subst e;rw [List.find?_cons,beq_self_eq_true]
    · have:=h1 c hm
      rw [List.find?_cons,show (d.id==c.id)=false by rw [beq_eq_false_iff_ne];omega]
      exact ih h2 hm
section
variable {t:Tb} (hk:TbOk t)
include hk
theorem t_ids:(onlyC t.sc.cs t.set).map Cp.id=idsL t.set:=only_ids hk.sc hk.has
theorem t_len:(onlyC t.sc.cs t.set).length=(idsL t.set).length:=by rw [← t_ids hk,cT]
theorem t_len24:(onlyC t.sc.cs t.set).length≤24:=by rw [t_len hk];exact ids_le _
theorem t_place (comp:Int):findI (fun c=>c.id==comp) (onlyC t.sc.cs t.set)=match placeT t.set comp with|some k=>(k:Nat)|none => -1:=by
  unfold findI placeT
  rw [← t_ids hk,List.findIdx?_map]
  rfl
theorem t_at {comp:Int} {k:Nat} (h:placeT t.set comp=some k):∃ c,(onlyC t.sc.cs t.set)[k]? = some c∧c.id=comp∧fsAt t.sc.cs comp=c.fs∧hasB t.set comp=true:=by
  have h1:=place_at h
  rw [← t_ids hk,dH] at h1
  obtain ⟨c,hc,he⟩:=Option.map_eq_some_iff.1 h1
  obtain ⟨hm,hb⟩:=only_mem (cZ hc)
  refine ⟨c,hc,he,?_,by rw [← he];exact hb⟩
  unfold fsAt
  rw [← he,find_of (pair16 (goodC16 hk.sc)) hm]
omit hk in
theorem t_has (set:Nat) (comp:Int):hasB set comp=(placeT set comp).isSome:=by
  rw [← any_ids]
  unfold placeT
  rw [List.findIdx?_isSome]
theorem t_lay {k:Nat} {c:Cp} (h:(onlyC t.sc.cs t.set)[k]? = some c):layErr c.fs=0:=lay16 hk.sc (only_mem (cZ h)).1
theorem t_size {k:Nat} {c:Cp} (h:(onlyC t.sc.cs t.set)[k]? = some c):c.fs.length≤8∧rowSize c.fs≤256∧∀ ns,(packB c.fs ns).length=rowSize c.fs:=by
  obtain ⟨h1,h2,h3⟩:=layErr_facts (t_lay hk h)
  exact ⟨h1,h3,fun ns=>packB_len h2 ns⟩
theorem t_row {k i:Nat} {c:Cp} {r:Rw} (h:(onlyC t.sc.cs t.set)[k]? = some c) (hr:t.l[i]? = some r):∃ p,r.p[k]? = some p∧p.comp=c.id∧fitErr c.fs p.val=0∧(colL t.l k c)[i]? = some (packB c.fs p.val):=by
  have hR:=hk.rows r (cZ hr)
  obtain ⟨p,hp,he⟩:=hR.at (k:=k) (id:=c.id) (by rw [← t_ids hk,dH,h];rfl)
  refine ⟨p,hp,he,?_,?_⟩
  · have hf:=hR.fit p (cZ hp)
    have:fsAt t.sc.cs p.comp=c.fs:=by
      unfold fsAt
      rw [he,find_of (pair16 (goodC16 hk.sc)) (only_mem (cZ h)).1]
    rw [this] at hf;exact hf
  · unfold colL
    rw [dH,hr]
    simp only [Option.map_some,valR,hp]
end
def entV (l:List Nat):List Value:=l.map fun e=>.int .u64 (e:Nat)
def EntsAt (H:Nat→Option Obj) (v:Value) (l:List Nat):Prop:=(v=nilSlc∧l=[])∨∃ db,LeadsTo H db v 37 1 (entV l)
def PtrsIn (X:Nat→Option Obj) (v:Value) (ps:List Nat):Prop := ∃ (pad:Option Addr) (cap:Nat),v = .slice pad ps.length cap∧∀ (i b:Nat),ps[i]? = some b →
  ∃ (blk:Nat) (arr:Array Value) (el:TypeId) (fr:Nat×Nat),pad=some ⟨blk,0,none⟩∧X blk=some (.cells arr el fr)∧arr[i]? = some (.pointer (some ⟨b,0,none⟩))
theorem PtrsIn.mono {X Y:Nat→Option Obj} {v:Value} {ps:List Nat} (h:PtrsIn X v ps) (hXY:∀ b o,X b=some o→Y b=some o):PtrsIn Y v ps:=by
  obtain ⟨pad,cap,h1,h2⟩:=h
  refine ⟨pad,cap,h1,fun i b hb => ?_⟩
  obtain ⟨blk,arr,el,fr,g1,g2,g3⟩:=h2 i b hb
  exact ⟨blk,arr,el,fr,g1,hXY _ _ g2,g3⟩
theorem EntsAt.slice {H:Nat→Option Obj} {v:Value} {l:List Nat} (h:EntsAt H v l):∃ ad cap,v = .slice ad l.length cap:=by
  rcases h with ⟨rfl,rfl⟩|⟨db,len,cap,arr,fr,rfl,h2,_⟩
  · exact ⟨none,0,rfl⟩
  · have:len=l.length:=by unfold entV at h2;rw [cT] at h2;omega
    rw [this];exact ⟨_,cap,rfl⟩
structure TabIn (t:Tb) (Hs He Hr:Nat→Option Obj) (vE vC vP:Value) (ps:List Nat):Prop where
  sc:∃ (cb cc:Nat),vC = .slice (some ⟨cb,0,none⟩) (onlyC t.sc.cs t.set).length cc∧CompsIn Hs (some ⟨cb,0,none⟩) (onlyC t.sc.cs t.set)
  ptrs:PtrsIn Hs vP ps
  refs:Refs Hr ps (colsT t)
  ents:EntsAt He vE (t.l.map Rw.e)
  two:∀ r∈t.l,∀ p∈r.p,∀ u∈p.val,In2 u.2
abbrev tblV (t:Tb) (vE vC vP:Value):List Value:=[.int .u32 (t.set:Nat),.int .i64 (t.most:Nat),.int .i64 (t.kept:Nat),vE,.int .i64 t.sc.ver,vC,vP]
def tbM (m:Bool) (t:Tb):Rsc:=⟨fun ρ H=>ρ.2=7∧∃ (fr:Nat×Nat) (Hs He Hr:Nat→Option Obj) (vE vC vP:Value) (ps:List Nat),H ρ.1=some (.cells (tblV t vE vC vP).toArray 92 fr) ∧
  cutM H ρ.1=joinM (joinM Hs He) Hr∧(∀ b,He b≠none→Hs b=none)∧(∀ b,Hr b≠none→joinM Hs He b=none)∧TabIn t Hs He Hr vE vC vP ps∧(m=true↔vE≠nilSlc)⟩
def tbR (t:Tb):Rsc:=⟨fun ρ H=>∃ m,(tbM m t).holds ρ H⟩
abbrev tB (k:Nat) (t:Tb):Nat×Option Box:=(k,some ⟨0,[],.res (tbR t)⟩)
abbrev tM (k:Nat) (m:Bool) (t:Tb):Nat×Option Box:=(k,some ⟨0,[],.res (tbM m t)⟩)
abbrev tS (k:Nat) (t:Tb) (vE:CV) (vC vP:Value):Nat×Option Box:=(k,some ⟨92,[.val (.int .u32 (t.set:Nat)),.val (.int .i64 (t.most:Nat)),.val (.int .i64 (t.kept:Nat)),vE,.val (.int .i64 t.sc.ver),.val vC,.val vP],false⟩)
abbrev tH (X Hs He Hr:Nat→Option Obj):Nat→Option Obj:=joinM (joinM (joinM X Hs) He) Hr
section
variable {P:Program} {n:Nat} {C:Ctx} {c:Code} {Q:Exit→St→Prop} {X:Nat→Option Obj} {s:List (Nat×LV)} {bx:List (Nat×Option Box)} {k:Nat}
theorem own_join {H A B:Nat→Option Obj} (h:OwnedM C X H) (e:H=joinM A B) (hd:∀ b,B b≠none→A b=none):OwnedM C X A∧OwnedM C (joinM X A) B:=by
  subst e
  refine ⟨⟨fun b o hb => ?_⟩,⟨fun b o hb => ?_⟩⟩
  · refine h.own b o ?_
    cases hc:B b with
    | none=>rw [joinM_out hc];exact hb
    | some o'=>have:=hd b (by rw [hc];simp);rw [hb] at this;cases this
  · obtain ⟨h1,h2,h3⟩:=h.own b o (joinM_in hb)
    exact ⟨h1,h2,by rw [joinM_out (hd b (by rw [hb];simp))];exact h3⟩
theorem own_far {A B:Nat→Option Obj} (h:OwnedM C (joinM X A) B) {b:Nat} (hb:B b≠none):A b=none:=by
  cases ho:B b with
  | none=>exact absurd ho hb
  | some o=>exact (joinM_none (h.own b o ho).2.2).1
theorem tabM_open {m:Bool} {t:Tb}
    (h:∀ (Hs He Hr:Nat→Option Obj) (vE vC vP:Value) (ps:List Nat),OwnedM C X Hs→OwnedM C (joinM X Hs) He→OwnedM C (joinM (joinM X Hs) He) Hr→TabIn t Hs He Hr vE vC vP ps→(m=true↔vE≠nilSlc) →
      LWP P n C c Q ⟨s,tS k t (.val vE) vC vP::bx,tH X Hs He Hr⟩):LWP P n C c Q ⟨s,tM k m t::bx,X⟩:=by
  refine LWP.openRes (fun ρ H h => ?_) fun ρ H vals el fr hR hv hO => ?_
  · obtain ⟨h1,fr,_,_,_,_,_,_,_,h2,_⟩:=h
    exact ⟨_,_,fr,h2,by rw [h1];rfl⟩
  · obtain ⟨h1,fr',Hs,He,Hr,vE,vC,vP,ps,h2,h3,h4,h5,h6,h7⟩:=hR
    rw [hv] at h2
    simp only [Option.some.injEq,Obj.cells.injEq] at h2
    obtain ⟨rfl,rfl,rfl⟩:=h2
    have hO1:=hO.cut ρ.1
    rw [h3] at hO1 ⊢
    obtain ⟨hA,hB⟩:=own_join hO1 rfl h5
    obtain ⟨hA1,hA2⟩:=own_join hA rfl h4
    rw [← joinM_join,← joinM_join]
    exact h Hs He Hr vE vC vP ps hA1 hA2 (by rw [joinM_join];exact hB) h6 h7
theorem tab_open {t:Tb}
    (h:∀ (Hs He Hr:Nat→Option Obj) (vE vC vP:Value) (ps:List Nat),OwnedM C X Hs→OwnedM C (joinM X Hs) He→OwnedM C (joinM (joinM X Hs) He) Hr→TabIn t Hs He Hr vE vC vP ps →
      LWP P n C c Q ⟨s,tS k t (.val vE) vC vP::bx,tH X Hs He Hr⟩):LWP P n C c Q ⟨s,tB k t::bx,X⟩:=
  LWP.resEx (fun m=>tbM m t) (fun _ _ h=>h) fun m=>tabM_open fun Hs He Hr vE vC vP ps h1 h2 h3 h4 _=>h Hs He Hr vE vC vP ps h1 h2 h3 h4
theorem tabM_shut {Mid:St→Prop} {m:Bool} {t:Tb} {Hs He Hr:Nat→Option Obj} {vE vC vP:Value} {ps:List Nat} (h1:OwnedM C X Hs) (h2:OwnedM C (joinM X Hs) He) (h3:OwnedM C (joinM (joinM X Hs) He) Hr) (hI:TabIn t Hs He Hr vE vC vP ps) (hm:m=true↔vE≠nilSlc)
    (h:Leads n C Mid ⟨s,tM k m t::bx,X⟩):Leads n C Mid ⟨s,tS k t (.val vE) vC vP::bx,tH X Hs He Hr⟩:=by
  unfold tH
  rw [joinM_join X Hs He,joinM_join]
  have h3':OwnedM C (joinM X (joinM Hs He)) Hr:=by rw [← joinM_join];exact h3
  refine Leads.closeRes (vals:=tblV t vE vC vP) ((h1.join h2).join h3' ) (fun ρ fr g1 g2 g3 => ?_) h
  refine ⟨g3,fr,Hs,He,Hr,vE,vC,vP,ps,cJ _ _ _,?_,fun b hb=>own_far h2 hb,fun b hb=>own_far h3' hb,hI,hm⟩
  rw [cut_with g1]
theorem tab_shut {Mid:St→Prop} {t:Tb} {Hs He Hr:Nat→Option Obj} {vE vC vP:Value} {ps:List Nat} (h1:OwnedM C X Hs) (h2:OwnedM C (joinM X Hs) He) (h3:OwnedM C (joinM (joinM X Hs) He) Hr) (hI:TabIn t Hs He Hr vE vC vP ps)
    (h:Leads n C Mid ⟨s,tB k t::bx,X⟩):Leads n C Mid ⟨s,tS k t (.val vE) vC vP::bx,tH X Hs He Hr⟩:=by
  refine tabM_shut (m:=(open Classical in decide (vE≠nilSlc))) h1 h2 h3 hI (by simp) (Leads.resTo (R2:=tbR t) (fun ρ H hh=>⟨_,hh⟩) h)
theorem tH_s {Hs He Hr:Nat→Option Obj} (h2:OwnedM C (joinM X Hs) He) (h3:OwnedM C (joinM (joinM X Hs) He) Hr):∀ b o,Hs b=some o→tH X Hs He Hr b=some o:=fun b o h=>joinM_has h3 (joinM_has h2 (joinM_in h))
theorem tH_e {Hs He Hr:Nat→Option Obj} (h3:OwnedM C (joinM (joinM X Hs) He) Hr):∀ b o,He b=some o→tH X Hs He Hr b=some o:=fun b o h=>joinM_has h3 (joinM_in h)
theorem tH_x {Hs He Hr:Nat→Option Obj} (h1:OwnedM C X Hs) (h2:OwnedM C (joinM X Hs) He) (h3:OwnedM C (joinM (joinM X Hs) He) Hr):∀ b o,X b=some o→tH X Hs He Hr b=some o:=fun b o h=>joinM_has h3 (joinM_has h2 (joinM_has h1 h))
end
end Go.Proofs.YtbpdbclndfmcgaaGreatDoor
end
section
namespace Go.Proofs.YtbpdbclndfmcgaaGreatDoor
open Go Go.Lg Go.Lg.Fld Go.Lg.Sg Go.Lg.Col
set_option maxRecDepth 100000
abbrev LnilT:LV:=.sv (.one (.val (.pointer none)))
abbrev Vstr (l:List UInt8):SV:=.one (.val (.string ⟨l.toArray⟩))
abbrev vS (ad:Option Addr) (n cap:Nat):CV:=.val (.slice ad n cap)
variable (X:Nat→Option Obj)
section
variable (t:Tb) (ad:Option Addr) (n cap:Nat) (vC vP:Value)
theorem len0:MSpec Tryz.prog X 18 [Lp 1000000] [tS 1000000 t (vS ad n cap) vC vP] (Ln .i64 (n:Nat)) [tS 1000000 t (vS ad n cap) vC vP]:=by
  refine cD Tryz.func18 rfl (by kernel_rfl) rfl rfl (by exact (by repeat' (first|refine bR ?_ ?_|rfl|exact bT|exact bS|exact bU rfl))) rfl rfl ?_
  intro C
  (refine aA<|rgN<|kas O<|aB<|aA<|aA<|rgN<|kmv O<|K.ptrNil O (by kernel_rfl) (.inl ⟨O,O⟩) dN<|aB<|aE O ?_;refine aG ?_;refine aA<|rgN<|kmv O<|bH O dN<|kfa O O ?_;refine kl1 O O O<|aP O bY O dN ?_;refine kas O<|aB<|aH ?_)
  exact ⟨[],⟨[_],⟨rfl,trivial⟩,rfl⟩,(by repeat' (first|exact trivial|refine cM ⟨_,rfl,?_⟩ ?_|refine cM ⟨_,rfl⟩ ?_|rfl|exact bV _ _ _ _|exact bW _ _ _ _|exact bX rfl)),rfl,rfl⟩
theorem room0 (hr:n+t.kept≤t.most) (hm:t.most≤256):MSpec Tryz.prog X 20 [Lp 1000000] [tS 1000000 t (vS ad n cap) vC vP] (Ln .i64 (t.most-n-t.kept:Nat)) [tS 1000000 t (vS ad n cap) vC vP]:=by
  refine cD Tryz.func20 rfl (by kernel_rfl) rfl rfl (by exact (by repeat' (first|refine bR ?_ ?_|rfl|exact bT|exact bS|exact bU rfl))) rfl rfl ?_
  intro C
  have h0:=len0 X t ad n cap vC vP
  have h1:IntKind.i64.wrap (((t.most:Nat):Int)-(n:Nat))=((t.most-n:Nat):Int):=by rw [cE (by omega)];omega
  have h2:IntKind.i64.wrap (((t.most-n:Nat):Int)-(t.kept:Nat))=((t.most-n-t.kept:Nat):Int):=by rw [cE (by omega)];omega
  (refine aA<|rgN<|kas O<|aB<|aA<|aA<|rgN<|kmv O<|K.ptrNil O (by kernel_rfl) (.inl ⟨O,O⟩) dN<|aB<|aE O ?_;refine aG ?_;refine aA<|rgD mixed<|kmv O<|bH O dN<|kfa O O ?_;refine kl1 O O O<|kmv O<|K.callR [(1000000,1000000)] (h0) O O (by exact (cM ⟨_,O,O⟩ trivial)) (by exact (bR (bR O (bR O (bR O (bR O (bR O (bR O (bR O O))))))) O)) O O O O dN<|aZ O O h1 dN<|kmv O<|bH O dN<|kfa O O ?_;refine kl1 O O O<|aZ O O h2 dN<|kas O<|aB<|rgA ?_;refine aH ?_)
  exact ⟨[],⟨[_],⟨rfl,trivial⟩,rfl⟩,(by repeat' (first|exact trivial|refine cM ⟨_,rfl,?_⟩ ?_|refine cM ⟨_,rfl⟩ ?_|rfl|exact bV _ _ _ _|exact bW _ _ _ _|exact bX rfl)),rfl,rfl⟩
theorem seek0_no (row:Int) (h:row<0∨(n:Int)≤row):MSpec Tryz.prog X 48 [Lp 1000000,Ln .i64 row] [tS 1000000 t (vS ad n cap) vC vP] (Ln .i64 3) [tS 1000000 t (vS ad n cap) vC vP]:=by
  refine cD Tryz.func48 rfl (by kernel_rfl) rfl rfl (by exact (by repeat' (first|refine bR ?_ ?_|rfl|exact bT|exact bS|exact bU rfl))) rfl rfl ?_
  intro C
  by_cases h0:row<0
  · (refine aA<|rgN<|kas O<|aB<|aA<|aF<|aA<|rgN<|kmv O<|K.ptrNil O (by kernel_rfl) (.inl ⟨O,O⟩) dN<|kas O<|aB<|aE O ?_;refine aA<|rgN<|kmv O<|klt O O (cL h0)<|kmv O<|aC O O O<|aC O O O<|aC O O O<|aC O O O<|aC O O O<|aC O O O<|aC O O O<|kpt O O<|kas O ?_;refine aB<|aD O ?_;refine aA<|rgN<|kas O<|aB<|aH ?_)
    exact ⟨[],⟨[_],⟨rfl,trivial⟩,rfl⟩,(by repeat' (first|exact trivial|refine cM ⟨_,rfl,?_⟩ ?_|refine cM ⟨_,rfl⟩ ?_|rfl|exact bV _ _ _ _|exact bW _ _ _ _|exact bX rfl)),rfl,rfl⟩
  · have h1:(n:Int)≤row:=by omega
    (refine aA<|rgN<|kas O<|aB<|aA<|aF<|aA<|rgN<|kmv O<|K.ptrNil O (by kernel_rfl) (.inl ⟨O,O⟩) dN<|kas O<|aB<|aE O ?_;refine aA<|rgN<|kmv O<|klt O O (cK h0)<|kmv O<|gmv O O O<|gmv O O O<|bH O (dO O O) ?_;refine aM O O (dO O O) ?_;refine aN O O O (dO O O) ?_;refine aP O bY O (dO O O) ?_;refine K.geq O O (cL h1) (dO O O) ?_;refine kpf O O<|kas O<|aB<|aD O ?_;refine aA<|rgN<|kas O<|aB<|aH ?_)
    exact ⟨[],⟨[_],⟨rfl,trivial⟩,rfl⟩,(by repeat' (first|exact trivial|refine cM ⟨_,rfl,?_⟩ ?_|refine cM ⟨_,rfl⟩ ?_|rfl|exact bV _ _ _ _|exact bW _ _ _ _|exact bX rfl)),rfl,rfl⟩
theorem seek0 (i:Nat) (h:i<n):MSpec Tryz.prog X 48 [Lp 1000000,Ln .i64 (i:Nat)] [tS 1000000 t (vS ad n cap) vC vP] (Ln .i64 0) [tS 1000000 t (vS ad n cap) vC vP]:=by
  refine cD Tryz.func48 rfl (by kernel_rfl) rfl rfl (by exact (by repeat' (first|refine bR ?_ ?_|rfl|exact bT|exact bS|exact bU rfl))) rfl rfl ?_
  intro C
  (refine aA<|rgN<|kas O<|aB<|aA<|aF<|aA<|rgN<|kmv O<|K.ptrNil O (by kernel_rfl) (.inl ⟨O,O⟩) dN<|kas O<|aB<|aE O ?_;refine aA<|rgN<|kmv O<|klt O O (cK (by omega))<|kmv O<|gmv O O O<|gmv O O O<|bH O (dO O O) ?_;refine aM O O (dO O O) ?_;refine aN O O O (dO O O) ?_;refine aP O bY O (dO O O) ?_;refine K.geq O O (cK (by omega)) (dO O O) ?_;refine kpf O O<|kas O<|aB<|aE O ?_;refine aG ?_;refine aA<|rgN<|kas O<|aB<|aH ?_)
  exact ⟨[],⟨[_],⟨rfl,trivial⟩,rfl⟩,(by repeat' (first|exact trivial|refine cM ⟨_,rfl,?_⟩ ?_|refine cM ⟨_,rfl⟩ ?_|rfl|exact bV _ _ _ _|exact bW _ _ _ _|exact bX rfl)),rfl,rfl⟩
end
theorem place1_spec (c:Cp) (fad:Option Addr) (fcap:Nat) (id:Int) {b:Nat} {arr:Array Value} {el:TypeId} {fr:Nat×Nat} (hX:X b=some (.cells arr el fr)) (h0:arr[0]? = some (.int .i64 id)):
    PSpec Tryz.prog X 81 [Cx c fad fcap,Vp b] (Lb (c.id==id)):=by
  refine cC Tryz.func81 rfl (by kernel_rfl) rfl rfl ?_
  intro C
  (refine aA<|rgN<|aK O O O dN<|kas O<|aB<|aA<|rgN<|kfa O O ?_;refine kl1 O O O<|aV O hX O h0 dN<|keq O O O<|kas O<|aB<|aH ?_)
  exact ⟨[_],⟨O,trivial⟩,O⟩
theorem place0 (t:Tb) (v:Value) (vP:Value) (cs:List Cp) (cad:Option Addr) (cc:Nat) (id:Int) (hin:CompsIn X cad cs) (hbig:cs.length<4611686018427387904):
    MSpec Tryz.prog X 45 [Lp 1000000,Ln .i64 id] [tS 1000000 t (.val v) (.slice cad cs.length cc) vP] (Ln .i64 (findI (fun c=>c.id==id) cs)) [tS 1000000 t (.val v) (.slice cad cs.length cc) vP]:=by
  refine cD Tryz.func45 rfl (by kernel_rfl) rfl rfl (by exact (by repeat' (first|refine bR ?_ ?_|rfl|exact bT|exact bS|exact bU rfl))) rfl rfl ?_
  intro C
  (refine aA<|rgN<|K.box1 O O O dN<|kas O<|aB<|aA ?_)
  refine LWP.le (σ':=⟨[(3,Lp 3),(0,Lp 1000000)],[(3,some ⟨3,[Value.int .i64 id].map .val,false⟩),tS 1000000 t (.val v) (.slice cad cs.length cc) vP],X⟩) (Le.of (by exact ⟨O,O,trivial⟩) (by exact ⟨O,O,trivial⟩) (by exact O) (by exact O) (by repeat' (first|refine bR ?_ ?_|rfl|exact bT|exact bS|exact bU O))) ?_
  refine LWP.freezePtr (by rfl) (by rfl) (by rfl) fun b arr0 fr0 hn _ h0 => ?_
  have hin':=hin.mono (cF (o:=.cells arr0 3 fr0) hn)
  have hp:=fun (c:Cp) (_:c∈cs) (fad:Option Addr) (fcap:Nat)=>place1_spec _ c fad fcap id (cJ X b (.cells arr0 3 fr0)) (at_zero h0)
  have hq:=idxC_spec _ cad cc cs hin' hbig 81 [.pointer (some ⟨b,0,none⟩)] (fun c=>c.id==id) hp
  (refine rgN<|kmv O<|bH O dN<|kfa O O ?_;refine kfa O O ?_;refine kl1 O O O<|K.makeFunc O O dN ?_;refine kca O O hq<|kas O<|aB<|aH ?_)
  exact ⟨[],⟨[_],⟨rfl,trivial⟩,rfl⟩,(by repeat' (first|exact trivial|refine cM ⟨_,rfl,?_⟩ ?_|refine cM ⟨_,rfl⟩ ?_|rfl|exact bV _ _ _ _|exact bW _ _ _ _|exact bX rfl)),rfl,rfl⟩
end Go.Proofs.YtbpdbclndfmcgaaGreatDoor
end
section
namespace Go.Proofs.YtbpdbclndfmcgaaGreatDoor
open Go Go.Lg Go.Lg.Fld Go.Lg.Sg Go.Lg.Col
set_option maxRecDepth 100000
theorem colR_root (z q:Nat) (L:List (List UInt8)):∀ ρ H,(colR z q L).holds ρ H→H ρ.1≠none:=fun ρ H h=>by
  obtain ⟨_,_,_,_,_,h2,_⟩:=h
  rw [h2];simp
section
variable {P:Program} {n:Nat} {C:Ctx} {c:Code} {Q:Exit→St→Prop} {Y:Nat→Option Obj} {s:List (Nat×LV)} {bx:List (Nat×Option Box)}
theorem tcol_open {Hr:Nat→Option Obj} {ps:List Nat} {Rs:List Rsc} {k kk:Nat} {R:Rsc} (hO:OwnedM C Y Hr) (hR:Refs Hr ps Rs) (hi:Rs[k]? = some R)
    (hs:s.all (fun p=>p.2.inUse bx)=true) (hb:bx.all (fun p=>match p.2 with|some b=>b.cells.all (CV.inUse bx)|none=>true)=true) (hk:Go.Lg.look kk bx=none) (hlt:kk<1000000)
    (h:∀ (b:Nat) (H0:Nat→Option Obj),ps[k]? = some b→OwnedM C Y H0→(∀ (R':Rsc) (m':Nat) (Hc':Nat→Option Obj),R'.holds (b,m') Hc'→Hc' b≠none→OwnedM C (joinM Y H0) Hc'→Refs (joinM H0 Hc') ps (Rs.set k R')) →
      LWP P n C c Q ⟨s,(kk,some ⟨0,[],.res (atR b R)⟩)::bx,joinM Y H0⟩):LWP P n C c Q ⟨s,bx,joinM Y Hr⟩:=by
  obtain ⟨b,m,Hc,h1,h2,h3,h4,h5⟩:=hR.take hi
  exact LWP.takeRes hO h4 h2 h3 hs hb hk hlt (h b (minusM Hr Hc) h1 (hO.minus Hc) fun R' m' Hc' g1 g2 g3=>h5 R' m' Hc' g1 g2 fun x hx=>own_far g3 hx)
theorem tcol_shut {Mid:St→Prop} {H0:Nat→Option Obj} {b kk:Nat} {R':Rsc} (hO:OwnedM C Y H0) (hroot:∀ ρ H,R'.holds ρ H→H ρ.1≠none)
    (hs:s.all (fun p=>p.2.inUse bx)=true) (hb:bx.all (fun p=>match p.2 with|some b=>b.cells.all (CV.inUse bx)|none=>true)=true) (hk:Go.Lg.look kk bx=none)
    (h:∀ (m':Nat) (Hc':Nat→Option Obj),R'.holds (b,m') Hc'→Hc' b≠none→OwnedM C (joinM Y H0) Hc'→OwnedM C Y (joinM H0 Hc')→Leads n C Mid ⟨s,bx,joinM Y (joinM H0 Hc')⟩):Leads n C Mid ⟨s,(kk,some ⟨0,[],.res (atR b R')⟩)::bx,joinM Y H0⟩:=by
  refine Leads.fixAlone hs hb hk fun ρ H hh hO2 => ?_
  obtain ⟨b',m'⟩:=ρ
  obtain ⟨rfl,hR⟩:=hh
  rw [joinM_join]
  exact h m' H hR (hroot _ _ hR) hO2 (hO.join hO2)
end
abbrev atB (k b z q:Nat) (L:List (List UInt8)):Nat×Option Box:=(k,some ⟨0,[],.res (atR b (colR z q L))⟩)
theorem tget_small (t:Tb) (row comp:Int):tgetE t row comp=0∨tgetE t row comp=3∨tgetE t row comp=6:=by unfold tgetE;(repeat' split)<;>omega
variable (X:Nat→Option Obj)
section
variable (t:Tb) (hk:TbOk t) (ad:Option Addr) (cap:Nat) (vP:Value) (row comp:Int)
include hk
theorem find0_no (vC:Value) (h:tgetE t row comp≠0):MSpec Tryz.prog X 50 [Lp 1000000,Ln .i64 row,Ln .i64 comp] [tS 1000000 t (vS ad t.l.length cap) vC vP] (.tup [Sn .i64 0,Sn .i64 (tgetE t row comp)]) [tS 1000000 t (vS ad t.l.length cap) vC vP]:=by
  refine cD Tryz.func50 rfl (by kernel_rfl) rfl rfl (by exact (by repeat' (first|refine bR ?_ ?_|rfl|exact bT|exact bS|exact bU rfl))) rfl rfl ?_
  intro C
  unfold tgetE at h ⊢
  by_cases hr:rowB t row=true
  · rw [if_pos hr] at h ⊢
    unfold rowB at hr
    rw [Bool.and_eq_true,decide_eq_true_iff,decide_eq_true_iff] at hr
    obtain ⟨i,rfl⟩:∃ i:Nat,row=i:=⟨row.toNat,by omega⟩
    have hs:=seek0 X t ad t.l.length cap vC vP i (by omega)
    cases hp:(placeT t.set comp).isSome with
    | true=>rw [hp] at h;exact absurd rfl h
    | false =>
      have hh:=gHas X t.set hk.set.1 comp
      rw [t_has,hp] at hh
      (refine aA<|rgN<|kas O<|kas O<|aB<|aA<|aA<|rgN<|kmv O<|kmv O<|K.callR [(1000000,1000000)] (hs) O O (by exact (cM ⟨_,O,O⟩ trivial)) (by exact (bR (bR O (bR O (bR O (bR O (bR O (bR O (bR O O))))))) O)) O O O O dN<|kas O<|aB<|aA ?_;refine rgN<|kmv O<|kne O O ((cO (by omega)))<|aB<|aE O ?_;refine aG ?_;refine aA<|aA<|rgN<|kmv O<|bH O dN<|kfa O O ?_;refine kl1 O O O<|kmv O<|kca O O hh<|aU O O dN<|aB<|aD O ?_;refine aA<|rgN<|kas O<|kas O<|aB<|aH ?_)
      exact ⟨[],⟨[_,_],⟨rfl,rfl,trivial⟩,rfl⟩,(by repeat' (first|exact trivial|refine cM ⟨_,rfl,?_⟩ ?_|refine cM ⟨_,rfl⟩ ?_|rfl|exact bV _ _ _ _|exact bW _ _ _ _|exact bX rfl)),rfl,rfl⟩
  · rw [if_neg hr]
    have hs:=seek0_no X t ad t.l.length cap vC vP row (by unfold rowB at hr;rw [Bool.and_eq_true,decide_eq_true_iff,decide_eq_true_iff] at hr;omega)
    (refine aA<|rgN<|kas O<|kas O<|aB<|aA<|aA<|rgN<|kmv O<|kmv O<|K.callR [(1000000,1000000)] (hs) O O (by exact (cM ⟨_,O,O⟩ trivial)) (by exact (bR (bR O (bR O (bR O (bR O (bR O (bR O (bR O O))))))) O)) O O O O dN<|kas O<|aB<|aA ?_;refine rgN<|kmv O<|kne O O (cP (by omega))<|aB<|aD O ?_;refine aA<|rgN<|kmv O<|kas O<|kas O<|aB<|aH ?_)
    exact ⟨[],⟨[_,_],⟨rfl,rfl,trivial⟩,rfl⟩,(by repeat' (first|exact trivial|refine cM ⟨_,rfl,?_⟩ ?_|refine cM ⟨_,rfl⟩ ?_|rfl|exact bV _ _ _ _|exact bW _ _ _ _|exact bX rfl)),rfl,rfl⟩
theorem find0 (i k:Nat) (cad:Option Addr) (cc:Nat) (hin:CompsIn X cad (onlyC t.sc.cs t.set)) (hi:i<t.l.length) (hp:placeT t.set comp=some k):
    MSpec Tryz.prog X 50 [Lp 1000000,Ln .i64 (i:Nat),Ln .i64 comp] [tS 1000000 t (vS ad t.l.length cap) (.slice cad (onlyC t.sc.cs t.set).length cc) vP] (.tup [Sn .i64 (k:Nat),Sn .i64 0]) [tS 1000000 t (vS ad t.l.length cap) (.slice cad (onlyC t.sc.cs t.set).length cc) vP]:=by
  refine cD Tryz.func50 rfl (by kernel_rfl) rfl rfl (by exact (by repeat' (first|refine bR ?_ ?_|rfl|exact bT|exact bS|exact bU rfl))) rfl rfl ?_
  intro C
  have hs:=seek0 X t ad t.l.length cap (.slice cad (onlyC t.sc.cs t.set).length cc) vP i hi
  have hh:=gHas X t.set hk.set.1 comp
  rw [t_has,hp] at hh
  have hpl:=place0 X t (.slice ad t.l.length cap) vP (onlyC t.sc.cs t.set) cad cc comp hin (by have:=t_len24 hk;omega)
  rw [t_place hk,hp] at hpl
  generalize (onlyC t.sc.cs t.set).length=nc at *
  (refine aA<|rgN<|kas O<|kas O<|aB<|aA<|aA<|rgN<|kmv O<|kmv O<|K.callR [(1000000,1000000)] (hs) O O (by exact (cM ⟨_,O,O⟩ trivial)) (by exact (bR (bR O (bR O (bR O (bR O (bR O (bR O (bR O O))))))) O)) O O O O dN<|kas O<|aB<|aA ?_;refine rgN<|kmv O<|kne O O ((cO (by omega)))<|aB<|aE O ?_;refine aG ?_;refine aA<|aA<|rgN<|kmv O<|bH O dN<|kfa O O ?_;refine kl1 O O O<|kmv O<|kca O O hh<|aU O O dN<|aB<|aE O ?_;refine aG ?_;refine aA<|rgN<|kmv O<|kmv O<|K.callR [(1000000,1000000)] (hpl) O O (by exact (cM ⟨_,O,O⟩ trivial)) (by exact (bR (bR O (bR O (bR O (bR O (bR O (bR O (bR O O))))))) O)) O O O O dN<|kas O<|kas O<|aB<|aH ?_)
  exact ⟨[],⟨[_,_],⟨rfl,rfl,trivial⟩,rfl⟩,(by repeat' (first|exact trivial|refine cM ⟨_,rfl,?_⟩ ?_|refine cM ⟨_,rfl⟩ ?_|rfl|exact bV _ _ _ _|exact bW _ _ _ _|exact bX rfl)),rfl,rfl⟩
end
theorem nsV_nms (zs:List Int):nsV zs=nmsV (zs.map qn):=by unfold nsV nmsV;rw [List.map_map];rfl
set_option maxHeartbeats 3200000 in
theorem value0 (t:Tb) (v:Value) (cs:List Cp) (cad:Option Addr) (cc:Nat) (vP:Value) (ps:List Nat) (i k b z q:Nat) (L:List (List UInt8)) (c:Cp) (ns:List (Bool×Int)) (hin:CompsIn X cad cs) (hP:PtrsIn X vP ps) (hb:ps[k]? = some b) (hc:cs[k]? = some c) (hL:L[i]? = some (packB c.fs ns)) (hf:fitErr c.fs ns=0) (h2:∀ u∈ns,In2 u.2) (h8:c.fs.length≤8) (hbig:cs.length≤24):
    MSpec Tryz.prog X 51 [Lp 1000000,Ln .i64 (i:Nat),Ln .i64 (k:Nat)] [tS 1000000 t (.val v) (.slice cad cs.length cc) vP,atB 1000001 b z q L] (.tup [.one (.slc 1000002 0 ns.length 3),Sn .i64 0]) [tS 1000000 t (.val v) (.slice cad cs.length cc) vP,atB 1000001 b z q L,nmsB 1000002 ns true]:=by
  obtain ⟨pad,pcap,rfl,hP⟩:=hP
  have hkl:=(List.getElem?_eq_some_iff.1 hb).1
  have hkc:=(List.getElem?_eq_some_iff.1 hc).1
  obtain ⟨pblk,parr,pel,pfr,rfl,hPX,hPa⟩:=hP k b hb
  obtain ⟨blk,off,arr,el,fr,fad,fcap,rfl,hX,hsz,hcs,_,_,g3,hF⟩:=hin.get hc
  have hg:=(cGet_ok X z q L i _ hL).at (b:=b)
  obtain ⟨hu1,hu2⟩:=pack_back h2 hf
  have hU:=lUnpack_ok X fad fcap c.fs (packB c.fs ns) hF (by omega) hu1
  have hlen:(unpZ c.fs (packB c.fs ns)).length=ns.length:=by rw [← cT (f:=qn),hu2]
  rw [hlen,nsV_nms,hu2] at hU
  generalize packB c.fs ns=B at *
  refine cD Tryz.func51 rfl (by kernel_rfl) rfl rfl (by exact (by repeat' (first|refine bR ?_ ?_|rfl|exact bT|exact bS|exact bU rfl))) rfl rfl ?_
  intro C
  have hio:0+Int.toNat (k:Int)*1=k:=by simp
  have hio2:off+Int.toNat (k:Int)*3=off+k*3:=by simp
  refine LWP.ends ?_
  (refine aA<|rgN<|kas O<|kas O<|aB<|aA<|rgN<|kmv O<|bH O dN<|kfa O O ?_;refine kl1 O O O<|kmv O<|aQ O O bY (by omega) hio dN<|aV O hPX O hPa dN<|kmv O<|K.callR [(1000000,1000001)] (hg) O O (by exact (cM ⟨_,O,O⟩ trivial)) (by exact (bR O O)) O O O O dN<|kmv O<|kex O O<|kex O O<|kas O<|kas O<|aB<|aA<|aA ?_;refine rgN<|kmv O<|kne O O ((cO (by omega)))<|aB<|aE O ?_;refine aG ?_;refine aA<|rgN<|kmv O<|bH O dN<|kfa O O ?_;refine kfa O O ?_;refine kl1 O O O<|kmv O<|aQ O O bY (by omega) hio2 dN<|bG O O dN ?_;refine aV O hX O g3 dN<|kmv O<|bD [(1000001,601)] (.tup [.one (.slc 601 0 ns.length 3),Sn .i64 0]) [(601,some ⟨82,(nmsV ns).map .val,false⟩)] (hU) O O (by exact trivial) O O O O O (by exact (.box O (bW _ _ _ _) .nil)) dN<|kex O O<|kex O O<|kas O<|kas O<|aB<|aH ?_)
  refine cA (σ':=⟨[(6,.sv (.one (.slc 601 0 ns.length 3))),(7,Ln .i64 0)],[nmsB 601 ns false,tS 1000000 t (.val v) (.slice (some ⟨blk,off,none⟩) cs.length cc) (.slice (some ⟨pblk,0,none⟩) ps.length pcap),atB 1000001 b z q L],X⟩) (Le.of (by exact ⟨O,O,trivial⟩) (by exact ⟨O,O,O,trivial⟩) (by exact O) (by exact O) (by repeat' (first|refine bR ?_ ?_|rfl|exact bT|exact bS|exact bU O))) ?_
  refine cA Le.loose (bZ ?_)
  exact ⟨[(1000002,601)],⟨[_,_],⟨rfl,rfl,trivial⟩,rfl⟩,(by repeat' (first|exact trivial|refine cM ⟨_,rfl,?_⟩ ?_|refine cM ⟨_,rfl⟩ ?_|rfl|exact bV _ _ _ _|exact bW _ _ _ _|exact bX rfl)),rfl,rfl⟩
theorem tGet_no (t:Tb) (hk:TbOk t) (row comp:Int) (h:tgetE t row comp≠0):MSpec Tryz.prog X 12 [Lp 1000000,Ln .i64 row,Ln .i64 comp] [tB 1000000 t] (.tup [Vnil,Sn .i64 (tgetE t row comp)]) [tB 1000000 t]:=by
  refine cD Tryz.func12 rfl (by kernel_rfl) rfl rfl (by exact (by repeat' (first|refine bR ?_ ?_|rfl|exact bT|exact bS|exact bU rfl))) rfl rfl ?_
  intro C
  refine LWP.ends (tab_open fun Hs He Hr vE vC vP ps h1 h2 h3 hI => ?_)
  obtain ⟨ad,cap,rfl⟩:=hI.ents.slice
  rw [cT] at hI ⊢
  have hs:=find0_no (tH X Hs He Hr) t hk ad cap vP row comp vC h
  have hsm:=tget_small t row comp
  generalize tgetE t row comp=e at *
  (refine aA<|rgN<|kas O<|kas O<|aB<|aA<|rgN<|kmv O<|kmv O<|kmv O<|K.callR [(1000000,1000000)] (hs) O O (by exact (cM ⟨_,O,O⟩ trivial)) (by exact (bR (bR O (bR O (bR O (bR O (bR O (bR O (bR O O))))))) O)) O O O O dN<|kmv O<|kex O O<|kex O O ?_;refine kas O<|kas O<|aB<|aA<|aA<|rgN<|kmv O<|kne O O (r:=true) (cP h)<|aB<|aD O ?_;refine aA<|rgN<|kmv O<|kas O<|kas O<|aB<|aH ?_)
  refine tab_shut h1 h2 h3 hI (bZ ?_)
  exact ⟨[],⟨[_,_],⟨rfl,rfl,trivial⟩,rfl⟩,(by repeat' (first|exact trivial|refine cM ⟨_,rfl,?_⟩ ?_|refine cM ⟨_,rfl⟩ ?_|rfl|exact bV _ _ _ _|exact bW _ _ _ _|exact bX rfl)),rfl,rfl⟩
theorem tget_ok {t:Tb} (hk:TbOk t) {row comp:Int} (h:tgetE t row comp=0):∃ (i k:Nat) (c:Cp) (r:Rw) (p:Pt),row=i∧i<t.l.length∧placeT t.set comp=some k∧(onlyC t.sc.cs t.set)[k]? = some c∧c.id=comp∧t.l[i]? = some r∧r.p[k]? = some p∧fitErr c.fs p.val=0∧(colL t.l k c)[i]? = some (packB c.fs p.val)∧getV t row comp=p.val∧bytesT t row comp=packB c.fs p.val:=by
  unfold tgetE at h
  by_cases hr:rowB t row=true
  case neg=>rw [if_neg hr] at h;cases h
  rw [if_pos hr] at h
  unfold rowB at hr
  rw [Bool.and_eq_true,decide_eq_true_iff,decide_eq_true_iff] at hr
  obtain ⟨i,rfl⟩:∃ i:Nat,row=i:=⟨row.toNat,by omega⟩
  cases hp:placeT t.set comp with
  | none=>rw [hp] at h;cases h
  | some k =>
    obtain ⟨c,hc,hid,hfs,_⟩:=t_at hk hp
    obtain ⟨r,hr'⟩:∃ r,t.l[i]? = some r:=⟨_,cU (by omega)⟩
    obtain ⟨p,hp1,_,hp3,hp4⟩:=t_row hk hc hr'
    have hv:getV t (i:Nat) comp=p.val:=by unfold getV valT;rw [hp];simp only [dC,hr',hp1]
    exact ⟨i,k,c,r,p,rfl,by omega,rfl,hc,hid,hr',hp1,hp3,hp4,hv,by unfold bytesT;rw [hfs,hv]⟩
set_option maxHeartbeats 3200000 in
theorem tGetM (t:Tb) (hk:TbOk t) (row comp:Int) (h:tgetE t row comp=0):MSpec Tryz.prog X 12 [Lp 1000000,Ln .i64 row,Ln .i64 comp] [tB 1000000 t] (.tup [.one (.slc 1000001 0 (getV t row comp).length 3),Sn .i64 0]) [tB 1000000 t,nmsB 1000001 (getV t row comp) true]:=by
  obtain ⟨i,k,c,r,p,rfl,hi,hp,hc,_,hr,hp1,hf,hL,hv,_⟩:=tget_ok hk h
  rw [hv]
  have hsz:=t_size hk hc
  have h24:=t_len24 hk
  refine cD Tryz.func12 rfl (by kernel_rfl) rfl rfl (by exact (by repeat' (first|refine bR ?_ ?_|rfl|exact bT|exact bS|exact bU rfl))) rfl rfl ?_
  intro C
  refine LWP.ends (tab_open fun Hs He Hr vE vC vP ps h1 h2 h3 hI => ?_)
  obtain ⟨ad,cap,rfl⟩:=hI.ents.slice
  obtain ⟨cb,cc,rfl,hin⟩:=hI.sc
  rw [cT] at hI ⊢
  have hs:=find0 (tH X Hs He Hr) t hk ad cap vP comp i k (some ⟨cb,0,none⟩) cc (hin.mono (tH_s h2 h3)) hi hp
  (refine aA<|rgN<|kas O<|kas O<|aB<|aA<|rgN<|kmv O<|kmv O<|kmv O<|K.callR [(1000000,1000000)] (hs) O O (by exact (cM ⟨_,O,O⟩ trivial)) (by exact (bR (bR O (bR O (bR O (bR O (bR O (bR O (bR O O))))))) O)) O O O O dN<|kmv O<|kex O O<|kex O O ?_;refine kas O<|kas O<|aB<|aA<|aA<|rgN<|kmv O<|kne O O ((cO (by omega)))<|aB<|aE O ?_;refine aG ?_;refine aA ?_)
  refine LWP.le (σ':=⟨[(0,Lp 1000000),(1,Ln .i64 (i:Nat)),(8,Ln .i64 (k:Nat))],[tS 1000000 t (vS ad t.l.length cap) (.slice (some ⟨cb,0,none⟩) (onlyC t.sc.cs t.set).length cc) vP],tH X Hs He Hr⟩) (Le.of (by exact ⟨O,O,O,trivial⟩) (by exact ⟨O,trivial⟩) (by exact O) (by exact O) (by repeat' (first|refine bR ?_ ?_|rfl|exact bT|exact bS|exact bU O))) ?_
  refine tcol_open (kk:=501) h3 hI.refs (colsG_at hc) O O O (by omega) fun b H0 hb hO0 hback => ?_
  have hq:=value0 (joinM (joinM (joinM X Hs) He) H0) t (.slice ad t.l.length cap) (onlyC t.sc.cs t.set) (some ⟨cb,0,none⟩) cc vP ps i k b (rowSize c.fs) t.most (colL t.l k c) c p.val (hin.mono (tH_s h2 hO0)) (hI.ptrs.mono (tH_s h2 hO0)) hb hc hL hf (hI.two r (cZ hr) p (cZ hp1)) hsz.1 h24
  have hcol:=colR_root (rowSize c.fs) t.most (colL t.l k c)
  have hset:(colsT t).set k (colR (rowSize c.fs) t.most (colL t.l k c))=colsT t:=colsG_set hc fun _ _ _ _=>rfl
  generalize p.val=N at *
  (refine rgN<|kmv O<|kmv O<|kmv O<|bD [(1000000,1000000),(1000001,501),(1000002,601)] (.tup [.one (.slc 601 0 N.length 3),Sn .i64 0]) [tS 1000000 t (vS ad t.l.length cap) (.slice (some ⟨cb,0,none⟩) (onlyC t.sc.cs t.set).length cc) vP,atB 501 b (rowSize c.fs) t.most (colL t.l k c),nmsB 601 N true] (hq) O O (by exact (cM ⟨_,O,O⟩ (cM ⟨_,O,O⟩ trivial))) (by exact (bR (bR O (bR O (bR O (bR O (bR O (bR O (bR O O))))))) (bR O O))) O O O O (by exact (.box O O (.box O O (.box O (bW _ _ _ _) .nil)))) dN<|kex O O<|kex O O<|kas O<|kas O<|aB<|aH ?_)
  refine cA (σ':=⟨[(6,.sv (.one (.slc 601 0 N.length 3))),(7,Ln .i64 0)],[atB 501 b (rowSize c.fs) t.most (colL t.l k c),tS 1000000 t (vS ad t.l.length cap) (.slice (some ⟨cb,0,none⟩) (onlyC t.sc.cs t.set).length cc) vP,nmsB 601 N true],joinM (joinM (joinM X Hs) He) H0⟩) (Le.of (by exact ⟨O,O,trivial⟩) (by exact ⟨O,O,O,trivial⟩) (by exact O) (by exact O) (by repeat' (first|refine bR ?_ ?_|rfl|exact bT|exact bS|exact bU O))) ?_
  refine tcol_shut hO0 hcol O (by repeat' (first|refine bR ?_ ?_|rfl|exact bS)) O fun m' Hc' g1 g2 g3 g4 => ?_
  have hB:=hback _ m' Hc' g1 g2 g3
  rw [hset] at hB
  refine tab_shut h1 h2 g4 ⟨⟨cb,cc,O,hin⟩,hI.ptrs,hB,hI.ents,hI.two⟩ (bZ ?_)
  exact ⟨[(1000001,601)],⟨[_,_],⟨rfl,rfl,trivial⟩,rfl⟩,(by repeat' (first|exact trivial|refine cM ⟨_,rfl,?_⟩ ?_|refine cM ⟨_,rfl⟩ ?_|rfl|exact bV _ _ _ _|exact bW _ _ _ _|exact bX rfl)),rfl,rfl⟩
set_option maxHeartbeats 3200000 in
theorem tBytes (t:Tb) (hk:TbOk t) (row comp:Int) (h:tgetE t row comp=0):MSpec Tryz.prog X 14 [Lp 1000000,Ln .i64 row,Ln .i64 comp] [tB 1000000 t] (.tup [Vstr (bytesT t row comp),Sn .i64 0]) [tB 1000000 t]:=by
  obtain ⟨i,k,c,r,p,rfl,hi,hp,hc,_,hr,hp1,hf,hL,_,hv⟩:=tget_ok hk h
  rw [hv]
  have h24:=t_len24 hk
  refine cD Tryz.func14 rfl (by kernel_rfl) rfl rfl (by exact (by repeat' (first|refine bR ?_ ?_|rfl|exact bT|exact bS|exact bU rfl))) rfl rfl ?_
  intro C
  refine LWP.ends (tab_open fun Hs He Hr vE vC vP ps h1 h2 h3 hI => ?_)
  obtain ⟨ad,cap,rfl⟩:=hI.ents.slice
  obtain ⟨cb,cc,rfl,hin⟩:=hI.sc
  rw [cT] at hI ⊢
  have hs:=find0 (tH X Hs He Hr) t hk ad cap vP comp i k (some ⟨cb,0,none⟩) cc (hin.mono (tH_s h2 h3)) hi hp
  (refine aA<|rgN<|kas O<|kas O<|aB<|aA<|rgN<|kmv O<|kmv O<|kmv O<|K.callR [(1000000,1000000)] (hs) O O (by exact (cM ⟨_,O,O⟩ trivial)) (by exact (bR (bR O (bR O (bR O (bR O (bR O (bR O (bR O O))))))) O)) O O O O dN<|kmv O<|kex O O<|kex O O ?_;refine kas O<|kas O<|aB<|aA<|aA<|rgN<|kmv O<|kne O O ((cO (by omega)))<|aB<|aE O ?_;refine aG ?_;refine aA ?_)
  refine LWP.le (σ':=⟨[(0,Lp 1000000),(1,Ln .i64 (i:Nat)),(8,Ln .i64 (k:Nat))],[tS 1000000 t (vS ad t.l.length cap) (.slice (some ⟨cb,0,none⟩) (onlyC t.sc.cs t.set).length cc) vP],tH X Hs He Hr⟩) (Le.of (by exact ⟨O,O,O,trivial⟩) (by exact ⟨O,trivial⟩) (by exact O) (by exact O) (by repeat' (first|refine bR ?_ ?_|rfl|exact bT|exact bS|exact bU O))) ?_
  refine tcol_open (kk:=501) h3 hI.refs (colsG_at hc) O O O (by omega) fun b H0 hb hO0 hback => ?_
  have hg:=(cGet_ok (joinM (joinM (joinM X Hs) He) H0) (rowSize c.fs) t.most _ i _ hL).at (b:=b)
  have hcol:=colR_root (rowSize c.fs) t.most (colL t.l k c)
  have hset:(colsT t).set k (colR (rowSize c.fs) t.most (colL t.l k c))=colsT t:=colsG_set hc fun _ _ _ _=>rfl
  obtain ⟨pad,pcap,rfl,hP⟩:=hI.ptrs.mono (tH_s h2 hO0)
  have hkl:=(List.getElem?_eq_some_iff.1 hb).1
  obtain ⟨pblk,parr,pel,pfr,rfl,hPX,hPa⟩:=hP k b hb
  have hio:0+Int.toNat (k:Int)*1=k:=by simp
  generalize packB c.fs p.val=B at *
  (refine rgN<|kmv O<|bH O dN<|kfa O O ?_;refine kl1 O O O<|kmv O<|aQ O O bY (by omega) hio dN<|aV O hPX O hPa dN<|kmv O<|K.callR [(1000000,501)] (hg) O O (by exact (cM ⟨_,O,O⟩ trivial)) (by exact (bR O O)) O O O O dN<|kex O O<|kex O O<|kas O<|kas O<|aB<|aH ?_)
  refine cA (σ':=⟨[(6,.sv (Vstr B)),(7,Ln .i64 0)],[atB 501 b (rowSize c.fs) t.most (colL t.l k c),tS 1000000 t (vS ad t.l.length cap) (.slice (some ⟨cb,0,none⟩) (onlyC t.sc.cs t.set).length cc) (.slice (some ⟨pblk,0,none⟩) ps.length pcap)],joinM (joinM (joinM X Hs) He) H0⟩) (Le.of (by exact ⟨O,O,trivial⟩) (by exact ⟨O,O,trivial⟩) (by exact O) (by exact O) (by repeat' (first|refine bR ?_ ?_|rfl|exact bT|exact bS|exact bU O))) ?_
  refine tcol_shut hO0 hcol O O O fun m' Hc' g1 g2 g3 g4 => ?_
  have hB:=hback _ m' Hc' g1 g2 g3
  rw [hset] at hB
  refine tab_shut h1 h2 g4 ⟨⟨cb,cc,O,hin⟩,hI.ptrs,hB,hI.ents,hI.two⟩ (bZ ?_)
  exact ⟨[],⟨[_,_],⟨rfl,rfl,trivial⟩,rfl⟩,(by repeat' (first|exact trivial|refine cM ⟨_,rfl,?_⟩ ?_|refine cM ⟨_,rfl⟩ ?_|rfl|exact bV _ _ _ _|exact bW _ _ _ _|exact bX rfl)),rfl,rfl⟩
end Go.Proofs.YtbpdbclndfmcgaaGreatDoor
end
section
namespace Go.Proofs.YtbpdbclndfmcgaaGreatDoor
open Go Go.Lg Go.Lg.Fld Go.Lg.Sg Go.Lg.Col
set_option maxRecDepth 100000
abbrev entsT (t:Tb):List Nat:=t.l.map Rw.e
abbrev enB (k:Nat) (L:List Nat):Nat×Option Box:=(k,some ⟨37,(L.map fun h=>Value.int .u64 (h:Nat)).map .val,true⟩)
theorem EntsAt.at {H:Nat→Option Obj} {v:Value} {l:List Nat} (h:EntsAt H v l) {i e:Nat} (hi:l[i]? = some e):∃ (db cap:Nat) (arr:Array Value) (fr:Nat×Nat),v = .slice (some ⟨db,0,none⟩) l.length cap∧H db=some (.cells arr 37 fr)∧arr[i]? = some (.int .u64 (e:Nat)):=by
  rcases h with ⟨_,rfl⟩|⟨db,len,cap,arr,fr,rfl,h2,_,_,h5,sp,h6⟩
  · simp at hi
  · have hl:len=l.length:=by unfold entV at h2;rw [cT] at h2;omega
    refine ⟨db,cap,arr,fr,by rw [hl],h5,?_⟩
    rw [← Array.getElem?_toList,h6,dM (by unfold entV;rw [cT];exact (List.getElem?_eq_some_iff.1 hi).1)]
    unfold entV
    rw [dH,hi];rfl
variable (X:Nat→Option Obj)
theorem tKept (t:Tb) (hk:TbOk t):MSpec Tryz.prog X 19 [Lp 1000000] [tB 1000000 t] (Ln .i64 (t.kept:Nat)) [tB 1000000 t]:=by
  have hk1:=hk.most
  refine cD Tryz.func19 rfl (by kernel_rfl) rfl rfl (by exact (by repeat' (first|refine bR ?_ ?_|rfl|exact bT|exact bS|exact bU rfl))) rfl rfl ?_
  intro C
  refine LWP.ends (tab_open fun Hs He Hr vE vC vP ps h1 h2 h3 hI => ?_)
  (refine aA<|rgN<|kas O<|aB<|aA<|aA<|rgN<|kmv O<|K.ptrNil O (by kernel_rfl) (.inl ⟨O,O⟩) dN<|aB<|aE O ?_;refine aG ?_;refine aA<|rgN<|kmv O<|bH O dN<|kfa O O ?_;refine kl1 O O O<|kas O<|aB<|aH ?_)
  refine tab_shut h1 h2 h3 hI (bZ ?_)
  exact ⟨[],⟨[_],⟨rfl,trivial⟩,rfl⟩,(by repeat' (first|exact trivial|refine cM ⟨_,rfl,?_⟩ ?_|refine cM ⟨_,rfl⟩ ?_|rfl|exact bV _ _ _ _|exact bW _ _ _ _|exact bX rfl)),rfl,rfl⟩
theorem tLen (t:Tb) (hk:TbOk t):MSpec Tryz.prog X 18 [Lp 1000000] [tB 1000000 t] (Ln .i64 (t.l.length:Nat)) [tB 1000000 t]:=by
  have hk1:=hk.most
  refine cD Tryz.func18 rfl (by kernel_rfl) rfl rfl (by exact (by repeat' (first|refine bR ?_ ?_|rfl|exact bT|exact bS|exact bU rfl))) rfl rfl ?_
  intro C
  refine LWP.ends (tab_open fun Hs He Hr vE vC vP ps h1 h2 h3 hI => ?_)
  obtain ⟨ad,cap,rfl⟩:=hI.ents.slice
  rw [cT] at *
  (refine aA<|rgN<|kas O<|aB<|aA<|aA<|rgN<|kmv O<|K.ptrNil O (by kernel_rfl) (.inl ⟨O,O⟩) dN<|aB<|aE O ?_;refine aG ?_;refine aA<|rgN<|kmv O<|bH O dN<|kfa O O ?_;refine kl1 O O O<|aP O bY O dN ?_;refine kas O<|aB<|aH ?_)
  refine tab_shut h1 h2 h3 hI (bZ ?_)
  exact ⟨[],⟨[_],⟨rfl,trivial⟩,rfl⟩,(by repeat' (first|exact trivial|refine cM ⟨_,rfl,?_⟩ ?_|refine cM ⟨_,rfl⟩ ?_|rfl|exact bV _ _ _ _|exact bW _ _ _ _|exact bX rfl)),rfl,rfl⟩
theorem tRoom (t:Tb) (hk:TbOk t):MSpec Tryz.prog X 20 [Lp 1000000] [tB 1000000 t] (Ln .i64 (roomT t:Nat)) [tB 1000000 t]:=by
  have hk1:=hk.most
  refine cD Tryz.func20 rfl (by kernel_rfl) rfl rfl (by exact (by repeat' (first|refine bR ?_ ?_|rfl|exact bT|exact bS|exact bU rfl))) rfl rfl ?_
  intro C
  refine LWP.ends (tab_open fun Hs He Hr vE vC vP ps h1 h2 h3 hI => ?_)
  obtain ⟨ad,cap,rfl⟩:=hI.ents.slice
  rw [cT] at *
  have h0:=len0 (tH X Hs He Hr) t ad t.l.length cap vC vP
  have hr:=hk.room
  have h4:IntKind.i64.wrap (((t.most:Nat):Int)-(t.l.length:Nat))=((t.most-t.l.length:Nat):Int):=by rw [cE (by omega)];omega
  have h5:IntKind.i64.wrap (((t.most-t.l.length:Nat):Int)-(t.kept:Nat))=((roomT t:Nat):Int):=by unfold roomT;rw [cE (by omega)];omega
  generalize roomT t=rm at *
  (refine aA<|rgN<|kas O<|aB<|aA<|aA<|rgN<|kmv O<|K.ptrNil O (by kernel_rfl) (.inl ⟨O,O⟩) dN<|aB<|aE O ?_;refine aG ?_;refine aA<|rgD mixed<|kmv O<|bH O dN<|kfa O O ?_;refine kl1 O O O<|kmv O<|K.callR [(1000000,1000000)] (h0) O O (by exact (cM ⟨_,O,O⟩ trivial)) (by exact (bR (bR O (bR O (bR O (bR O (bR O (bR O (bR O O))))))) O)) O O O O dN<|aZ O O h4 dN<|kmv O<|bH O dN<|kfa O O ?_;refine kl1 O O O<|aZ O O h5 dN<|kas O<|aB<|rgA ?_;refine aH ?_)
  refine tab_shut h1 h2 h3 hI (bZ ?_)
  exact ⟨[],⟨[_],⟨rfl,trivial⟩,rfl⟩,(by repeat' (first|exact trivial|refine cM ⟨_,rfl,?_⟩ ?_|refine cM ⟨_,rfl⟩ ?_|rfl|exact bV _ _ _ _|exact bW _ _ _ _|exact bX rfl)),rfl,rfl⟩
theorem tKeep (t:Tb) (hk:TbOk t) (h:roomT t≠0):MSpec Tryz.prog X 16 [Lp 1000000] [tB 1000000 t] (Ln .i64 0) [tB 1000000 { t with kept:=t.kept+1 }]:=by
  have hr:=hk.room
  have hm:=hk.most
  have hadd:IntKind.i64.wrap (((t.kept:Nat):Int)+1)=((t.kept+1:Nat):Int):=by rw [cE (by omega)];omega
  refine cD Tryz.func16 rfl (by kernel_rfl) rfl rfl (by exact (by repeat' (first|refine bR ?_ ?_|rfl|exact bT|exact bS|exact bU rfl))) rfl rfl ?_
  intro C
  refine LWP.ends (tab_open fun Hs He Hr vE vC vP ps h1 h2 h3 hI => ?_)
  obtain ⟨ad,cap,rfl⟩:=hI.ents.slice
  rw [cT] at *
  have h0:=room0 (tH X Hs He Hr) t ad t.l.length cap vC vP hk.room hk.most.2
  rw [show t.most-t.l.length-t.kept=roomT t from rfl] at h0
  (refine aA<|rgN<|kas O<|aB<|aA<|aF<|aA<|rgN<|kmv O<|K.ptrNil O (by kernel_rfl) (.inl ⟨O,O⟩) dN<|kas O<|aB<|aE O ?_;refine aA<|rgN<|kmv O<|K.callR [(1000000,1000000)] (h0) O O (by exact (cM ⟨_,O,O⟩ trivial)) (by exact (bR (bR O (bR O (bR O (bR O (bR O (bR O (bR O O))))))) O)) O O O O dN<|keq O O (r:=false) (cN (by omega))<|kas O<|aB<|aE O ?_;refine aG ?_;refine aA<|rgN<|kmv O<|bH O dN<|kfa O O ?_;refine kl1 O O O<|kad O O hadd<|bH O dN<|kfa O O ?_;refine bF O O O O O (nl7 O O O O O O O O) dN<|aB<|aA<|rgN<|kas O<|aB<|aH ?_)
  refine tab_shut (t:={ t with kept:=t.kept+1 }) h1 h2 h3 ⟨hI.sc,hI.ptrs,hI.refs,hI.ents,hI.two⟩ (bZ ?_)
  exact ⟨[],⟨[_],⟨rfl,trivial⟩,rfl⟩,(by repeat' (first|exact trivial|refine cM ⟨_,rfl,?_⟩ ?_|refine cM ⟨_,rfl⟩ ?_|rfl|exact bV _ _ _ _|exact bW _ _ _ _|exact bX rfl)),rfl,rfl⟩
theorem ent0 (t:Tb) (v vC vP:Value) (L:List Nat) (row:Int) (hE:EntsAt X v L) (hb:L.length≤256):
    MSpec Tryz.prog X 22 [Lp 1000000,Ln .i64 row] [tS 1000000 t (.val v) vC vP] (Ln .u64 ((if 0≤row∧row<L.length then L.getD row.toNat 0 else 0:Nat):Nat)) [tS 1000000 t (.val v) vC vP]:=by
  refine cD Tryz.func22 rfl (by kernel_rfl) rfl rfl (by exact (by repeat' (first|refine bR ?_ ?_|rfl|exact bT|exact bS|exact bU rfl))) rfl rfl ?_
  intro C
  by_cases hr:0≤row∧row<L.length
  · rw [if_pos hr]
    obtain ⟨i,rfl⟩:∃ i:Nat,row=i:=⟨row.toNat,by omega⟩
    have hi:i<L.length:=by omega
    have hx:L[i]? = some (L.getD i 0):=by rw [List.getD_eq_getElem?_getD,cU hi];rfl
    rw [dC]
    obtain ⟨db,cap,arr,fr,rfl,hX,ha⟩:=hE.at hx
    have hs:=seek0 X t (some ⟨db,0,none⟩) L.length cap vC vP i hi
    have hio:0+Int.toNat (i:Int)*1=i:=by simp
    generalize L.getD i 0=e at *
    (refine aA<|rgN<|kas O<|aB<|aA<|aA<|rgN<|kmv O<|kmv O<|K.callR [(1000000,1000000)] (hs) O O (by exact (cM ⟨_,O,O⟩ trivial)) (by exact (bR (bR O (bR O (bR O (bR O (bR O (bR O (bR O O))))))) O)) O O O O dN<|kne O O ((cO (by omega)))<|aB<|aE O ?_;refine aG ?_;refine aA<|rgN<|kmv O<|bH O dN<|kfa O O ?_;refine kl1 O O O<|kmv O<|aQ O O bY (by omega) hio dN<|aV O hX O ha dN<|kas O<|aB<|aH ?_)
    exact ⟨[],⟨[_],⟨rfl,trivial⟩,rfl⟩,(by repeat' (first|exact trivial|refine cM ⟨_,rfl,?_⟩ ?_|refine cM ⟨_,rfl⟩ ?_|rfl|exact bV _ _ _ _|exact bW _ _ _ _|exact bX rfl)),rfl,rfl⟩
  · rw [if_neg hr]
    obtain ⟨ad,cap,rfl⟩:=hE.slice
    have hs:=seek0_no X t ad L.length cap vC vP row (by omega)
    (refine aA<|rgN<|kas O<|aB<|aA<|aA<|rgN<|kmv O<|kmv O<|K.callR [(1000000,1000000)] (hs) O O (by exact (cM ⟨_,O,O⟩ trivial)) (by exact (bR (bR O (bR O (bR O (bR O (bR O (bR O (bR O O))))))) O)) O O O O dN<|kne O O (cP (by omega))<|aB<|aD O ?_;refine aA<|rgN<|kas O<|aB<|aH ?_)
    exact ⟨[],⟨[_],⟨rfl,trivial⟩,rfl⟩,(by repeat' (first|exact trivial|refine cM ⟨_,rfl,?_⟩ ?_|refine cM ⟨_,rfl⟩ ?_|rfl|exact bV _ _ _ _|exact bW _ _ _ _|exact bX rfl)),rfl,rfl⟩
theorem EntsAt.mono {H Y:Nat→Option Obj} {v:Value} {l:List Nat} (h:EntsAt H v l) (hY:∀ b o,H b=some o→Y b=some o):EntsAt Y v l:=by
  rcases h with h|⟨db,len,cap,arr,fr,g1,g2,g3,g4,g5,g6⟩
  · exact .inl h
  · exact .inr ⟨db,len,cap,arr,fr,g1,g2,g3,g4,hY _ _ g5,g6⟩
theorem entV_reads {Y H:Nat→Option Obj} {v:Value} {l:List Nat} (h:EntsAt H v l) (hne:v≠nilSlc) (hY:∀ b o,H b=some o→Y b=some o):∃ db cap,v = .slice (some ⟨db,0,none⟩) l.length cap∧ReadsX Y (some ⟨db,0,none⟩) (entV l):=by
  rcases h with ⟨h,_⟩|⟨db,len,cap,arr,fr,rfl,g2,_,_,g5,sp,g6⟩
  · exact absurd h hne
  · have hl:len=l.length:=by unfold entV at g2;rw [cT] at g2;omega
    exact ⟨db,cap,by rw [hl],⟨fun i u hu=>⟨db,0,arr,_,fr,rfl,hY _ _ g5,by rw [← Array.getElem?_toList,g6,Nat.zero_add,dM (List.getElem?_eq_some_iff.1 hu).1];exact hu⟩⟩⟩
theorem entV_one (l:List Nat):∀ u∈entV l,u.oneCell'=true:=fun u hu=>by
  unfold entV at hu
  obtain ⟨x,_,rfl⟩:=List.mem_map.1 hu
  rfl
theorem kClEn_nil (cap:Nat):PSpec Tryz.prog X 54 [.sv (.one (vS none 0 cap))] (.sv (.one (.val nilSlc))):=by
  refine cC Tryz.func54 rfl (by kernel_rfl) rfl rfl ?_
  intro C
  (refine aA<|rgN<|kas O<|aB<|aA<|aA<|rgN<|kmv O<|K.slcNil (r:=true) O bY (.inl ⟨O,O⟩) dN ?_;refine aB<|aD O ?_;refine aA<|rgN<|kas O<|aB<|aH ?_)
  exact ⟨[_],⟨O,trivial⟩,O⟩
theorem kClEn (db cap:Nat) (l:List Nat) (hR:ReadsX X (some ⟨db,0,none⟩) (entV l)) (hb:l.length≤256):
    MSpec Tryz.prog X 54 [.sv (.one (vS (some ⟨db,0,none⟩) l.length cap))] [] (.sv (.one (.slc 1000001 0 l.length 1))) [enB 1000001 l]:=by
  have hlen:(entV l).length=l.length*1:=by unfold entV;rw [cT];omega
  refine cD Tryz.func54 rfl (by kernel_rfl) rfl rfl (by exact (by repeat' (first|refine bR ?_ ?_|rfl|exact bT|exact bS|exact bU rfl))) rfl rfl ?_
  intro C
  (refine aA<|rgN<|kas O<|aB<|aA<|aA<|rgN<|kmv O<|K.slcNil (r:=false) O bY (.inl ⟨O,O⟩) dN ?_;refine aB<|aE O ?_;refine aG ?_;refine aA<|rgN<|aY (zs:=[]) (sz:=1) (e:=37) (by kernel_rfl) O O O O O O dN<|kmv O<|K.appendX (by_:=8) (e2:=37) (news:=entV l) (nl:=l.length) (nc:=(entV l).map .val) O O O O hR hlen (entV_one l) (by kernel_rfl) (by kernel_rfl) (by omega) (by omega) O (by omega) O dN ?_;refine kas O<|aB<|aH ?_)
  exact ⟨[(1000001,7)],⟨[_],⟨rfl,trivial⟩,rfl⟩,(by repeat' (first|exact trivial|refine cM ⟨_,rfl,?_⟩ ?_|refine cM ⟨_,rfl⟩ ?_|rfl|exact bV _ _ _ _|exact bW _ _ _ _|exact bX rfl)),rfl,rfl⟩
theorem tEnts_none (t:Tb) (hk:TbOk t):MSpec Tryz.prog X 21 [Lp 1000000] [tM 1000000 false t] (.sv (.one (.val (.slice none 0 0)))) [tM 1000000 false t]:=by
  have _:=hk
  refine cD Tryz.func21 rfl (by kernel_rfl) rfl rfl (by exact (by repeat' (first|refine bR ?_ ?_|rfl|exact bT|exact bS|exact bU rfl))) rfl rfl ?_
  intro C
  refine LWP.ends (tabM_open fun Hs He Hr vE vC vP ps h1 h2 h3 hI hm => ?_)
  obtain rfl:vE=nilSlc:=Classical.byContradiction fun e=>by have:=hm.2 e;cases this
  have hC:=kClEn_nil (tH X Hs He Hr) 0
  unfold nilSlc at *
  (refine aA<|rgN<|kas O<|aB<|aA<|aA<|rgN<|kmv O<|K.ptrNil O (by kernel_rfl) (.inl ⟨O,O⟩) dN<|aB<|aE O ?_;refine aG ?_;refine aA<|rgN<|kmv O<|bH O dN<|kfa O O ?_;refine kl1 O O O<|kca O O hC<|kas O<|aB<|aH ?_)
  refine tabM_shut h1 h2 h3 hI hm (bZ ?_)
  exact ⟨[],⟨[_],⟨rfl,trivial⟩,rfl⟩,(by repeat' (first|exact trivial|refine cM ⟨_,rfl,?_⟩ ?_|refine cM ⟨_,rfl⟩ ?_|rfl|exact bV _ _ _ _|exact bW _ _ _ _|exact bX rfl)),rfl,rfl⟩
theorem tEnts (t:Tb) (hk:TbOk t):MSpec Tryz.prog X 21 [Lp 1000000] [tM 1000000 true t] (.sv (.one (.slc 1000001 0 t.l.length 1))) [tM 1000000 true t,enB 1000001 (entsT t)]:=by
  have hr:=hk.room
  have hmo:=hk.most
  refine cD Tryz.func21 rfl (by kernel_rfl) rfl rfl (by exact (by repeat' (first|refine bR ?_ ?_|rfl|exact bT|exact bS|exact bU rfl))) rfl rfl ?_
  intro C
  refine LWP.ends (tabM_open fun Hs He Hr vE vC vP ps h1 h2 h3 hI hm => ?_)
  obtain ⟨db,cap,rfl,hR⟩:=entV_reads (Y:=tH X Hs He Hr) hI.ents (hm.1 rfl) (tH_e h3)
  have hC:=kClEn (tH X Hs He Hr) db cap (t.l.map Rw.e) hR (by rw [cT];omega)
  have hll:(t.l.map Rw.e).length=t.l.length:=cT _
  rw [← hll]
  show LWP _ _ _ _ _ _
  unfold entsT
  generalize t.l.map Rw.e=l at *
  (refine aA<|rgN<|kas O<|aB<|aA<|aA<|rgN<|kmv O<|K.ptrNil O (by kernel_rfl) (.inl ⟨O,O⟩) dN<|aB<|aE O ?_;refine aG ?_;refine aA<|rgN<|kmv O<|bH O dN<|kfa O O ?_;refine kl1 O O O<|bD [(1000001,601)] (.sv (.one (.slc 601 0 l.length 1))) [enB 601 l] (hC) O O (by exact trivial) O O O O O (by exact (.box O (bW _ _ _ _) .nil)) dN<|kas O<|aB<|aH ?_)
  refine cA (σ':=⟨[(2,.sv (.one (.slc 601 0 l.length 1)))],[tS 1000000 t (vS (some ⟨db,0,none⟩) l.length cap) vC vP,enB 601 l],tH X Hs He Hr⟩) (Le.of (by exact ⟨O,trivial⟩) (by exact ⟨O,O,trivial⟩) (by exact O) (by exact O) (by repeat' (first|refine bR ?_ ?_|rfl|exact bT|exact bS|exact bU O))) ?_
  refine tabM_shut h1 h2 h3 hI hm (bZ ?_)
  exact ⟨[(1000001,601)],⟨[_],⟨rfl,trivial⟩,rfl⟩,(by repeat' (first|exact trivial|refine cM ⟨_,rfl,?_⟩ ?_|refine cM ⟨_,rfl⟩ ?_|rfl|exact bV _ _ _ _|exact bW _ _ _ _|exact bX rfl)),rfl,rfl⟩
theorem tM_nil {t:Tb} {ρ:Nat×Nat} {H:Nat→Option Obj} (h:(tbM false t).holds ρ H):t.l=[]:=by
  obtain ⟨_,_,_,_,_,vE,_,_,_,_,_,_,_,hI,hm⟩:=h
  have hv:vE=nilSlc:=Classical.byContradiction fun e=>by have:=hm.2 e;cases this
  rcases hI.ents with ⟨_,h⟩|⟨db,len,cap,arr,fr,rfl,_⟩
  · exact List.map_eq_nil_iff.1 h
  · cases hv
end Go.Proofs.YtbpdbclndfmcgaaGreatDoor
end
section
namespace Go.Proofs.YtbpdbclndfmcgaaGreatDoor
open Go Go.Lg Go.Lg.Fld Go.Lg.Sg Go.Lg.Col
set_option maxRecDepth 100000
variable (X:Nat→Option Obj)
theorem tSet_no (t:Tb) (hk:TbOk t) (row:Int) (p:Pt) (vad:Option Addr) (vcap:Nat) (hN:NumsIn X vad p.val) (hn:p.val.length<4611686018427387904) (hc:p.val.length≤vcap) (h:tsetE t row p≠0):MSpec Tryz.prog X 15 [Lp 1000000,Ln .i64 row,Px p vad vcap] [tB 1000000 t] (Ln .i64 (tsetE t row p)) [tB 1000000 t]:=by
  have _:=hc
  have h24:=t_len24 hk
  refine cD Tryz.func15 rfl (by kernel_rfl) rfl rfl (by exact (by repeat' (first|refine bR ?_ ?_|rfl|exact bT|exact bS|exact bU rfl))) rfl rfl ?_
  intro C
  refine LWP.ends (tab_open fun Hs He Hr vE vC vP ps h1 h2 h3 hI => ?_)
  obtain ⟨ad,cap,rfl⟩:=hI.ents.slice
  obtain ⟨cb,cc,rfl,hin⟩:=hI.sc
  rw [cT] at hI ⊢
  unfold tsetE at h ⊢
  by_cases hg:tgetE t row p.comp=0
  case neg =>
    rw [if_neg hg]
    have hs:=find0_no (tH X Hs He Hr) t hk ad cap vP row p.comp (.slice (some ⟨cb,0,none⟩) (onlyC t.sc.cs t.set).length cc) hg
    have hsm:=tget_small t row p.comp
    generalize tgetE t row p.comp=e at *
    (refine aA<|rgN<|aK O O O dN<|kas O<|aB<|aA<|rgN<|kmv O<|kmv O<|kfa O O ?_;refine kl1 O O O<|K.callR [(1000000,1000000)] (hs) O O (by exact (cM ⟨_,O,O⟩ trivial)) (by exact (bR (bR O (bR O (bR O (bR O (bR O (bR O (bR O O))))))) O)) O O O O dN<|kmv O<|kex O O<|kex O O<|kas O<|kas O<|aB<|aA<|aA<|rgN<|kmv O<|kne O O (r:=true) (cP hg)<|aB ?_;refine aD O ?_;refine aA<|rgN<|kmv O<|kas O<|aB<|aH ?_)
    refine cA (σ':=⟨[(6,Ln .i64 e)],[tS 1000000 t (vS ad t.l.length cap) (.slice (some ⟨cb,0,none⟩) (onlyC t.sc.cs t.set).length cc) vP],tH X Hs He Hr⟩) (Le.of (by exact ⟨O,trivial⟩) (by exact ⟨O,trivial⟩) (by exact O) (by exact O) (by repeat' (first|refine bR ?_ ?_|rfl|exact bT|exact bS|exact bU O))) ?_
    refine tab_shut h1 h2 h3 hI (bZ ?_)
    exact ⟨[],⟨[_],⟨rfl,trivial⟩,rfl⟩,(by repeat' (first|exact trivial|refine cM ⟨_,rfl,?_⟩ ?_|refine cM ⟨_,rfl⟩ ?_|rfl|exact bV _ _ _ _|exact bW _ _ _ _|exact bX rfl)),rfl,rfl⟩
  rw [if_pos hg] at h ⊢
  obtain ⟨i,k,c,r,q,rfl,hi,hp,hcc,hid,hr,hp1,hf,hL,_,_⟩:=tget_ok hk hg
  have hfs:fsAt t.sc.cs p.comp=c.fs:=by
    obtain ⟨d,hd,_,h5,_⟩:=t_at hk hp
    rw [hcc] at hd;cases hd
    exact h5
  rw [hfs] at h ⊢
  have hs:=find0 (tH X Hs He Hr) t hk ad cap vP p.comp i k (some ⟨cb,0,none⟩) cc (hin.mono (tH_s h2 h3)) hi hp
  obtain ⟨blk,off,arr,el,fr,fad,fcap,hq,hX,hsz,hcs,_,_,g3,hF⟩:=(hin.mono (tH_s (X:=X) h2 h3)).get hcc
  simp only [Option.some.injEq,Addr.mk.injEq] at hq
  obtain ⟨rfl,rfl,_⟩:=hq
  have hfit:=fitErr_small c.fs p.val
  have hP:=lPack_spec (tH X Hs He Hr) fad vad fcap vcap c.fs p.val hF (by have:=(t_size hk hcc).1;omega) ⟨hN.rows.mono (tH_x h1 h2 h3),hN.in2⟩ hn
  have hkc:=(List.getElem?_eq_some_iff.1 hcc).1
  have hio2:0+Int.toNat (k:Int)*3=0+k*3:=by simp
  generalize packR c.fs p.val=B at *
  generalize fitErr c.fs p.val=e at *
  (refine aA<|rgN<|aK O O O dN<|kas O<|aB<|aA<|rgN<|kmv O<|kmv O<|kfa O O ?_;refine kl1 O O O<|K.callR [(1000000,1000000)] (hs) O O (by exact (cM ⟨_,O,O⟩ trivial)) (by exact (bR (bR O (bR O (bR O (bR O (bR O (bR O (bR O O))))))) O)) O O O O dN<|kmv O<|kex O O<|kex O O<|kas O<|kas O<|aB<|aA<|aA<|rgN<|kmv O<|kne O O (r:=false) O<|aB ?_;refine aE O ?_;refine aG ?_;refine aA<|rgD mixed<|kmv O<|bH O dN<|kfa O O ?_;refine kfa O O ?_;refine kl1 O O O<|kmv O<|aQ O O bY (by omega) hio2 dN<|bG O O dN ?_;refine aV O hX O g3 dN<|kfa O O ?_;refine kl1 O O O<|kca O O hP<|kmv O<|kex O O<|kex O O<|kas O<|kas O<|aB<|rgA ?_;refine aA<|aA<|rgN<|kmv O<|kne O O (r:=true) (cP h)<|aB<|aD O ?_;refine aA<|rgN<|kmv O<|kas O<|aB<|aH ?_)
  refine cA (σ':=⟨[(6,Ln .i64 e)],[tS 1000000 t (vS ad t.l.length cap) (.slice (some ⟨cb,0,none⟩) (onlyC t.sc.cs t.set).length cc) vP],tH X Hs He Hr⟩) (Le.of (by exact ⟨O,trivial⟩) (by exact ⟨O,trivial⟩) (by exact O) (by exact O) (by repeat' (first|refine bR ?_ ?_|rfl|exact bT|exact bS|exact bU O))) ?_
  refine tab_shut h1 h2 h3 hI (bZ ?_)
  exact ⟨[],⟨[_],⟨rfl,trivial⟩,rfl⟩,(by repeat' (first|exact trivial|refine cM ⟨_,rfl,?_⟩ ?_|refine cM ⟨_,rfl⟩ ?_|rfl|exact bV _ _ _ _|exact bW _ _ _ _|exact bX rfl)),rfl,rfl⟩
theorem colL_set {l:List Rw} {i k:Nat} {r:Rw} {c:Cp} {p q:Pt} (hr:l[i]? = some r) (hq:r.p[k]? = some q):colL (l.set i (setR r k p)) k c=(colL l k c).set i (packB c.fs p.val):=by
  unfold colL
  rw [List.map_set]
  congr 2
  unfold valR setR
  simp only
  rw [List.getElem?_set_self (List.getElem?_eq_some_iff.1 hq).1]
theorem colL_other {l:List Rw} {i k j:Nat} {r:Rw} {c:Cp} {p:Pt} (hr:l[i]? = some r) (hj:j≠k):colL (l.set i (setR r k p)) j c=colL l j c:=by
  unfold colL
  rw [List.map_set]
  have h1:valR (setR r k p) j=valR r j:=by
    unfold valR setR
    simp only
    rw [List.getElem?_set_ne (fun e=>hj e.symm)]
  rw [h1]
  refine List.ext_getElem? fun x => ?_
  by_cases e:x=i
  · subst e
    rw [List.getElem?_set_self (by rw [cT];exact (List.getElem?_eq_some_iff.1 hr).1),dH,hr];rfl
  · rw [List.getElem?_set_ne (fun e'=>e e'.symm)]
set_option maxHeartbeats 3200000 in
theorem tSet (t:Tb) (hk:TbOk t) (i k:Nat) (p:Pt) (vad:Option Addr) (vcap:Nat) (hN:NumsIn X vad p.val) (hn:p.val.length<4611686018427387904) (hc:p.val.length≤vcap) (hi:i<t.l.length) (hpl:placeT t.set p.comp=some k) (h:fitErr (fsAt t.sc.cs p.comp) p.val=0):MSpec Tryz.prog X 15 [Lp 1000000,Ln .i64 (i:Nat),Px p vad vcap] [tB 1000000 t] (Ln .i64 0) [tB 1000000 (setT t i k p)]:=by
  have _:=hc
  have h24:=t_len24 hk
  obtain ⟨c,hcc,hid,hfs,_⟩:=t_at hk hpl
  rw [hfs] at h
  obtain ⟨r,hr⟩:∃ r,t.l[i]? = some r:=⟨_,cU hi⟩
  obtain ⟨q,hq1,_,_,_⟩:=t_row hk hcc hr
  have hset:setT t i k p={ t with l:=t.l.set i (setR r k p) }:=by unfold setT;rw [hr]
  rw [hset]
  have hsz:=t_size hk hcc
  refine cD Tryz.func15 rfl (by kernel_rfl) rfl rfl (by exact (by repeat' (first|refine bR ?_ ?_|rfl|exact bT|exact bS|exact bU rfl))) rfl rfl ?_
  intro C
  refine LWP.ends (tab_open fun Hs He Hr vE vC vP ps h1 h2 h3 hI => ?_)
  obtain ⟨ad,cap,rfl⟩:=hI.ents.slice
  obtain ⟨cb,cc,rfl,hin⟩:=hI.sc
  rw [cT] at hI ⊢
  have hs:=find0 (tH X Hs He Hr) t hk ad cap vP p.comp i k (some ⟨cb,0,none⟩) cc (hin.mono (tH_s h2 h3)) hi hpl
  obtain ⟨blk,off,arr,el,fr,fad,fcap,hq,hX,hsz2,hcs,_,_,g3,hF⟩:=(hin.mono (tH_s (X:=X) h2 h3)).get hcc
  simp only [Option.some.injEq,Addr.mk.injEq] at hq
  obtain ⟨rfl,rfl,_⟩:=hq
  have hP:=lPack_spec (tH X Hs He Hr) fad vad fcap vcap c.fs p.val hF (by omega) ⟨hN.rows.mono (tH_x h1 h2 h3),hN.in2⟩ hn
  rw [h,show packR c.fs p.val=packB c.fs p.val from if_pos h] at hP
  have hkc:=(List.getElem?_eq_some_iff.1 hcc).1
  have hio2:0+Int.toNat (k:Int)*3=0+k*3:=by simp
  have hBl:=hsz.2.2 p.val
  have hcol:=colL_set (c:=c) (p:=p) hr hq1
  have hcl:(colL t.l k c).length=t.l.length:=cT _
  generalize packB c.fs p.val=B at *
  (refine aA<|rgN<|aK O O O dN<|kas O<|aB<|aA<|rgN<|kmv O<|kmv O<|kfa O O ?_;refine kl1 O O O<|K.callR [(1000000,1000000)] (hs) O O (by exact (cM ⟨_,O,O⟩ trivial)) (by exact (bR (bR O (bR O (bR O (bR O (bR O (bR O (bR O O))))))) O)) O O O O dN<|kmv O<|kex O O<|kex O O<|kas O<|kas O<|aB<|aA<|aA<|rgN<|kmv O<|kne O O (r:=false) O<|aB ?_;refine aE O ?_;refine aG ?_;refine aA<|rgD mixed<|kmv O<|bH O dN<|kfa O O ?_;refine kfa O O ?_;refine kl1 O O O<|kmv O<|aQ O O bY (by omega) hio2 dN<|bG O O dN ?_;refine aV O hX O g3 dN<|kfa O O ?_;refine kl1 O O O<|kca O O hP<|kmv O<|kex O O<|kex O O<|kas O<|kas O<|aB<|rgA ?_;refine aA<|aA<|rgN<|kmv O<|kne O O (r:=false) O<|aB<|aE O ?_;refine aG ?_;refine aA ?_)
  refine LWP.le (σ':=⟨[(0,Lp 1000000),(1,Ln .i64 (i:Nat)),(7,Ln .i64 (k:Nat)),(9,Ls B)],[tS 1000000 t (vS ad t.l.length cap) (.slice (some ⟨cb,0,none⟩) (onlyC t.sc.cs t.set).length cc) vP],tH X Hs He Hr⟩) (Le.of (by exact ⟨O,O,O,O,trivial⟩) (by exact ⟨O,trivial⟩) (by exact O) (by exact O) (by repeat' (first|refine bR ?_ ?_|rfl|exact bT|exact bS|exact bU O))) ?_
  refine tcol_open (kk:=501) h3 hI.refs (colsG_at hcc) O O O (by omega) fun b H0 hb hO0 hback => ?_
  have hg:=(cSet_ok (joinM (joinM (joinM X Hs) He) H0) (rowSize c.fs) t.most (colL t.l k c) i B (by omega) hBl).at (b:=b)
  have hroot:=colR_root (rowSize c.fs) t.most ((colL t.l k c).set i B)
  obtain ⟨pad,pcap,rfl,hPt⟩:=hI.ptrs.mono (tH_s h2 hO0)
  have hkl:=(List.getElem?_eq_some_iff.1 hb).1
  obtain ⟨pblk,parr,pel,pfr,rfl,hPX,hPa⟩:=hPt k b hb
  have hio:0+Int.toNat (k:Int)*1=k:=by simp
  (refine rgN<|kmv O<|bH O dN<|kfa O O ?_;refine kl1 O O O<|kmv O<|aQ O O bY (by omega) hio dN<|aV O hPX O hPa dN<|kmv O<|kmv O<|aT [(1000000,501)] [atB 501 b (rowSize c.fs) t.most ((colL t.l k c).set i B)] (hg) O O (by exact (cM ⟨_,O,O⟩ trivial)) (by exact (bR O O)) O O O O (by exact (.box O O .nil)) dN<|kas O<|aB<|aH ?_)
  refine cA (σ':=⟨[(6,Ln .i64 0)],[atB 501 b (rowSize c.fs) t.most ((colL t.l k c).set i B),tS 1000000 t (vS ad t.l.length cap) (.slice (some ⟨cb,0,none⟩) (onlyC t.sc.cs t.set).length cc) (.slice (some ⟨pblk,0,none⟩) ps.length pcap)],joinM (joinM (joinM X Hs) He) H0⟩) (Le.of (by exact ⟨O,trivial⟩) (by exact ⟨O,O,trivial⟩) (by exact O) (by exact O) (by repeat' (first|refine bR ?_ ?_|rfl|exact bT|exact bS|exact bU O))) ?_
  refine tcol_shut hO0 hroot O O O fun m' Hc' g1 g2 g3 g4 => ?_
  have hB:=hback _ m' Hc' g1 g2 g3
  rw [← hcol,show (colsT t).set k (colR (rowSize c.fs) t.most (colL (t.l.set i (setR r k p)) k c))=colsT { t with l:=t.l.set i (setR r k p) } from colsG_set hcc fun j d hj _=>colL_other hr hj] at hB
  have hents:(t.l.set i (setR r k p)).map Rw.e=t.l.map Rw.e:=by
    rw [List.map_set]
    refine List.ext_getElem? fun x => ?_
    by_cases e:x=i
    · subst e
      rw [List.getElem?_set_self (by rw [cT];exact hi),dH,hr];rfl
    · rw [List.getElem?_set_ne (fun e'=>e e'.symm)]
  refine tab_shut (t:={ t with l:=t.l.set i (setR r k p) }) h1 h2 g4 ⟨⟨cb,cc,rfl,hin⟩,hI.ptrs,hB,by rw [hents];exact hI.ents,fun r' hr' p' hp' => ?_⟩ (bZ ?_)
  · rcases List.mem_or_eq_of_mem_set hr' with hr'|rfl
    · exact hI.two r' hr' p' hp'
    · rcases List.mem_or_eq_of_mem_set hp' with hp'|rfl
      · exact hI.two r (cZ hr) p' hp'
      · exact hN.in2
  exact ⟨[],⟨[_],⟨rfl,trivial⟩,rfl⟩,(by repeat' (first|exact trivial|refine cM ⟨_,rfl,?_⟩ ?_|refine cM ⟨_,rfl⟩ ?_|rfl|exact bV _ _ _ _|exact bW _ _ _ _|exact bX rfl)),rfl,rfl⟩
end Go.Proofs.YtbpdbclndfmcgaaGreatDoor
end
section
namespace Go.Proofs.YtbpdbclndfmcgaaGreatDoor
open Go Go.Lg Go.Lg.Fld Go.Lg.Sg Go.Lg.Col
set_option maxRecDepth 100000
theorem dropL_map {α β:Type} (f:α→β) (l:List α) (i:Nat):(dropL l i).map f=dropL (l.map f) i:=by
  unfold dropL
  rw [cT,dH]
  cases l[l.length-1]? with
  | none=>rfl
  | some x=>simp only [Option.map_some,List.map_take,List.map_set]
theorem swapL_drop (L:List (List UInt8)) (i:Nat):swapL L i=dropL L i:=by
  unfold swapL dropL
  cases L[L.length-1]? <;> rfl
def dropF (l:List Rw) (row i:Nat) (k:Nat) (c:Cp):List (List UInt8):=if k<i then swapL (colL l k c) row else colL l k c
theorem entV_set {l:List Nat} {i x:Nat}:(entV l).set i (.int .u64 (x:Nat))=entV (l.set i x):=by unfold entV;rw [List.map_set]
theorem entV_cut {l:List Nat} {i x:Nat} (hi:i<l.length) (hx:l[l.length-1]? = some x):entV (l.set i x)=entV (dropL l i)++[.int .u64 (x:Nat)]:=by
  unfold dropL
  rw [hx]
  unfold entV
  have h1:(l.set i x)[l.length-1]? = some x:=by
    by_cases e:i=l.length-1
    · rw [← e,List.getElem?_set_self hi]
    · rw [List.getElem?_set_ne e];exact hx
  have h2:l.set i x=(l.set i x).take (l.length-1)++[x]:=by
    have hl:(l.set i x).length=l.length:=List.length_set ..
    conv=>lhs;rw [← List.take_append_drop (l.length-1) (l.set i x)]
    congr 1
    rw [List.drop_eq_getElem_cons (by omega)]
    have:(l.set i x)[l.length-1]=x:=by
      have:=cU (l:=l.set i x) (i:=l.length-1) (by omega)
      rw [h1] at this;exact (Option.some.inj this).symm
    rw [this,List.drop_eq_nil_of_le (by omega)]
  conv=>lhs;rw [h2]
  rw [dD];rfl
variable (X:Nat→Option Obj)
theorem moved_eq (t:Tb) {i:Nat} (hi:i<t.l.length):(if 0≤((i:Nat):Int)∧((i:Nat):Int)<(dropL (t.l.map Rw.e) i).length then (dropL (t.l.map Rw.e) i).getD (((i:Nat):Int)).toNat 0 else 0)=movedT t i:=by
  have hl:(t.l.map Rw.e).length=t.l.length:=cT _
  rw [dropL_len (by omega),hl,dC]
  unfold movedT
  by_cases e:i=t.l.length-1
  · rw [if_pos e,if_neg (by omega)]
  · rw [if_neg e,if_pos (by omega),List.getD_eq_getElem?_getD,dropL_at (by omega) (by omega),if_pos rfl,hl,dH]
    unfold entT
    cases t.l[t.l.length-1]? <;> rfl
set_option maxHeartbeats 6400000 in
theorem tDrop (t:Tb) (hk:TbOk t) (i:Nat) (h:i<t.l.length):MSpec Tryz.prog X 11 [Lp 1000000,Ln .i64 (i:Nat)] [tB 1000000 t] (.tup [Sn .u64 (movedT t i:Nat),Sn .i64 0]) [tB 1000000 (dropT t i)]:=by
  have h24:=t_len24 hk
  have hroom:=hk.room
  have hmost:=hk.most
  refine cD Tryz.func11 rfl (by kernel_rfl) rfl rfl (by exact (by repeat' (first|refine bR ?_ ?_|rfl|exact bT|exact bS|exact bU rfl))) rfl rfl ?_
  intro C
  refine LWP.ends (tab_open fun Hs He Hr vE vC vP ps h1 h2 h3 hI => ?_)
  obtain ⟨ad,cap,rfl⟩:=hI.ents.slice
  have hll:(t.l.map Rw.e).length=t.l.length:=cT _
  obtain ⟨pad,pcap,rfl,hPt⟩:=hI.ptrs
  have hps:ps.length=(onlyC t.sc.cs t.set).length:=by rw [hI.refs.len];exact colsG_len _ _ _
  have hs:=seek0 (tH X Hs He Hr) t ad (t.l.map Rw.e).length cap vC (.slice pad ps.length pcap) i (by omega)
  (refine aA<|rgN<|kas O<|kas O<|aB<|aA<|aA<|rgN<|kmv O<|kmv O<|K.callR [(1000000,1000000)] (hs) O O (by exact (cM ⟨_,O,O⟩ trivial)) (by exact (bR (bR O (bR O (bR O (bR O (bR O (bR O (bR O O))))))) O)) O O O O dN<|kas O<|aB<|aA ?_;refine rgN<|kmv O<|kne O O (r:=false) O<|aB<|aE O ?_;refine aG ?_;refine aA<|aA<|rgN<|kmv O<|bH O dN<|kfa O O ?_;refine kl1 O O O<|aP O bY O dN ?_;refine kmv O<|aB<|aF ?_)
  refine cH (fun m σ=>∃ (j:Nat) (H:Nat→Option Obj),j≤ps.length∧m=ps.length-j∧OwnedM C (joinM (joinM X Hs) He) H∧Refs H ps (colsG (dropF t.l i j) t.most (onlyC t.sc.cs t.set))∧σ=⟨[(0,Lp 1000000),(1,Ln .i64 (i:Nat)),(19,.sv (.one (vS pad ps.length pcap))),(20,Ln .i64 (ps.length:Nat)),(21,Ln .i64 (j:Nat))],[tS 1000000 t (vS ad (t.l.map Rw.e).length cap) vC (.slice pad ps.length pcap)],joinM (joinM (joinM X Hs) He) H⟩) ps.length
    (cA (σ':=⟨[(0,Lp 1000000),(1,Ln .i64 (i:Nat)),(19,.sv (.one (vS pad ps.length pcap))),(20,Ln .i64 (ps.length:Nat)),(21,Ln .i64 (0:Nat))],[tS 1000000 t (vS ad (t.l.map Rw.e).length cap) vC (.slice pad ps.length pcap)],tH X Hs He Hr⟩) (Le.of (by exact ⟨rfl,rfl,rfl,rfl,rfl,trivial⟩) (by exact ⟨rfl,trivial⟩) (by exact rfl) (by exact rfl) (by repeat' (first|refine bR ?_ ?_|rfl|exact bT|exact bS|exact bU rfl))) (bZ ⟨0,Hr,by omega,by omega,h3,by
      rw [show colsG (dropF t.l i 0) t.most (onlyC t.sc.cs t.set)=colsT t from colsG_congr fun k d _=>by unfold dropF;rw [if_neg (by omega)]]
      exact hI.refs,O⟩)) ?_
  rintro m σ ⟨j,H,hj,rfl,hO,hR,rfl⟩
  by_cases hlt:j<ps.length
  · obtain ⟨c,hc⟩:∃ c,(onlyC t.sc.cs t.set)[j]? = some c:=⟨_,cU (by omega)⟩
    obtain ⟨b,hb⟩:∃ b,ps[j]? = some b:=⟨_,cU hlt⟩
    obtain ⟨pblk,parr,pel,pfr,rfl,hPX,hPa⟩:=hPt j b hb
    have hPX2:joinM (joinM (joinM X Hs) He) H pblk=some (.cells parr pel pfr):=tH_s h2 hO _ _ hPX
    have hio:0+Int.toNat (j:Int)*1=j:=by simp
    have hadd:IntKind.i64.wrap (((j:Nat):Int)+1)=((j+1:Nat):Int):=by rw [cE (by omega)];omega
    (refine aA<|rgN<|klt O O (cL (by omega))<|aB<|aA<|aD O ?_;refine aG ?_;refine aA<|aF<|aA<|rgN<|aQ O O bY (by omega) hio dN<|aV O hPX2 O hPa dN<|kas O<|aB ?_)
    refine LWP.le (σ':=⟨[(8,Vp b),(0,Lp 1000000),(1,Ln .i64 (i:Nat)),(19,.sv (.one (vS (some ⟨pblk,0,none⟩) ps.length pcap))),(20,Ln .i64 (ps.length:Nat)),(21,Ln .i64 (j:Nat))],[tS 1000000 t (vS ad (t.l.map Rw.e).length cap) vC (.slice (some ⟨pblk,0,none⟩) ps.length pcap)],joinM (joinM (joinM X Hs) He) H⟩) (Le.of (by exact ⟨O,O,O,O,O,O,trivial⟩) (by exact ⟨O,trivial⟩) (by exact O) (by exact O) (by repeat' (first|refine bR ?_ ?_|rfl|exact bT|exact bS|exact bU O))) ?_
    refine tcol_open (kk:=501) hO hR (colsG_at hc) O O O (by omega) fun b' H0 hb' hO0 hback => ?_
    rw [hb] at hb'
    cases hb'
    have hf:dropF t.l i j j c=colL t.l j c:=if_neg (by omega)
    have hcl:(colL t.l j c).length=t.l.length:=cT _
    have hnew:dropF t.l i (j+1) j c=swapL (colL t.l j c) i:=if_pos (by omega)
    have hg:=(cSwap_ok (joinM (joinM (joinM X Hs) He) H0) (rowSize c.fs) t.most (colL t.l j c) i (by omega) rfl).at (b:=b)
    have hroot:=colR_root (rowSize c.fs) t.most (swapL (colL t.l j c) i)
    rw [hf]
    (refine rgN<|kmv O<|kmv O<|aT [(1000000,501)] [atB 501 b (rowSize c.fs) t.most (swapL (colL t.l j c) i)] (hg) O O (by exact (cM ⟨_,O,O⟩ trivial)) (by exact (bR O O)) O O O O (by exact (.box O O .nil)) dN<|aB<|rgN<|kad O O hadd<|kmv O<|aB ?_)
    refine cA (σ':=⟨[(0,Lp 1000000),(1,Ln .i64 (i:Nat)),(19,.sv (.one (vS (some ⟨pblk,0,none⟩) ps.length pcap))),(20,Ln .i64 (ps.length:Nat)),(21,Ln .i64 (j+1:Nat))],[atB 501 b (rowSize c.fs) t.most (swapL (colL t.l j c) i),tS 1000000 t (vS ad (t.l.map Rw.e).length cap) vC (.slice (some ⟨pblk,0,none⟩) ps.length pcap)],joinM (joinM (joinM X Hs) He) H0⟩) (Le.of (by exact ⟨O,O,O,O,O,trivial⟩) (by exact ⟨O,O,trivial⟩) (by exact O) (by exact O) (by repeat' (first|refine bR ?_ ?_|rfl|exact bT|exact bS|exact bU O))) ?_
    refine tcol_shut hO0 hroot O O O fun m' Hc' g1 g2 g3 g4 => ?_
    have hB:=hback _ m' Hc' g1 g2 g3
    rw [← hnew,colsG_set hc (g:=dropF t.l i (j+1)) fun k d hk' _=>by
      unfold dropF
      by_cases e:k<j
      · rw [if_pos e,if_pos (by omega)]
      · rw [if_neg e,if_neg (by omega)]] at hB
    exact bZ ⟨ps.length-(j+1),by omega,j+1,_,by omega,O,g4,hB,O⟩
  · have e:j=ps.length:=by omega
    subst e
    have hRn:Refs H ps (colsT (dropT t i)):=by
      have:colsT (dropT t i)=colsG (dropF t.l i ps.length) t.most (onlyC t.sc.cs t.set):=by
        show colsG (colL (dropL t.l i)) t.most (onlyC t.sc.cs t.set)=_
        refine colsG_congr fun k d hd => ?_
        have:=(List.getElem?_eq_some_iff.1 hd).1
        unfold dropF colL
        rw [if_pos (by omega),swapL_drop,dropL_map]
      rw [this];exact hR
    obtain ⟨x,hx⟩:∃ x,(t.l.map Rw.e)[(t.l.map Rw.e).length-1]? = some x:=⟨_,cU (by omega)⟩
    have hid:i<(t.l.map Rw.e).length:=by omega
    have hmv:=moved_eq t h
    have hents:(dropT t i).l.map Rw.e=dropL (t.l.map Rw.e) i:=dropL_map Rw.e t.l i
    have hdl:(dropL (t.l.map Rw.e) i).length=(t.l.map Rw.e).length-1:=dropL_len hid
    have hb256:(t.l.map Rw.e).length≤256:=by omega
    obtain ⟨hsw1,hsw2,hsw3⟩:=OwnedM.swap h2 hO
    have hE:=hI.ents
    rw [hsw3]
    generalize t.l.map Rw.e=L at *
    have hsub:IntKind.i64.wrap (((L.length:Nat):Int)-1)=((L.length-1:Nat):Int):=by rw [cE (by omega)];omega
    (refine aA<|rgN<|klt O O (cK (by omega))<|aB<|aA<|aE O ?_;refine aI<|aA<|rgN<|kmv O<|bH O dN<|kfa O O ?_;refine kl1 O O O<|aP O bY O dN ?_;refine aZ O O hsub dN<|kas O<|aB<|aA ?_)
    refine LWP.le (σ':=⟨[(0,Lp 1000000),(1,Ln .i64 (i:Nat)),(9,Ln .i64 (L.length-1:Nat))],[tS 1000000 t (vS ad L.length cap) vC (.slice pad ps.length pcap)],joinM (joinM (joinM X Hs) H) He⟩) (Le.of (by exact ⟨O,O,O,trivial⟩) (by exact ⟨O,trivial⟩) (by exact O) (by exact O) (by repeat' (first|refine bR ?_ ?_|rfl|exact bT|exact bS|exact bU O))) ?_
    obtain ⟨db,hd⟩:∃ db,LeadsTo He db (.slice ad L.length cap) 37 1 (entV L):=by
      rcases hE with ⟨_,e⟩|hd
      · rw [e] at hid;cases hid
      · exact hd
    have hel:(entV L).length=L.length*1:=by unfold entV;rw [cT];omega
    refine LWP.openCell (A:=[.val (.int .u32 (t.set:Nat)),.val (.int .i64 (t.most:Nat)),.val (.int .i64 (t.kept:Nat))]) (B:=[.val (.int .i64 t.sc.ver),.val vC,.val (.slice pad ps.length pcap)]) (k:=501) (sz:=1) (len:=L.length) hsw2 hd hel (by omega) O O O O O ?_
    have hix1:0+Int.toNat ((L.length-1:Nat):Int)*1=L.length-1:=by rw [dC];omega
    have hix2:0+Int.toNat ((i:Nat):Int)*1=i:=by rw [dC];omega
    have hcell:((entV L).map CV.val)[L.length-1]? = some (.val (.int .u64 (x:Nat))):=by unfold entV;rw [dH,dH,hx];rfl
    have hblt:Nat.blt i ((entV L).map CV.val).length=true:=by rw [Nat.blt_eq,cT];omega
    have hput:((entV L).map CV.val).set i (.val (.int .u64 (x:Nat)))=(entV (dropL L i)).map CV.val ++ .val (.int .u64 (x:Nat))::([]:List Value).map CV.val:=by rw [← List.map_set,entV_set,entV_cut hid hx,dD];rfl
    (refine rgD mixed<|kmv O<|bH O dN<|kfa O O ?_;refine kl1 O O O<|kmv O<|kmv O<|bH O dN<|kfa O O ?_;refine kl1 O O O<|kmv O<|K.indexSlc O O (by omega) hix1 dN ?_;refine kl1 O O hcell<|K.indexSlc O O (by omega) hix2 dN ?_;refine bF O O O O hblt hput dN<|aB<|rgA ?_;refine aA<|rgN<|kmv O<|kmv O<|bH O dN<|kfa O O ?_;refine kl1 O O O<|kmv O<|K.cutSlc O O bY (by omega) dN<|bH O dN<|kfa O O ?_;refine bF O O O O O (nl7 O O O O O O O O) dN<|aB<|aA ?_)
    refine LWP.le (σ':=⟨[(0,Lp 1000000),(1,Ln .i64 (i:Nat))],[(501,some ⟨37,(entV (dropL L i)).map CV.val ++ .val (.int .u64 (x:Nat))::([]:List Value).map CV.val,true⟩),tS 1000000 t (.slc 501 0 (L.length-1) 1) vC (.slice pad ps.length pcap)],joinM (joinM (joinM X Hs) H) (cutM He db)⟩) (Le.of (by exact ⟨O,O,trivial⟩) (by exact ⟨O,O,trivial⟩) (by exact O) (by exact O) (by repeat' (first|refine bR ?_ ?_|rfl|exact bT|exact bS|exact bU O))) ?_
    refine LWP.le Le.trim ?_
    refine LWP.le (σ':=⟨[(0,Lp 1000000),(1,Ln .i64 (i:Nat))],[(1000000,some ⟨92,[.val (.int .u32 (t.set:Nat)),.val (.int .i64 (t.most:Nat)),.val (.int .i64 (t.kept:Nat))] ++ .slc 501 0 (L.length-1) 1::[.val (.int .i64 t.sc.ver),.val vC,.val (.slice pad ps.length pcap)],false⟩),(501,some ⟨37,(entV (dropL L i)).map CV.val,true⟩)],joinM (joinM (joinM X Hs) H) (cutM He db)⟩) (Le.of (by exact ⟨O,O,trivial⟩) (by exact ⟨O,O,trivial⟩) (by exact O) (by exact O) (by repeat' (first|refine bR ?_ ?_|rfl|exact bT|exact bS|exact bU O))) ?_
    have hdl2:(entV (dropL L i)).length=(L.length-1)*1:=by unfold entV;rw [cT,hdl];omega
    refine LWP.closeCell (hsw2.cut db) hdl2 O O O O O O fun b o v g1 g2 g3 g4 => ?_
    have hE2:EntsAt (withBlock (cutM He db) b o) v (dropL L i):=.inr ⟨b,g4⟩
    have hent:=ent0 (joinM (joinM (joinM X Hs) H) (withBlock (cutM He db) b o)) t v vC (.slice pad ps.length pcap) (dropL L i) (i:Nat) (hE2.mono fun x o hx=>joinM_in hx) (by omega)
    rw [hmv] at hent
    generalize movedT t i=mv at *
    (refine rgN<|kmv O<|kmv O<|K.callR [(1000000,1000000)] (hent) O O (by exact (cM ⟨_,O,O⟩ trivial)) (by exact (bR (bR O (bR O (bR O (bR O (bR O (bR O (bR O O))))))) O)) O O O O dN<|kas O<|kas O<|aB<|aH ?_)
    obtain ⟨k1,k2,k3⟩:=OwnedM.swap hsw1 g3
    refine cA (σ':=⟨[(4,Ln .u64 (mv:Nat)),(5,Ln .i64 0)],[tS 1000000 (dropT t i) (.val v) vC (.slice pad ps.length pcap)],tH X Hs (withBlock (cutM He db) b o) H⟩) (by unfold tH;rw [← k3];exact Le.of (by exact ⟨rfl,rfl,trivial⟩) (by exact ⟨rfl,trivial⟩) (by exact rfl) (by exact rfl) (by repeat' (first|refine bR ?_ ?_|rfl|exact bT|exact bS|exact bU rfl))) ?_
    refine tab_shut h1 k1 k2 ⟨hI.sc,⟨pad,pcap,rfl,hPt⟩,hRn,by rw [hents];exact hE2,fun r hr=>hI.two r (dropL_mem hr)⟩ (bZ ?_)
    exact ⟨[],⟨[_,_],⟨rfl,rfl,trivial⟩,rfl⟩,(by repeat' (first|exact trivial|refine cM ⟨_,rfl,?_⟩ ?_|refine cM ⟨_,rfl⟩ ?_|rfl|exact bV _ _ _ _|exact bW _ _ _ _|exact bX rfl)),rfl,rfl⟩
end Go.Proofs.YtbpdbclndfmcgaaGreatDoor
end
section
namespace Go.Proofs.YtbpdbclndfmcgaaGreatDoor
open Go Go.Lg Go.Lg.Fld Go.Lg.Sg Go.Lg.Col
set_option maxRecDepth 100000
theorem filter_or {α:Type} {a b:α→Bool} (h:∀ x,a x=true→b x=true→False):∀ l:List α,(l.filter fun x=>a x||b x).length=(l.filter a).length+(l.filter b).length
  | []=>rfl
  | x::t=>by
    have ih:=filter_or h t
    rw [List.filter_cons,List.filter_cons,List.filter_cons]
    cases ha:a x<;>cases hb:b x
    · simpa using ih
    · simp only [Bool.false_or,if_true,dE];simp only [Bool.false_eq_true,if_false];omega
    · simp only [Bool.true_or,if_true,dE];simp only [Bool.false_eq_true,if_false];omega
    · exact (h x ha hb).elim
theorem hits_sum (l:List Pt):∀ {ids:List Int},ids.Pairwise (· < ·)→(sortP ids l).length=(l.filter fun p=>ids.any fun x=>x==p.comp).length
  | [],_=>by
    show 0=_
    rw [show (l.filter fun p=>([]:List Int).any fun x=>x==p.comp)=[] from List.filter_eq_nil_iff.2 fun x _=>by simp];rfl
  | id::ids,h=>by
    obtain ⟨h1,h2⟩:=List.pairwise_cons.1 h
    have ih:=hits_sum l h2
    have:=filter_or (a:=fun p:Pt=>id==p.comp) (b:=fun p=>ids.any fun x=>x==p.comp) (fun p ha hb=>by
      rw [beq_iff_eq] at ha
      obtain ⟨y,hy,e⟩:=List.any_eq_true.1 hb
      rw [beq_iff_eq] at e
      have:=h1 y hy
      omega) l
    simp only [List.any_cons]
    rw [this,← ih]
    unfold sortP
    rw [List.map_cons,List.flatten_cons,cS]
    congr 2
    unfold hitsP
    exact List.filter_congr fun p _=>by rw [Bool.eq_iff_iff,beq_iff_eq,beq_iff_eq];exact eq_comm
theorem hits_more (l:List Pt):∀ {ids:List Int},(∀ id∈ids,1≤(hitsP l id).length)→ids.length≤(sortP ids l).length
  | [],_=>Nat.zero_le _
  | id::ids,h=>by
    have h1:=h id (List.mem_cons_self ..)
    have ih:=hits_more l (ids:=ids) fun x hx=>h x (List.mem_cons_of_mem _ hx)
    unfold sortP at ih ⊢
    rw [List.map_cons,List.flatten_cons,cS,dE];omega
theorem hits_ones (l:List Pt):∀ {ids:List Int},(∀ id∈ids,1≤(hitsP l id).length)→(sortP ids l).length≤ids.length→∀ id∈ids,(hitsP l id).length=1
  | [],_,_=>fun _ h=>by cases h
  | id::ids,h,hs=>by
    have h1:=h id (List.mem_cons_self ..)
    have hr:∀ x∈ids,1≤(hitsP l x).length:=fun x hx=>h x (List.mem_cons_of_mem _ hx)
    have h2:=hits_more l hr
    unfold sortP at hs h2
    rw [List.map_cons,List.flatten_cons,cS,dE] at hs
    intro x hx
    rcases List.mem_cons.1 hx with rfl|hx
    · omega
    · exact hits_ones l hr (by unfold sortP;omega) x hx
theorem just_sig {set:Nat} (hs:set<4294967296) (hb:isB set=true) (l:List Pt):(prE (l.map fun p=>p.comp)=0∧prN (l.map fun p=>p.comp)=set)↔justP (idsL set) l=true:=by
  have hll:(l.map fun p=>p.comp).length=l.length:=cT _
  rw [just_iff]
  constructor
  · rintro ⟨h1,h2⟩
    unfold prN at h2
    rw [if_pos h1] at h2
    unfold prE at h1
    by_cases ho:okIds (l.map fun p=>p.comp)=true
    case neg=>rw [if_neg ho] at h1;cases h1
    rw [if_pos ho] at h1
    have ht:twiceTo (l.map fun p=>p.comp) (l.map fun p=>p.comp).length=false:=by
      cases hc:twiceTo (l.map fun p=>p.comp) (l.map fun p=>p.comp).length with
      | false=>rfl
      | true=>rw [hc] at h1;cases h1
    have htw:=twice_len ho
    rw [ht,h2,bne_eq_false_iff_eq,hll] at htw
    have hlen:l.length=(idsL set).length:=by omega
    refine ⟨hlen,hits_ones l (fun id hid => ?_) ?_⟩
    · rw [← h2] at hid
      obtain ⟨p,hp,he⟩:=List.mem_map.1 ((mem_ofN ho id).1 hid)
      exact List.length_pos_of_mem (List.mem_filter.2 ⟨hp,by rw [beq_iff_eq];exact he⟩)
    · rw [hits_sum l (idsL_sorted set),← hlen]
      exact List.length_filter_le _ _
  · rintro ⟨h1,h2⟩
    have hsum:=sort_len (ids:=idsL set) (l:=l) (just_iff.2 ⟨h1,h2⟩)
    rw [hits_sum l (idsL_sorted set)] at hsum
    have hall:∀ p∈l,p.comp∈idsL set:=fun p hp=>by
      have:=List.filter_eq_self.1 (List.filter_sublist.eq_of_length (by rw [hsum,h1]:(l.filter fun p=>(idsL set).any fun x=>x==p.comp).length=l.length)) p hp
      obtain ⟨y,hy,e⟩:=List.any_eq_true.1 this
      rw [← beq_iff_eq.1 e];exact hy
    have ho:okIds (l.map fun p=>p.comp)=true:=List.all_eq_true.2 fun x hx=>by
      obtain ⟨p,hp,rfl⟩:=List.mem_map.1 hx
      obtain ⟨g1,g2,_⟩:=mem_ids.1 (hall p hp)
      exact okI_iff.2 ⟨g1,by omega⟩
    have hids:idsL (ofN (l.map fun p=>p.comp))=idsL set:=sorted_ext (idsL_sorted _) (idsL_sorted _) fun x=>by
      rw [mem_ofN ho]
      constructor
      · intro hx
        obtain ⟨p,hp,rfl⟩:=List.mem_map.1 hx
        exact hall p hp
      · intro hx
        obtain ⟨p,_,hp,he⟩:=hits_one (h2 x hx)
        exact List.mem_map.2 ⟨p,hp,he⟩
    have hof:ofN (l.map fun p=>p.comp)=set:=by
      have hok:∀ id∈(l.map fun p=>p.comp),okJ id=true:=List.all_eq_true.1 ho
      rw [← ofN_ids (ofN_isB hok) (by have:=ofN_lt hok;omega),hids,ofN_ids hb hs]
    have htw:=twice_len ho
    rw [hids,hll,cO (by omega)] at htw
    have hE:prE (l.map fun p=>p.comp)=0:=by unfold prE;rw [if_pos ho,hll,← htw];rfl
    exact ⟨hE,by unfold prN;rw [if_pos hE];exact hof⟩
theorem just_in {set:Nat} {l:List Pt} (h:justP (idsL set) l=true):∀ p∈l,p.comp∈idsL set:=fun p hp=>by
  obtain ⟨h1,h2⟩:=just_iff.1 h
  have hsum:=sort_len h
  rw [hits_sum l (idsL_sorted set)] at hsum
  have:=List.filter_eq_self.1 (List.filter_sublist.eq_of_length (by rw [hsum,h1]:(l.filter fun p=>(idsL set).any fun x=>x==p.comp).length=l.length)) p hp
  obtain ⟨y,hy,e⟩:=List.any_eq_true.1 this
  rw [← beq_iff_eq.1 e];exact hy
theorem find_only {cs:List Cp} {set:Nat} {x:Int} (h:hasB set x=true):(onlyC cs set).find? (fun c=>c.id==x)=cs.find? (fun c=>c.id==x):=by
  unfold onlyC
  rw [List.find?_filter]
  congr 1
  funext c
  by_cases e:c.id=x
  · rw [e,h];simp
  · rw [cN e];simp
theorem parts_only {cs:List Cp} {set:Nat} {l:List Pt} (h:justP (idsL set) l=true):partsE (onlyC cs set) l=partsE cs l:=by
  unfold partsE
  congr 1
  funext i
  unfold ptE
  cases hp:l[i]? with
  | none=>rfl
  | some p =>
    have hm:=just_in h p (cZ hp)
    have hb:hasB set p.comp=true:=by rw [← any_ids,List.any_eq_true];exact ⟨_,hm,cR rfl⟩
    simp only
    have:partE (onlyC cs set) p=partE cs p:=by unfold partE;rw [find_only hb]
    rw [this]
theorem just_one {set:Nat} {l:List Pt} (h:justP (idsL set) l=true) {j:Nat} {p:Pt} (hj:l[j]? = some p):(l.take j).find? (fun q=>q.comp==p.comp)=none:=by
  have h1:=(just_iff.1 h).2 _ (just_in h p (cZ hj))
  rw [List.find?_eq_none]
  intro q hq he
  have hsp:l=l.take j++p::l.drop (j+1):=mid_of hj
  unfold hitsP at h1
  rw [hsp,List.filter_append,List.filter_cons,if_pos (by simp),cS,dE] at h1
  have:0<((l.take j).filter fun x=>x.comp==p.comp).length:=List.length_pos_of_mem (List.mem_filter.2 ⟨hq,he⟩)
  omega
theorem sort_at {l:List Pt}:∀ {ids:List Int} {k:Nat} {id:Int},(∀ x∈ids,(hitsP l x).length=1)→ids[k]? = some id→∃ p,(sortP ids l)[k]? = some p∧hitsP l id=[p]
  | x::ids,0,id,h,hk=>by
    simp only [List.getElem?_cons_zero,Option.some.injEq] at hk
    subst hk
    obtain ⟨p,hp,_,_⟩:=hits_one (h x (List.mem_cons_self ..))
    refine ⟨p,?_,hp⟩
    unfold sortP
    rw [List.map_cons,List.flatten_cons,hp];rfl
  | x::ids,k+1,id,h,hk=>by
    simp only [List.getElem?_cons_succ] at hk
    obtain ⟨p,hp,h2⟩:=sort_at (l:=l) (fun y hy=>h y (List.mem_cons_of_mem _ hy)) hk
    obtain ⟨q,hq,_,_⟩:=hits_one (h x (List.mem_cons_self ..))
    refine ⟨p,?_,h2⟩
    unfold sortP at hp ⊢
    rw [List.map_cons,List.flatten_cons,hq]
    exact hp
  | [],_,_,_,hk=>by simp at hk
def addF (l:List Rw) (ps:List Pt) (j:Nat) (k:Nat) (c:Cp):List (List UInt8):=colL l k c++match (ps.take j).find? (fun p=>p.comp==c.id) with|some p=>[packB c.fs p.val]|none=>[]
theorem addF_zero (l:List Rw) (ps:List Pt) (k:Nat) (c:Cp):addF l ps 0 k c=colL l k c:=by unfold addF;simp
theorem addF_here {set:Nat} {l:List Rw} {ps:List Pt} (h:justP (idsL set) ps=true) {j k:Nat} {p:Pt} {c:Cp} (hj:ps[j]? = some p) (hc:c.id=p.comp):addF l ps j k c=colL l k c∧addF l ps (j+1) k c=colL l k c++[packB c.fs p.val]:=by
  have h1:=just_one h hj
  unfold addF
  rw [hc,h1]
  refine ⟨dF _,?_⟩
  rw [take_snoc hj,List.find?_append,h1]
  simp
theorem addF_there {l:List Rw} {ps:List Pt} {j k:Nat} {p:Pt} {c:Cp} (hj:ps[j]? = some p) (hc:c.id≠p.comp):addF l ps (j+1) k c=addF l ps j k c:=by
  unfold addF
  rw [take_snoc hj,List.find?_append,show ([p].find? fun q=>q.comp==c.id)=none by simp [cN (Ne.symm hc)]]
  simp
theorem addF_all {t:Tb} (hk:TbOk t) {ps:List Pt} (h:justP (idsL t.set) ps=true) (e:Nat) {k:Nat} {c:Cp} (hc:(onlyC t.sc.cs t.set)[k]? = some c):addF t.l ps ps.length k c=colL (t.l++[⟨e,sortP (idsL t.set) ps⟩]) k c:=by
  obtain ⟨p,hp,hh⟩:=sort_at (l:=ps) (just_iff.1 h).2 (k:=k) (id:=c.id) (by rw [← t_ids hk,dH,hc];rfl)
  unfold addF colL
  rw [dB,dD,List.map_cons,List.map_nil]
  congr 1
  have hf:ps.find? (fun q=>q.comp==c.id)=some p:=by rw [← List.head?_filter];unfold hitsP at hh;rw [hh];rfl
  rw [hf]
  unfold valR
  simp only
  rw [hp]
end Go.Proofs.YtbpdbclndfmcgaaGreatDoor
end
section
namespace Go.Proofs.YtbpdbclndfmcgaaGreatDoor
open Go Go.Lg Go.Lg.Fld Go.Lg.Sg Go.Lg.Col
set_option maxRecDepth 100000
variable (X:Nat→Option Obj)
set_option maxHeartbeats 3200000 in
theorem checkAdd0 (t:Tb) (hk:TbOk t) (ad pad cad:Option Addr) (cap pcap cc:Nat) (vP:Value) (e:Nat) (l:List Pt) (hin:CompsIn X cad (onlyC t.sc.cs t.set)) (hP:PartsIn X pad l) (hl:l.length≤12) (he:e<18446744073709551616):
    MSpec Tryz.prog X 44 [Lp 1000000,Ln .u64 (e:Nat),Lx pad l.length pcap] [tS 1000000 t (vS ad t.l.length cap) (.slice cad (onlyC t.sc.cs t.set).length cc) vP] (Ln .i64 (addE t e l)) [tS 1000000 t (vS ad t.l.length cap) (.slice cad (onlyC t.sc.cs t.set).length cc) vP]:=by
  have _:=he
  have hG:=gParts X l pad pcap hP (by omega)
  have hj:=just_sig hk.set.1 hk.set.2 l
  have hpo:=parts_only (cs:=t.sc.cs) (set:=t.set) (l:=l)
  have h24:=t_len24 hk
  have hPs:=pPartsBig X t.sc.ver cad pad cc pcap (onlyC t.sc.cs t.set) l hin (by omega) (fun c hc=>by
    obtain ⟨i,hi⟩:=List.mem_iff_getElem?.1 hc
    have:=(t_size hk hi).1
    omega) hP (by omega) _ rfl
  have hR:=room0 X t ad t.l.length cap (.slice cad (onlyC t.sc.cs t.set).length cc) vP hk.room hk.most.2
  rw [show t.most-t.l.length-t.kept=roomT t from rfl] at hR
  have hset:=hk.set.1
  refine cD Tryz.func44 rfl (by kernel_rfl) rfl rfl (by exact (by repeat' (first|refine bR ?_ ?_|rfl|exact bT|exact bS|exact bU rfl))) rfl rfl ?_
  intro C
  unfold addE
  generalize prE (l.map fun p=>p.comp)=pe at *
  generalize prN (l.map fun p=>p.comp)=pn at *
  by_cases h1:e=0
  · rw [if_pos h1]
    subst h1
    (refine aA<|rgN<|kas O<|aB<|aA<|aF<|aA<|rgN<|kmv O<|K.ptrNil O (by kernel_rfl) (.inl ⟨O,O⟩) dN<|kas O<|aB<|aE O ?_;refine aA<|rgN<|kmv O<|keq O O (r:=true) O<|kas O<|aB<|aD O ?_;refine aA<|rgN<|kas O<|aB<|aH ?_)
    exact ⟨[],⟨[_],⟨rfl,trivial⟩,rfl⟩,(by repeat' (first|exact trivial|refine cM ⟨_,rfl,?_⟩ ?_|refine cM ⟨_,rfl⟩ ?_|rfl|exact bV _ _ _ _|exact bW _ _ _ _|exact bX rfl)),rfl,rfl⟩
  rw [if_neg h1]
  have he0:((((e:Nat):Int))==0)=false:=cN (by omega)
  by_cases h2:justP (idsL t.set) l=true
  case neg =>
    rw [if_neg h2]
    by_cases hpe:pe=0
    · subst hpe
      have hne:((((pn:Nat):Int)) != (t.set:Nat))=true:=cP fun e=>h2 (hj.1 ⟨rfl,by omega⟩)
      (refine aA<|rgN<|kas O<|aB<|aA<|aF<|aA<|rgN<|kmv O<|K.ptrNil O (by kernel_rfl) (.inl ⟨O,O⟩) dN<|kas O<|aB<|aE O ?_;refine aA<|rgN<|kmv O<|keq O O he0<|kas O<|aB<|aE O ?_;refine aG ?_;refine aA<|aA<|rgN<|kmv O<|kca O O hG<|kmv O<|kex O O<|kex O O<|kas O<|kas O<|aB<|aA<|rgN<|kmv O ?_;refine kne O O (r:=false) O<|kmv O<|gmv O O O<|gmv O O O<|bH O (dO O O) ?_;refine aM O O (dO O O) ?_;refine aN O O O (dO O O) ?_;refine aW O O hne (dO O O) ?_;refine kpf O O<|aB<|aD O ?_;refine aA<|rgN<|kas O<|aB<|aH ?_)
      exact ⟨[],⟨[_],⟨rfl,trivial⟩,rfl⟩,(by repeat' (first|exact trivial|refine cM ⟨_,rfl,?_⟩ ?_|refine cM ⟨_,rfl⟩ ?_|rfl|exact bV _ _ _ _|exact bW _ _ _ _|exact bX rfl)),rfl,rfl⟩
    · (refine aA<|rgN<|kas O<|aB<|aA<|aF<|aA<|rgN<|kmv O<|K.ptrNil O (by kernel_rfl) (.inl ⟨O,O⟩) dN<|kas O<|aB<|aE O ?_;refine aA<|rgN<|kmv O<|keq O O he0<|kas O<|aB<|aE O ?_;refine aG ?_;refine aA<|aA<|rgN<|kmv O<|kca O O hG<|kmv O<|kex O O<|kex O O<|kas O<|kas O<|aB<|aA<|rgN<|kmv O ?_;refine kne O O (r:=true) (cP hpe)<|kmv O<|aC O O O<|aC O O O<|aC O O O<|aC O O O<|aC O O O<|aC O O O<|kpt O O<|aB<|aD O ?_;refine aA<|rgN<|kas O<|aB<|aH ?_)
      exact ⟨[],⟨[_],⟨rfl,trivial⟩,rfl⟩,(by repeat' (first|exact trivial|refine cM ⟨_,rfl,?_⟩ ?_|refine cM ⟨_,rfl⟩ ?_|rfl|exact bV _ _ _ _|exact bW _ _ _ _|exact bX rfl)),rfl,rfl⟩
  rw [if_pos h2]
  obtain ⟨rfl,rfl⟩:=hj.2 h2
  rw [hpo h2] at hPs
  have hne:((((t.set:Nat):Int)) != (t.set:Nat))=false:=cO rfl
  by_cases h3:partsE t.sc.cs l=0
  case neg =>
    rw [if_neg h3]
    generalize partsE t.sc.cs l=q at *
    (refine aA<|rgN<|kas O<|aB<|aA<|aF<|aA<|rgN<|kmv O<|K.ptrNil O (by kernel_rfl) (.inl ⟨O,O⟩) dN<|kas O<|aB<|aE O ?_;refine aA<|rgN<|kmv O<|keq O O he0<|kas O<|aB<|aE O ?_;refine aG ?_;refine aA<|aA<|rgN<|kmv O<|kca O O hG<|kmv O<|kex O O<|kex O O<|kas O<|kas O<|aB<|aA<|rgN<|kmv O ?_;refine kne O O (r:=false) O<|kmv O<|gmv O O O<|gmv O O O<|bH O (dO O O) ?_;refine aM O O (dO O O) ?_;refine aN O O O (dO O O) ?_;refine aW O O hne (dO O O) ?_;refine kpf O O<|aB<|aE O ?_;refine aG ?_;refine aA<|aA<|rgN<|kmv O<|bH O dN<|kfa O O ?_;refine bI O O O (by exact nl2 O O O) dN ?_;refine kmv O<|kca O O hPs<|kas O<|aB<|aA<|rgN<|kmv O<|kne O O (r:=true) (cP h3)<|aB<|aD O ?_;refine aA<|rgN<|kmv O<|kas O<|aB<|aH ?_)
    exact ⟨[],⟨[_],⟨rfl,trivial⟩,rfl⟩,(by repeat' (first|exact trivial|refine cM ⟨_,rfl,?_⟩ ?_|refine cM ⟨_,rfl⟩ ?_|rfl|exact bV _ _ _ _|exact bW _ _ _ _|exact bX rfl)),rfl,rfl⟩
  rw [if_pos h3]
  rw [h3] at hPs
  by_cases h4:roomT t=0
  · rw [if_pos h4]
    rw [h4] at hR
    (refine aA<|rgN<|kas O<|aB<|aA<|aF<|aA<|rgN<|kmv O<|K.ptrNil O (by kernel_rfl) (.inl ⟨O,O⟩) dN<|kas O<|aB<|aE O ?_;refine aA<|rgN<|kmv O<|keq O O he0<|kas O<|aB<|aE O ?_;refine aG ?_;refine aA<|aA<|rgN<|kmv O<|kca O O hG<|kmv O<|kex O O<|kex O O<|kas O<|kas O<|aB<|aA<|rgN<|kmv O ?_;refine kne O O (r:=false) O<|kmv O<|gmv O O O<|gmv O O O<|bH O (dO O O) ?_;refine aM O O (dO O O) ?_;refine aN O O O (dO O O) ?_;refine aW O O hne (dO O O) ?_;refine kpf O O<|aB<|aE O ?_;refine aG ?_;refine aA<|aA<|rgN<|kmv O<|bH O dN<|kfa O O ?_;refine bI O O O (by exact nl2 O O O) dN ?_;refine kmv O<|kca O O hPs<|kas O<|aB<|aA<|rgN<|kmv O<|kne O O (r:=false) O<|aB<|aE O ?_;refine aG ?_;refine aA<|aA<|rgN<|kmv O<|K.callR [(1000000,1000000)] (hR) O O (by exact (cM ⟨_,O,O⟩ trivial)) (by exact (bR (bR O (bR O (bR O (bR O (bR O (bR O (bR O O))))))) O)) O O O O dN<|keq O O (r:=true) O<|aB<|aD O ?_;refine aA<|rgN<|kas O<|aB<|aH ?_)
    exact ⟨[],⟨[_],⟨rfl,trivial⟩,rfl⟩,(by repeat' (first|exact trivial|refine cM ⟨_,rfl,?_⟩ ?_|refine cM ⟨_,rfl⟩ ?_|rfl|exact bV _ _ _ _|exact bW _ _ _ _|exact bX rfl)),rfl,rfl⟩
  · rw [if_neg h4]
    generalize roomT t=rm at *
    (refine aA<|rgN<|kas O<|aB<|aA<|aF<|aA<|rgN<|kmv O<|K.ptrNil O (by kernel_rfl) (.inl ⟨O,O⟩) dN<|kas O<|aB<|aE O ?_;refine aA<|rgN<|kmv O<|keq O O he0<|kas O<|aB<|aE O ?_;refine aG ?_;refine aA<|aA<|rgN<|kmv O<|kca O O hG<|kmv O<|kex O O<|kex O O<|kas O<|kas O<|aB<|aA<|rgN<|kmv O ?_;refine kne O O (r:=false) O<|kmv O<|gmv O O O<|gmv O O O<|bH O (dO O O) ?_;refine aM O O (dO O O) ?_;refine aN O O O (dO O O) ?_;refine aW O O hne (dO O O) ?_;refine kpf O O<|aB<|aE O ?_;refine aG ?_;refine aA<|aA<|rgN<|kmv O<|bH O dN<|kfa O O ?_;refine bI O O O (by exact nl2 O O O) dN ?_;refine kmv O<|kca O O hPs<|kas O<|aB<|aA<|rgN<|kmv O<|kne O O (r:=false) O<|aB<|aE O ?_;refine aG ?_;refine aA<|aA<|rgN<|kmv O<|K.callR [(1000000,1000000)] (hR) O O (by exact (cM ⟨_,O,O⟩ trivial)) (by exact (bR (bR O (bR O (bR O (bR O (bR O (bR O (bR O O))))))) O)) O O O O dN<|keq O O (r:=false) (cN (by omega))<|aB<|aE O ?_;refine aG ?_;refine aA<|rgN<|kas O<|aB<|aH ?_)
    exact ⟨[],⟨[_],⟨rfl,trivial⟩,rfl⟩,(by repeat' (first|exact trivial|refine cM ⟨_,rfl,?_⟩ ?_|refine cM ⟨_,rfl⟩ ?_|rfl|exact bV _ _ _ _|exact bW _ _ _ _|exact bX rfl)),rfl,rfl⟩
theorem tAdd_no (t:Tb) (hk:TbOk t) (e:Nat) (he:e<18446744073709551616) (l:List Pt) (pad:Option Addr) (pcap:Nat) (hP:PartsC X pad l) (hl:l.length≤12∧∀ x∈l,x.val.length<4611686018427387904) (h:addE t e l≠0):MSpec Tryz.prog X 10 [Lp 1000000,Ln .u64 (e:Nat),Lx pad l.length pcap] [tB 1000000 t] (.tup [Sn .i64 0,Sn .i64 (addE t e l)]) [tB 1000000 t]:=by
  refine cD Tryz.func10 rfl (by kernel_rfl) rfl rfl (by exact (by repeat' (first|refine bR ?_ ?_|rfl|exact bT|exact bS|exact bU rfl))) rfl rfl ?_
  intro C
  refine LWP.ends (tab_open fun Hs He Hr vE vC vP ps h1 h2 h3 hI => ?_)
  obtain ⟨ad,cap,rfl⟩:=hI.ents.slice
  obtain ⟨cb,cc,rfl,hin⟩:=hI.sc
  rw [cT] at hI ⊢
  have hC:=checkAdd0 (tH X Hs He Hr) t hk ad pad (some ⟨cb,0,none⟩) cap pcap cc vP e l (hin.mono (tH_s h2 h3)) (hP.mono (tH_x h1 h2 h3)).parts hl.1 he
  generalize addE t e l=q at *
  (refine aA<|rgN<|kas O<|kas O<|aB<|aA<|aA<|rgN<|kmv O<|kmv O<|kmv O<|K.callR [(1000000,1000000)] (hC) O O (by exact (cM ⟨_,O,O⟩ trivial)) (by exact (bR (bR O (bR O (bR O (bR O (bR O (bR O (bR O O))))))) O)) O O O O dN<|kas O<|aB ?_;refine aA<|rgN<|kmv O<|kne O O (r:=true) (cP h)<|aB<|aD O ?_;refine aA<|rgN<|kmv O<|kas O<|kas O<|aB<|aH ?_)
  refine tab_shut h1 h2 h3 hI (bZ ?_)
  exact ⟨[],⟨[_,_],⟨rfl,rfl,trivial⟩,rfl⟩,(by repeat' (first|exact trivial|refine cM ⟨_,rfl,?_⟩ ?_|refine cM ⟨_,rfl⟩ ?_|rfl|exact bV _ _ _ _|exact bW _ _ _ _|exact bX rfl)),rfl,rfl⟩
set_option maxHeartbeats 6400000 in
theorem tAdd (t:Tb) (hk:TbOk t) (e:Nat) (he:e<18446744073709551616) (l:List Pt) (pad:Option Addr) (pcap:Nat) (hP:PartsC X pad l) (hl:l.length≤12∧∀ x∈l,x.val.length<4611686018427387904) (h:addE t e l=0):MSpec Tryz.prog X 10 [Lp 1000000,Ln .u64 (e:Nat),Lx pad l.length pcap] [tB 1000000 t] (.tup [Sn .i64 (t.l.length:Nat),Sn .i64 0]) [tB 1000000 (addT t e l)]:=by
  have h24:=t_len24 hk
  have hroom:=hk.room
  have hmost:=hk.most
  obtain ⟨_,hjust,hparts,_,hrm⟩:=TbOk.add hk he h
  refine cD Tryz.func10 rfl (by kernel_rfl) rfl rfl (by exact (by repeat' (first|refine bR ?_ ?_|rfl|exact bT|exact bS|exact bU rfl))) rfl rfl ?_
  intro C
  refine LWP.ends (tab_open fun Hs He Hr vE vC vP ps h1 h2 h3 hI => ?_)
  obtain ⟨ad,cap,rfl⟩:=hI.ents.slice
  obtain ⟨cb,cc,rfl,hin⟩:=hI.sc
  have hll:(t.l.map Rw.e).length=t.l.length:=cT _
  obtain ⟨ptad,ptcap,rfl,hPt⟩:=hI.ptrs
  have hps:ps.length=(onlyC t.sc.cs t.set).length:=by rw [hI.refs.len];exact colsG_len _ _ _
  rw [hll]
  have hC:=checkAdd0 (tH X Hs He Hr) t hk ad pad (some ⟨cb,0,none⟩) cap pcap cc (.slice ptad ps.length ptcap) e l (hin.mono (tH_s h2 h3)) (hP.mono (tH_x h1 h2 h3)).parts hl.1 he
  rw [h] at hC
  generalize hnc:(onlyC t.sc.cs t.set).length=nc at *
  (refine aA<|rgN<|kas O<|kas O<|aB<|aA<|aA<|rgN<|kmv O<|kmv O<|kmv O<|K.callR [(1000000,1000000)] (hC) O O (by exact (cM ⟨_,O,O⟩ trivial)) (by exact (bR (bR O (bR O (bR O (bR O (bR O (bR O (bR O O))))))) O)) O O O O dN<|kas O<|aB ?_;refine aA<|rgN<|kmv O<|kne O O (r:=false) O<|aB<|aE O ?_;refine aG ?_;refine aA<|aA<|rgN<|kmv O<|aP O bY O dN ?_;refine kmv O<|aB<|aF ?_)
  refine cH (fun m σ=>∃ (j:Nat) (H:Nat→Option Obj),j≤l.length∧m=l.length-j∧OwnedM C (joinM (joinM X Hs) He) H∧Refs H ps (colsG (addF t.l l j) t.most (onlyC t.sc.cs t.set))∧σ=⟨[(0,Lp 1000000),(1,Ln .u64 (e:Nat)),(21,Lx pad l.length pcap),(22,Ln .i64 (l.length:Nat)),(23,Ln .i64 (j:Nat))],[tS 1000000 t (vS ad t.l.length cap) (.slice (some ⟨cb,0,none⟩) nc cc) (.slice ptad ps.length ptcap)],joinM (joinM (joinM X Hs) He) H⟩) l.length
    (cA (σ':=⟨[(0,Lp 1000000),(1,Ln .u64 (e:Nat)),(21,Lx pad l.length pcap),(22,Ln .i64 (l.length:Nat)),(23,Ln .i64 (0:Nat))],[tS 1000000 t (vS ad t.l.length cap) (.slice (some ⟨cb,0,none⟩) nc cc) (.slice ptad ps.length ptcap)],tH X Hs He Hr⟩) (Le.of (by exact ⟨rfl,rfl,rfl,rfl,rfl,trivial⟩) (by exact ⟨rfl,trivial⟩) (by exact rfl) (by exact rfl) (by repeat' (first|refine bR ?_ ?_|rfl|exact bT|exact bS|exact bU rfl))) (bZ ⟨0,Hr,by omega,by omega,h3,by
      rw [show colsG (addF t.l l 0) t.most (onlyC t.sc.cs t.set)=colsT t from colsG_congr fun k d _=>addF_zero t.l l k d]
      exact hI.refs,O⟩)) ?_
  rintro m σ ⟨j,H,hj,rfl,hO,hR,rfl⟩
  by_cases hlt:j<l.length
  · obtain ⟨p,hp⟩:∃ p,l[j]? = some p:=⟨_,cU hlt⟩
    have hpm:=cZ hp
    have hidm:=just_in hjust p hpm
    obtain ⟨k,hpl⟩:∃ k,placeT t.set p.comp=some k:=by
      have:(placeT t.set p.comp).isSome=true:=by rw [← t_has,← any_ids,List.any_eq_true];exact ⟨_,hidm,cR rfl⟩
      exact Option.isSome_iff_exists.1 this
    obtain ⟨c,hc,hid,hfs,_⟩:=t_at hk hpl
    have hfit:fitErr c.fs p.val=0:=by have:=part_fits (parts_zero hparts p hpm);rw [hfs] at this;exact this
    have hsz:=t_size hk hc
    have hXm:∀ b o,X b=some o→joinM (joinM (joinM X Hs) He) H b=some o:=tH_x h1 h2 hO
    obtain ⟨blk,off,arr,el,fr,vad,vcap,rfl,hX,hps2,hpc,_,_,hN,_⟩:=(hP.mono hXm).get hp
    have hio:off+Int.toNat (j:Int)*2=off+j*2:=by simp
    have hpl0:=place0 (joinM (joinM (joinM X Hs) He) H) t (.slice ad t.l.length cap) (.slice ptad ps.length ptcap) (onlyC t.sc.cs t.set) (some ⟨cb,0,none⟩) cc p.comp (hin.mono (tH_s h2 hO)) (by omega)
    rw [t_place hk,hpl,hnc] at hpl0
    replace hpl0:=(show MSpec _ _ _ [Lp 1000000,Ln .i64 p.comp] _ (Ln .i64 (k:Nat)) _ from hpl0)
    obtain ⟨cblk,coff,carr,cel,cfr,fad,fcap,hq,hcX,hcsz,hccs,_,_,g3,hF⟩:=(hin.mono (tH_s (X:=X) h2 hO)).get hc
    simp only [Option.some.injEq,Addr.mk.injEq] at hq
    obtain ⟨rfl,rfl,_⟩:=hq
    have hPk:=lPack_spec (joinM (joinM (joinM X Hs) He) H) fad vad fcap vcap c.fs p.val hF (by omega) hN (hl.2 p hpm)
    rw [hfit,show packR c.fs p.val=packB c.fs p.val from if_pos hfit] at hPk
    have hkc:=(List.getElem?_eq_some_iff.1 hc).1
    have hio2:0+Int.toNat (k:Int)*3=0+k*3:=by simp
    have hBl:=hsz.2.2 p.val
    obtain ⟨hf1,hf2⟩:=addF_here (l:=t.l) (k:=k) hjust hp hid
    have hothers:∀ k' d,k'≠k→(onlyC t.sc.cs t.set)[k']? = some d→addF t.l l (j+1) k' d=addF t.l l j k' d:=fun k' d hne hd=>addF_there hp fun e'=>by
      have hpw:=(pair16 (goodC16 hk.sc)).filter (fun c=>hasB t.set c.id)
      rw [List.pairwise_iff_getElem] at hpw
      obtain ⟨hk1,rfl⟩:=List.getElem?_eq_some_iff.1 hd
      obtain ⟨hk2,rfl⟩:=List.getElem?_eq_some_iff.1 hc
      rcases Nat.lt_or_gt_of_ne hne with hlt'|hlt'
      · have:=hpw k' k hk1 hk2 hlt'
        unfold onlyC at e' hid
        omega
      · have:=hpw k k' hk2 hk1 hlt'
        unfold onlyC at e' hid
        omega
    generalize hBB:packB c.fs p.val=B at *
    (refine aA<|rgN<|klt O O (cL (by omega))<|aB<|aA<|aD O ?_;refine aG ?_;refine aA<|aF<|aA<|rgN<|aQ O O bY (by omega) hio dN<|aX O hX (by kernel_rfl) hps2 hpc dN<|aO O dN ?_;refine aL O O O O O O dN ?_;refine aB<|aA<|rgN<|kmv O<|kfa O O ?_;refine kl1 O O O<|K.callR [(1000000,1000000)] (hpl0) O O (by exact (cM ⟨_,O,O⟩ trivial)) (by exact (bR (bR O (bR O (bR O (bR O (bR O (bR O (bR O O))))))) O)) O O O O dN<|kas O<|aB<|aA<|rgD mixed<|kmv O<|bH O dN<|kfa O O ?_;refine kfa O O ?_;refine kl1 O O O<|kmv O<|aQ O O bY (by omega) hio2 dN<|bG O O dN ?_;refine aV O hcX O g3 dN<|kfa O O ?_;refine kl1 O O O<|kca O O hPk<|kmv O<|kex O O<|kex O O<|kas O<|kas O<|aB<|rgA ?_)
    refine LWP.le (σ':=⟨[(11,Ln .i64 (k:Nat)),(12,Ls B),(0,Lp 1000000),(1,Ln .u64 (e:Nat)),(21,Lx (some ⟨blk,off,none⟩) l.length pcap),(22,Ln .i64 (l.length:Nat)),(23,Ln .i64 (j:Nat))],[tS 1000000 t (vS ad t.l.length cap) (.slice (some ⟨cb,0,none⟩) nc cc) (.slice ptad ps.length ptcap)],joinM (joinM (joinM X Hs) He) H⟩) (Le.of (by exact ⟨O,O,O,O,O,O,O,trivial⟩) (by exact ⟨O,trivial⟩) (by exact O) (by exact O) (by repeat' (first|refine bR ?_ ?_|rfl|exact bT|exact bS|exact bU O))) ?_
    refine tcol_open (kk:=501) hO hR (colsG_at hc) O O O (by omega) fun b H0 hb hO0 hback => ?_
    obtain ⟨pblk,parr,pel,pfr,rfl,hPX,hPa⟩:=hPt k b hb
    have hPX2:joinM (joinM (joinM X Hs) He) H0 pblk=some (.cells parr pel pfr):=tH_s h2 hO0 _ _ hPX
    have hkl:=(List.getElem?_eq_some_iff.1 hb).1
    have hio3:0+Int.toNat (k:Int)*1=k:=by simp
    have hcl:(colL t.l k c).length=t.l.length:=cT _
    have happ:appE (rowSize c.fs) t.most (colL t.l k c).length B=0:=by
      unfold appE
      unfold roomT at hrm
      rw [if_neg (fun hn=>hn hBl),if_neg (by omega)]
    have hg:=(cAppend_ok (joinM (joinM (joinM X Hs) He) H0) (rowSize c.fs) t.most (colL t.l k c) B happ).at (b:=b)
    have hroot:=colR_root (rowSize c.fs) t.most (colL t.l k c++[B])
    have hadd:IntKind.i64.wrap (((j:Nat):Int)+1)=((j+1:Nat):Int):=by rw [cE (by omega)];omega
    rw [hf1]
    (refine rgN<|kmv O<|bH O dN<|kfa O O ?_;refine kl1 O O O<|kmv O<|aQ O O bY (by omega) hio3 dN<|aV O hPX2 O hPa dN<|kmv O<|aT [(1000000,501)] [atB 501 b (rowSize c.fs) t.most (colL t.l k c++[B])] (hg) O O (by exact (cM ⟨_,O,O⟩ trivial)) (by exact (bR O O)) O O O O (by exact (.box O O .nil)) dN<|aB<|rgN<|kad O O hadd<|kmv O<|aB ?_)
    refine cA (σ':=⟨[(0,Lp 1000000),(1,Ln .u64 (e:Nat)),(21,Lx (some ⟨blk,off,none⟩) l.length pcap),(22,Ln .i64 (l.length:Nat)),(23,Ln .i64 (j+1:Nat))],[atB 501 b (rowSize c.fs) t.most (colL t.l k c++[B]),tS 1000000 t (vS ad t.l.length cap) (.slice (some ⟨cb,0,none⟩) nc cc) (.slice (some ⟨pblk,0,none⟩) ps.length ptcap)],joinM (joinM (joinM X Hs) He) H0⟩) (Le.of (by exact ⟨O,O,O,O,O,trivial⟩) (by exact ⟨O,O,trivial⟩) (by exact O) (by exact O) (by repeat' (first|refine bR ?_ ?_|rfl|exact bT|exact bS|exact bU O))) ?_
    refine tcol_shut hO0 hroot O O O fun m' Hc' g1 g2 g3 g4 => ?_
    have hB:=hback _ m' Hc' g1 g2 g3
    rw [← hf2,colsG_set hc (g:=addF t.l l (j+1)) hothers] at hB
    exact bZ ⟨l.length-(j+1),by omega,j+1,_,by omega,O,g4,hB,O⟩
  · have e':j=l.length:=by omega
    subst e'
    have hRn:Refs H ps (colsT (addT t e l)):=by
      have:colsT (addT t e l)=colsG (addF t.l l l.length) t.most (onlyC t.sc.cs t.set):=by
        show colsG (colL (t.l++[⟨e,sortP (idsL t.set) l⟩])) t.most (onlyC t.sc.cs t.set)=_
        exact colsG_congr fun k d hd=>(addF_all hk hjust e hd).symm
      rw [this];exact hR
    have hents:(addT t e l).l.map Rw.e=t.l.map Rw.e++[e]:=by
      show (t.l++[_]).map Rw.e=_
      rw [dD];rfl
    have hb256:t.l.length<256:=by unfold roomT at hrm;omega
    obtain ⟨hsw1,hsw2,hsw3⟩:=OwnedM.swap h2 hO
    have hE:=hI.ents
    have htwo:∀ r∈(addT t e l).l,∀ p∈r.p,∀ u∈p.val,In2 u.2:=fun r hr p hp=>by
      rcases List.mem_append.1 hr with hr|hr
      · exact hI.two r hr p hp
      · rw [List.mem_singleton.1 hr] at hp
        obtain ⟨i,hi⟩:=List.mem_iff_getElem?.1 (sort_mem hp)
        obtain ⟨_,_,_,_,_,_,_,_,_,_,_,_,_,hN,_⟩:=hP.get hi
        exact hN.in2
    rw [hsw3]
    rw [hll] at hE
    have hnew:entV (t.l.map Rw.e++[e])=entV (t.l.map Rw.e)++[.int .u64 (e:Nat)]:=by unfold entV;rw [dD];rfl
    have hsub:IntKind.i64.wrap (((t.l.length+1:Nat):Int)-1)=((t.l.length:Nat):Int):=by rw [cE (by omega)];omega
    have hlen1:(entV (t.l.map Rw.e++[e])).length=(t.l.length+1)*1:=by unfold entV;rw [cT,cS,hll];simp
    have hfin:∀ (He':Nat→Option Obj) (Mid:St→Prop),OwnedM C (joinM (joinM X Hs) H) He'→(∀ v HE,OwnedM C (joinM (joinM X Hs) H) HE→EntsAt HE v (t.l.map Rw.e++[e])→Leads _ C Mid ⟨[(6,Ln .i64 (t.l.length:Nat)),(7,Ln .i64 0)],[tS 1000000 t (.val v) (.slice (some ⟨cb,0,none⟩) nc cc) (.slice ptad ps.length ptcap)],joinM (joinM (joinM X Hs) H) HE⟩) →
        Leads (Tryz.f10).ntmps C Mid ⟨[(6,Ln .i64 (t.l.length:Nat)),(7,Ln .i64 0)],[(1000000,some ⟨92,[.val (.int .u32 (t.set:Nat)),.val (.int .i64 (t.most:Nat)),.val (.int .i64 (t.kept:Nat))] ++ .slc 501 0 (t.l.length+1) 1::[.val (.int .i64 t.sc.ver),.val (.slice (some ⟨cb,0,none⟩) nc cc),.val (.slice ptad ps.length ptcap)],false⟩),(501,some ⟨37,(entV (t.l.map Rw.e++[e])).map CV.val,true⟩)],joinM (joinM (joinM X Hs) H) He'⟩:=fun He' Mid hO' hm =>
      Leads.closeCell hO' hlen1 rfl rfl rfl rfl rfl rfl fun b o v g1 g2 g3 g4=>hm v _ g3 (.inr ⟨b,g4⟩)
    have hlast:∀ v HE,OwnedM C (joinM (joinM X Hs) H) HE→EntsAt HE v (t.l.map Rw.e++[e])→Leads (Tryz.f10).ntmps C (retM Tryz.prog Tryz.f10 [tB 1000000 t] (.tup [Sn .i64 (t.l.length:Nat),Sn .i64 0]) [tB 1000000 (addT t e l)] .ret) ⟨[(6,Ln .i64 (t.l.length:Nat)),(7,Ln .i64 0)],[tS 1000000 t (.val v) (.slice (some ⟨cb,0,none⟩) nc cc) (.slice ptad ps.length ptcap)],joinM (joinM (joinM X Hs) H) HE⟩:=fun v HE k0 kE=>by
      obtain ⟨k1,k2,k3⟩:=OwnedM.swap hsw1 k0
      rw [k3]
      refine tab_shut (t:=addT t e l) h1 k1 k2 ⟨⟨cb,cc,by rw [← hnc];rfl,hin⟩,⟨ptad,ptcap,rfl,hPt⟩,hRn,by rw [hents];exact kE,htwo⟩ (bZ ?_)
      exact ⟨[],⟨[_,_],⟨rfl,rfl,trivial⟩,rfl⟩,(by repeat' (first|exact trivial|refine cM ⟨_,rfl,?_⟩ ?_|refine cM ⟨_,rfl⟩ ?_|rfl|exact bV _ _ _ _|exact bW _ _ _ _|exact bX rfl)),rfl,rfl⟩
    rcases hE with ⟨hv,hz⟩|⟨db,hd⟩
    · have hz0:t.l.length=0:=by rw [← hll,hz];rfl
      simp only [nilSlc,Value.slice.injEq] at hv
      obtain ⟨rfl,_,rfl⟩:=hv
      rw [hz] at hfin hlast
      rw [hz0] at hfin hlast ⊢
      have hsub1:IntKind.i64.wrap (((1:Nat):Int)-1)=((0:Nat):Int):=by rw [cE (by omega)];rfl
      (refine aA<|rgN<|klt O O (cK (by omega))<|aB<|aA<|aE O ?_;refine aI<|aA<|rgN<|kmv O<|kmv O<|bH O dN<|kfa O O ?_;refine kl1 O O O<|kmv O<|aY (zs:=[.int .u64 0]) (sz:=1) (e:=37) (cs':=[.val (.int .u64 (e:Nat))]) (by kernel_rfl) O O O O O O dN<|K.appendNil (by_:=8) (e:=37) (e2:=37) (l2:=[.val (.int .u64 (e:Nat))]) O O O (dJ _) O O (by decide) (by kernel_rfl) (by kernel_rfl) (by omega) (by omega) O dN ?_;refine bH O dN<|kfa O O ?_;refine bF O O O O O (nl7 O O O O O O O O) dN<|aB<|aA<|rgN<|kmv O<|bH O dN<|kfa O O ?_;refine kl1 O O O<|K.lenSlc O bY O dN ?_;refine aZ O O hsub1 dN<|kas O<|kas O<|aB<|aH ?_)
      refine cA (σ':=⟨[(6,Ln .i64 (0:Nat)),(7,Ln .i64 0)],[(1000000,some ⟨92,[.val (.int .u32 (t.set:Nat)),.val (.int .i64 (t.most:Nat)),.val (.int .i64 (t.kept:Nat))] ++ .slc 501 0 (0+1) 1::[.val (.int .i64 t.sc.ver),.val (.slice (some ⟨cb,0,none⟩) nc cc),.val (.slice ptad ps.length ptcap)],false⟩),(501,some ⟨37,(entV ([]++[e])).map CV.val,true⟩)],joinM (joinM (joinM X Hs) H) He⟩) (Le.ofR [(501,63)] (by exact ⟨rfl,rfl,trivial⟩) (by repeat' (first|exact trivial|refine cM ⟨_,rfl,?_⟩ ?_|refine cM ⟨_,rfl⟩ ?_|rfl|exact bV _ _ _ _|exact bW _ _ _ _|exact bX rfl)) (by exact rfl) (by exact rfl) (by repeat' (first|refine bR ?_ ?_|rfl|exact bT|exact bS|exact bU rfl)) (by exact rfl) (by exact rfl)) ?_
      exact hfin _ _ hsw2 hlast
    · have hel:(entV (t.l.map Rw.e)).length=t.l.length*1:=by unfold entV;rw [cT,hll];omega
      have hcl1:((entV (t.l.map Rw.e)).map CV.val).length=t.l.length*1:=by rw [cT];exact hel
      (refine aA<|rgN<|klt O O (cK (by omega))<|aB<|aA<|aE O ?_;refine aI<|aA ?_)
      refine LWP.le (σ':=⟨[(0,Lp 1000000),(1,Ln .u64 (e:Nat))],[tS 1000000 t (vS ad t.l.length cap) (.slice (some ⟨cb,0,none⟩) nc cc) (.slice ptad ps.length ptcap)],joinM (joinM (joinM X Hs) H) He⟩) (Le.of (by exact ⟨O,O,trivial⟩) (by exact ⟨O,trivial⟩) (by exact O) (by exact O) (by repeat' (first|refine bR ?_ ?_|rfl|exact bT|exact bS|exact bU O))) ?_
      refine LWP.openCell (A:=[.val (.int .u32 (t.set:Nat)),.val (.int .i64 (t.most:Nat)),.val (.int .i64 (t.kept:Nat))]) (B:=[.val (.int .i64 t.sc.ver),.val (.slice (some ⟨cb,0,none⟩) nc cc),.val (.slice ptad ps.length ptcap)]) (k:=502) (sz:=1) (len:=t.l.length) hsw2 hd hel (by omega) O O O O O ?_
      (refine rgN<|kmv O<|kmv O<|bH O dN<|kfa O O ?_;refine kl1 O O O<|kmv O<|aY (zs:=[.int .u64 0]) (sz:=1) (e:=37) (cs':=[.val (.int .u64 (e:Nat))]) (by kernel_rfl) O O O O O O dN<|bO (by_:=8) (e2:=37) (l2:=[.val (.int .u64 (e:Nat))]) (nl:=t.l.length+1) (nc:=(entV (t.l.map Rw.e++[e])).map .val) O O hcl1 O O (dJ _) O O (by kernel_rfl) (by kernel_rfl) (by omega) (by omega) O O (by rw [hnew,dD];rfl) dN<|bH O dN<|kfa O O ?_;refine bF O O O O O (nl7 O O O O O O O O) dN<|aB<|aA<|rgN<|kmv O<|bH O dN<|kfa O O ?_;refine kl1 O O O<|K.lenSlc O bY O dN ?_;refine aZ O O hsub dN<|kas O<|kas O<|aB<|aH ?_)
      refine cA (σ':=⟨[(6,Ln .i64 (t.l.length:Nat)),(7,Ln .i64 0)],[(1000000,some ⟨92,[.val (.int .u32 (t.set:Nat)),.val (.int .i64 (t.most:Nat)),.val (.int .i64 (t.kept:Nat))] ++ .slc 501 0 (t.l.length+1) 1::[.val (.int .i64 t.sc.ver),.val (.slice (some ⟨cb,0,none⟩) nc cc),.val (.slice ptad ps.length ptcap)],false⟩),(501,some ⟨37,(entV (t.l.map Rw.e++[e])).map CV.val,true⟩)],joinM (joinM (joinM X Hs) H) (cutM He db)⟩) (Le.ofR [(501,63)] (by exact ⟨rfl,rfl,trivial⟩) (by repeat' (first|exact trivial|refine cM ⟨_,rfl,?_⟩ ?_|refine cM ⟨_,rfl⟩ ?_|rfl|exact bV _ _ _ _|exact bW _ _ _ _|exact bX rfl)) (by exact rfl) (by exact rfl) (by repeat' (first|refine bR ?_ ?_|rfl|exact bT|exact bS|exact bU rfl)) (by exact rfl) (by exact rfl)) ?_
      exact hfin _ _ (hsw2.cut db) hlast
end Go.Proofs.YtbpdbclndfmcgaaGreatDoor
end
