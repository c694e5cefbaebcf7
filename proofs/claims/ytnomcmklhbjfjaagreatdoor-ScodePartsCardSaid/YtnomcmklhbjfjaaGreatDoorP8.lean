/- A piece of a proof over this program: contracts of its functions, and a logic to prove them by. -/
import Derived.Test.YtnomcmklhbjfjaaGreatDoorP6
import Derived.Test.YtnomcmklhbjfjaaGreatDoorP7
section
namespace Go.Proofs.YtnomcmklhbjfjaaGreatDoor
open Go Go.Lg Go.Lg.Fld
set_option maxRecDepth 100000
theorem risesP_snoc : ∀ {last : Int} {a : List Pt} {p : Pt}, risesP last (a ++ [p]) ↔ risesP last a ∧ lastC last a < p.comp
  | last, [], p => by simp [risesP, lastC]
  | last, q :: t, p => by
    simp only [List.cons_append, risesP, lastC]
    rw [risesP_snoc (a := t)]
    exact and_assoc.symm
theorem risesP_take : ∀ {last : Int} {ps : List Pt} (k : Nat), risesP last ps → risesP last (ps.take k)
  | _, [], k, _ => by rw [List.take_nil]; exact trivial
  | _, _ :: _, 0, _ => trivial
  | last, q :: t, k + 1, h => ⟨h.1, risesP_take k h.2⟩
theorem lastC_take {last : Int} {ps : List Pt} {i : Nat} {q : Pt} (hi : 0 < i) (hq : ps[i - 1]? = some q) : lastC last (ps.take i) = q.comp := by
  have h := take_snoc hq
  rw [show i - 1 + 1 = i by omega] at h
  rw [h, lastC_snoc]
theorem encPs_snoc {cs : List Cp} {ps : List Pt} {i : Nat} {p : Pt} (hp : ps[i]? = some p) : encPs cs (ps.take (i + 1)) = encPs cs (ps.take i) ++ encP cs p := by
  rw [take_snoc hp, encPs_app]
  simp only [encPs, List.append_nil]
def encPt' (cs : List Cp) (ps : List Pt) (i : Nat) : List UInt8 := by8 ps.length :: encPs cs (ps.take i)
theorem find_ix {cs : List Cp} {id : Int} {c : Cp} (h : cs.find? (fun c => c.id == id) = some c) : ∃ k : Nat, cs[k]? = some c ∧ findI (fun c => c.id == id) cs = (k : Nat) := by
  rcases find_cases cs id with ⟨k, d, hd, he, hpre⟩ | hno
  · rw [find_at hpre hd he] at h
    cases h
    exact ⟨k, hd, findI_some hpre hd (by rw [beq_iff_eq]; exact he)⟩
  · rw [find_no hno] at h
    cases h
variable (X : Nat → Option Obj)
set_option maxHeartbeats 6400000 in
theorem sPartsEnc_spec (s : Sc) (ad pad : Option Addr) (cap pcap : Nat) (ps : List Pt) (hin : CompsIn X ad s.cs) (hbig : s.cs.length < 4611686018427387904) (hfs : ∀ c ∈ s.cs, c.fs.length < 4611686018427387904) (hps : PartsIn X pad ps) (hpb : ps.length ≤ 12) (hnb : ∀ p ∈ ps, p.val.length < 4611686018427387904) :
    PSpec Tryz.prog X 16 [Sx s.ver ad s.cs.length cap, Lx pad ps.length pcap] (.tup [Ss (pTx s ps), Sn .i64 (pErr s ps)]) := by
  obtain ⟨ver, cs⟩ := s
  simp only at hin hbig hfs ⊢
  refine PSpec.intro Tryz.func16 rfl (by kernel_rfl) rfl rfl ?_
  intro C
  have c1 := sCheck_spec X ⟨ver, cs⟩ ad cap hin hbig hfs
  simp only at c1
  by_cases h0 : ¬(chkE ⟨ver, cs⟩ = 0)
  · have he : pErr ⟨ver, cs⟩ ps = chkE ⟨ver, cs⟩ := by unfold pErr; rw [if_neg h0]
    rw [pTx_no (by rw [he]; exact h0), he]
    have hne : (chkE ⟨ver, cs⟩ != 0) = true := by rw [bne_iff_ne]; exact h0
    generalize chkE ⟨ver, cs⟩ = e at *
    (refine LWP.seq <| LWP.region (by kernel_rfl) <| K.box rfl rfl rfl .plain <| kas rfl <| kas rfl <| RunK.nil <| LWP.seq <| LWP.seq <| LWP.region (by kernel_rfl) <| K.loadAll rfl rfl rfl .plain ?_; refine kca rfl rfl c1 <| kas rfl <| RunK.nil <| LWP.seq <| LWP.region (by kernel_rfl) <| kmv rfl <| kne rfl rfl hne <| RunK.nil <| LWP.condT rfl ?_; refine LWP.seq <| LWP.region (by kernel_rfl) <| kmv rfl <| kas rfl <| kas rfl <| RunK.nil <| LWP.ret ?_)
    exact ⟨[_, _], ⟨rfl, rfl, trivial⟩, rfl⟩
  replace h0 := Decidable.not_not.1 h0
  have c2 := sParts_spec X ver ad pad cap pcap cs ps hin hbig hfs hps (by omega) hnb
  by_cases h1 : ¬(partsE cs ps = 0)
  · have he : pErr ⟨ver, cs⟩ ps = partsE cs ps := by unfold pErr; rw [if_pos h0, if_neg h1]
    rw [pTx_no (by rw [he]; exact h1), he]
    rw [h0] at c1
    have hne : (partsE cs ps != 0) = true := by rw [bne_iff_ne]; exact h1
    generalize partsE cs ps = e at *
    (refine LWP.seq <| LWP.region (by kernel_rfl) <| K.box rfl rfl rfl .plain <| kas rfl <| kas rfl <| RunK.nil <| LWP.seq <| LWP.seq <| LWP.region (by kernel_rfl) <| K.loadAll rfl rfl rfl .plain ?_; refine kca rfl rfl c1 <| kas rfl <| RunK.nil <| LWP.seq <| LWP.region (by kernel_rfl) <| kmv rfl <| kne rfl rfl (r := false) (by decide) <| RunK.nil <| LWP.condF rfl ?_; refine LWP.skip ?_; refine LWP.seq <| LWP.seq <| LWP.region (by kernel_rfl) <| K.loadAll rfl rfl rfl .plain ?_; refine kmv rfl <| kca rfl rfl c2 <| kas rfl <| RunK.nil <| LWP.seq <| LWP.region (by kernel_rfl) <| kmv rfl <| kne rfl rfl hne <| RunK.nil <| LWP.condT rfl ?_; refine LWP.seq <| LWP.region (by kernel_rfl) <| kmv rfl <| kas rfl <| kas rfl <| RunK.nil <| LWP.ret ?_)
    exact ⟨[_, _], ⟨rfl, rfl, trivial⟩, rfl⟩
  replace h1 := Decidable.not_not.1 h1
  have hok := parts_ok1 (s := ⟨ver, cs⟩) h0 hps h1
  rw [h0] at c1
  rw [h1] at c2
  have w0 : IntKind.u8.wrap ((ps.length : Nat) : Int) = (((by8 (ps.length : Nat)).toNat : Nat) : Int) := by8_wrap _
  (refine LWP.seq <| LWP.region (by kernel_rfl) <| K.box rfl rfl rfl .plain <| kas rfl <| kas rfl <| RunK.nil <| LWP.seq <| LWP.seq <| LWP.region (by kernel_rfl) <| K.loadAll rfl rfl rfl .plain ?_; refine kca rfl rfl c1 <| kas rfl <| RunK.nil <| LWP.seq <| LWP.region (by kernel_rfl) <| kmv rfl <| kne rfl rfl (r := false) (by decide) <| RunK.nil <| LWP.condF rfl ?_; refine LWP.skip ?_; refine LWP.seq <| LWP.seq <| LWP.region (by kernel_rfl) <| K.loadAll rfl rfl rfl .plain ?_; refine kmv rfl <| kca rfl rfl c2 <| kas rfl <| RunK.nil <| LWP.seq <| LWP.region (by kernel_rfl) <| kmv rfl <| kne rfl rfl (r := false) (by decide) <| RunK.nil <| LWP.condF rfl ?_; refine LWP.skip ?_; refine LWP.seq <| LWP.region (by kernel_rfl) <| kmv rfl <| K.lenX rfl SliceT.h rfl .plain ?_; refine kcv rfl w0 ?_; refine K.buildSlc (zs := [.int .u8 0]) (sz := 1) (e := 5) (cs' := [by8 (ps.length : Nat)].map bc) (by kernel_rfl) rfl rfl rfl rfl rfl rfl .plain <| K.convStr (l := [by8 (ps.length : Nat)]) rfl rfl (by kernel_rfl) StrT.u (Nat.le_refl _) rfl .plain <| kas rfl <| RunK.nil <| LWP.seq <| LWP.seq <| LWP.region (by kernel_rfl) <| kas rfl <| RunK.nil <| LWP.block ?_)
  refine LWP.loop (fun m σ => ∃ i : Nat, i ≤ ps.length ∧ m = ps.length - i ∧ risesP (-1) (ps.take i) ∧ σ = ⟨[(1, Lx pad ps.length pcap), (2, Lp 2), (8, Ls (encPt' cs ps i)), (9, Ln .i64 (i : Nat))], [sxB 2 ver ad cs.length cap], X⟩) ps.length
    ⟨_, Le.of (by exact ⟨rfl, rfl, rfl, rfl, trivial⟩) (by exact ⟨rfl, trivial⟩) (by exact rfl) (by exact rfl) (by repeat' (first | refine all_cons_true ?_ ?_ | rfl | exact bytes_inUse | exact vals_inUse | exact mid_inUse rfl)), 0, by omega, by omega, trivial, rfl⟩ ?_
  rintro m σ ⟨i, hi, rfl, hr, rfl⟩
  by_cases hlt : i < ps.length
  · obtain ⟨p, hp⟩ : ∃ p, ps[i]? = some p := ⟨_, List.getElem?_eq_getElem hlt⟩
    obtain ⟨blk, off, arr, el, fr, vad, vcap, rfl, hX, hsz, hcs, g1, g2, hN⟩ := hps.get hp
    have hio : off + Int.toNat (i : Int) * 2 = off + i * 2 := by simp
    obtain ⟨k1, k2, k3⟩ := hok p (List.mem_of_getElem? hp)
    obtain ⟨c, hfd, hfit⟩ := partE_find k1
    obtain ⟨k, hc, hfi⟩ := find_ix hfd
    have hk : k < cs.length := (List.getElem?_eq_some_iff.1 hc).1
    obtain ⟨blk', off', arr', el', fr', fad, fcap, rfl, hX', hsz', _, _, _, g3, hF⟩ := hin.get hc
    have hko : off' + Int.toNat (k : Int) * 3 = off' + k * 3 := by simp
    have hq := sFind_spec X ver (some ⟨blk', off', none⟩) cap cs p.comp hin hbig
    rw [hfi] at hq
    have hP := refPack_spec X fad vad fcap vcap c.fs p.val hF (hfs c (List.mem_of_getElem? hc)) hN hfit
    have wb := by8_wrap p.comp
    have hfa : fsAt cs p.comp = c.fs := by unfold fsAt; rw [hfd]
    have hnx : (encPt' cs ps i ++ [by8 p.comp]) ++ packB c.fs p.val = encPt' cs ps (i + 1) := by
      unfold encPt'
      rw [encPs_snoc hp]
      unfold encP
      rw [hfa]
      simp
    have hl1 : (packB c.fs p.val).length ≤ 256 := by
      obtain ⟨_, hall, h256⟩ := layErr_facts (fitErr_facts hfit).1
      rw [packB_len hall p.val]; omega
    have hl0 : (encPt' cs ps i).length ≤ 1 + 12 * 257 := by
      have h := encPs_len (cs := cs) (ps := ps.take i) fun q hq => hok q (List.mem_of_mem_take hq)
      rw [List.length_take] at h
      unfold encPt'
      rw [List.length_cons]; omega
    have hs1 : (⟨(encPt' cs ps i).toArray⟩ : ByteArray).size = (encPt' cs ps i).length := rfl
    have hs2 : (⟨[by8 p.comp].toArray⟩ : ByteArray).size = 1 := rfl
    have hs5 : (⟨#[by8 p.comp]⟩ : ByteArray).size = 1 := rfl
    have hs3 : (⟨(encPt' cs ps i ++ [by8 p.comp]).toArray⟩ : ByteArray).size = (encPt' cs ps i).length + 1 := by show (encPt' cs ps i ++ [by8 p.comp]).length = _; rw [List.length_append]; rfl
    have hs4 : (⟨(packB c.fs p.val).toArray⟩ : ByteArray).size = (packB c.fs p.val).length := rfl
    have hcat1 : (⟨(encPt' cs ps i).toArray⟩ : ByteArray) ++ ⟨[by8 p.comp].toArray⟩ = ⟨(encPt' cs ps i ++ [by8 p.comp]).toArray⟩ := str_add _ _
    have hcat2 : (⟨(encPt' cs ps i ++ [by8 p.comp]).toArray⟩ : ByteArray) ++ ⟨(packB c.fs p.val).toArray⟩ = ⟨(encPt' cs ps (i + 1)).toArray⟩ := by rw [str_add, hnx]
    (refine LWP.seq <| LWP.seq <| LWP.region (by kernel_rfl) <| kmv rfl <| kmv rfl <| K.lenX rfl SliceT.h rfl .plain ?_; refine klt rfl rfl (decide_eq_true (by omega)) <| RunK.nil <| LWP.condT rfl ?_; refine LWP.skip ?_; refine LWP.seq <| LWP.block <| LWP.seq <| LWP.seq ?_)
    by_cases hbad : 0 < i ∧ p.comp ≤ lastC (-1) (ps.take i)
    · obtain ⟨hi0, hle⟩ := hbad
      obtain ⟨q, hqp⟩ : ∃ q, ps[i - 1]? = some q := ⟨_, List.getElem?_eq_getElem (by omega)⟩
      rw [lastC_take hi0 hqp] at hle
      have hno : ¬ risesP (-1) ps := fun h => by
        have h2 := risesP_take (i + 1) h
        rw [take_snoc hp, risesP_snoc, lastC_take hi0 hqp] at h2
        omega
      have he : pErr ⟨ver, cs⟩ ps = 4 := by unfold pErr; rw [if_pos h0, if_pos h1, if_neg hno]
      rw [pTx_no (by rw [he]; decide), he]
      obtain ⟨_, _, _, _, _, _, _, e1, hX2, _, _, g1', _, _⟩ := hps.get hqp
      simp only [Option.some.injEq, Addr.mk.injEq] at e1
      obtain ⟨rfl, rfl, _⟩ := e1
      rw [hX] at hX2
      simp only [Option.some.injEq, Obj.cells.injEq] at hX2
      obtain ⟨rfl, rfl, rfl⟩ := hX2
      have hsub : IntKind.i64.wrap (((i : Nat) : Int) - 1) = ((i - 1 : Nat) : Int) := by rw [wrap_i64 (by omega)]; omega
      have hio2 : off + Int.toNat ((i - 1 : Nat) : Int) * 2 = off + (i - 1) * 2 := by rw [Int.toNat_natCast]
      (refine LWP.draws mixed (by kernel_rfl) <| kmv rfl <| K.gtr rfl rfl (decide_eq_true (by omega)) .plain <| kmv rfl <| gmv rfl rfl rfl <| gmv rfl rfl rfl <| K.sub rfl rfl hsub (.taken rfl rfl) ?_; refine K.indexX rfl rfl SliceT.h (by omega) hio2 (.taken rfl rfl) ?_; refine K.fieldAddrX rfl rfl (.taken rfl rfl) ?_; refine K.loadX rfl hX rfl g1' (.taken rfl rfl) ?_; refine gmv rfl rfl rfl <| gmv rfl rfl rfl <| K.indexX rfl rfl SliceT.h (by omega) hio (.taken rfl rfl) ?_; refine K.fieldAddrX rfl rfl (.taken rfl rfl) ?_; refine K.loadX rfl hX rfl g1 (.taken rfl rfl) ?_; refine K.geq rfl rfl (decide_eq_true hle) (.taken rfl rfl) ?_; refine kpt rfl rfl <| RunK.nil <| And.intro (by kernel_rfl) ?_; refine LWP.condT rfl ?_; refine LWP.seq <| LWP.region (by kernel_rfl) <| kas rfl <| kas rfl <| RunK.nil <| LWP.ret ?_)
      exact ⟨[_, _], ⟨rfl, rfl, trivial⟩, rfl⟩
    · have hgood : lastC (-1) (ps.take i) < p.comp := by
        by_cases hi0 : 0 < i
        · exact Int.not_le.1 fun h => hbad ⟨hi0, h⟩
        · have : i = 0 := by omega
          subst this
          show (-1 : Int) < p.comp
          omega
      have hr2 : risesP (-1) (ps.take (i + 1)) := by rw [take_snoc hp, risesP_snoc]; exact ⟨hr, hgood⟩
      have hnlen : (⟨(encPt' cs ps (i + 1)).toArray⟩ : ByteArray).size = (encPt' cs ps (i + 1)).length := rfl
      refine LWP.meet0 (fun σ => σ = ⟨[(1, Lx (some ⟨blk, off, none⟩) ps.length pcap), (2, Lp 2), (8, Ls (encPt' cs ps i)), (9, Ln .i64 (i : Nat)), (48, Lb false)], [sxB 2 ver (some ⟨blk', off', none⟩) cs.length cap], X⟩) ?_ ?_
      · by_cases hi0 : 0 < i
        · obtain ⟨q, hqp⟩ : ∃ q, ps[i - 1]? = some q := ⟨_, List.getElem?_eq_getElem (by omega)⟩
          rw [lastC_take hi0 hqp] at hgood
          obtain ⟨_, _, _, _, _, _, _, e1, hX2, _, _, g1', _, _⟩ := hps.get hqp
          simp only [Option.some.injEq, Addr.mk.injEq] at e1
          obtain ⟨rfl, rfl, _⟩ := e1
          rw [hX] at hX2
          simp only [Option.some.injEq, Obj.cells.injEq] at hX2
          obtain ⟨rfl, rfl, rfl⟩ := hX2
          have hsub : IntKind.i64.wrap (((i : Nat) : Int) - 1) = ((i - 1 : Nat) : Int) := by rw [wrap_i64 (by omega)]; omega
          have hio2 : off + Int.toNat ((i - 1 : Nat) : Int) * 2 = off + (i - 1) * 2 := by rw [Int.toNat_natCast]
          (refine LWP.draws mixed (by kernel_rfl) <| kmv rfl <| K.gtr rfl rfl (decide_eq_true (by omega)) .plain <| kmv rfl <| gmv rfl rfl rfl <| gmv rfl rfl rfl <| K.sub rfl rfl hsub (.taken rfl rfl) ?_; refine K.indexX rfl rfl SliceT.h (by omega) hio2 (.taken rfl rfl) ?_; refine K.fieldAddrX rfl rfl (.taken rfl rfl) ?_; refine K.loadX rfl hX rfl g1' (.taken rfl rfl) ?_; refine gmv rfl rfl rfl <| gmv rfl rfl rfl <| K.indexX rfl rfl SliceT.h (by omega) hio (.taken rfl rfl) ?_; refine K.fieldAddrX rfl rfl (.taken rfl rfl) ?_; refine K.loadX rfl hX rfl g1 (.taken rfl rfl) ?_; refine K.geq rfl rfl (decide_eq_false (by omega)) (.taken rfl rfl) ?_; refine kpt rfl rfl <| RunK.nil <| And.intro (by kernel_rfl) ?_)
          exact ⟨_, Le.of (by exact ⟨rfl, rfl, rfl, rfl, rfl, trivial⟩) (by exact ⟨rfl, trivial⟩) (by exact rfl) (by exact rfl) (by repeat' (first | refine all_cons_true ?_ ?_ | rfl | exact bytes_inUse | exact vals_inUse | exact mid_inUse rfl)), rfl⟩
        · (refine LWP.draws mixed (by kernel_rfl) <| kmv rfl <| K.gtr rfl rfl (decide_eq_false (by omega)) .plain <| kmv rfl <| RunK.passed rfl rfl rfl <| RunK.passed rfl rfl rfl <| RunK.passed rfl rfl rfl <| RunK.passed rfl rfl rfl <| RunK.passed rfl rfl rfl <| RunK.passed rfl rfl rfl <| RunK.passed rfl rfl rfl <| RunK.passed rfl rfl rfl <| RunK.passed rfl rfl rfl <| RunK.passed rfl rfl rfl ?_; refine RunK.passed rfl rfl rfl <| RunK.passed rfl rfl rfl <| kpf rfl rfl <| RunK.nil <| And.intro (by kernel_rfl) ?_)
          exact ⟨_, Le.of (by exact ⟨rfl, rfl, rfl, rfl, rfl, trivial⟩) (by exact ⟨rfl, trivial⟩) (by exact rfl) (by exact rfl) (by repeat' (first | refine all_cons_true ?_ ?_ | rfl | exact bytes_inUse | exact vals_inUse | exact mid_inUse rfl)), rfl⟩
      rintro σ rfl
      generalize encPt' cs ps i = A at *
      generalize hA' : encPt' cs ps (i + 1) = A' at *
      generalize packB c.fs p.val = B at *
      (refine LWP.condF rfl ?_; refine LWP.skip ?_; refine LWP.seq <| LWP.draws mixed (by kernel_rfl) <| K.loadAll rfl rfl rfl .plain ?_; refine kmv rfl <| kmv rfl <| K.indexX rfl rfl SliceT.h (by omega) hio .plain <| K.fieldAddrX rfl rfl .plain ?_; refine K.loadX rfl hX rfl g1 .plain <| kca rfl rfl hq <| kas rfl <| RunK.nil <| And.intro (by kernel_rfl) ?_; refine LWP.draws mixed (by kernel_rfl) <| kmv rfl <| kmv rfl <| kmv rfl <| K.indexX rfl rfl SliceT.h (by omega) hio .plain <| K.fieldAddrX rfl rfl .plain ?_; refine K.loadX rfl hX rfl g1 .plain <| kcv rfl wb ?_; refine K.buildSlc (zs := [.int .u8 0]) (sz := 1) (e := 5) (cs' := [by8 p.comp].map bc) (by kernel_rfl) rfl rfl rfl rfl rfl rfl .plain <| K.convStr (l := [by8 p.comp]) rfl rfl (by kernel_rfl) StrT.u (Nat.le_refl _) rfl .plain <| K.strAdd rfl rfl (by omega) hcat1 .plain <| kfa rfl rfl ?_; refine kl1 rfl rfl rfl <| kmv rfl <| K.indexX rfl rfl SliceT.h (by omega) hko .plain <| K.fieldAddrX rfl rfl .plain ?_; refine K.loadX rfl hX' rfl g3 .plain <| kmv rfl <| kmv rfl <| K.indexX rfl rfl SliceT.h (by omega) hio .plain <| K.fieldAddrX rfl rfl .plain ?_; refine K.loadX rfl hX rfl g2 .plain <| kca rfl rfl hP <| K.strAdd rfl rfl (by omega) hcat2 .plain <| kas rfl <| RunK.nil <| And.intro (by kernel_rfl) ?_; refine LWP.region (by kernel_rfl) <| kmv rfl <| kad rfl rfl (wrap_i64 (by omega)) <| kas rfl <| RunK.nil ?_)
      subst hA'
      exact ⟨_, _, by omega, Le.of (by exact ⟨rfl, rfl, rfl, rfl, trivial⟩) (by exact ⟨rfl, trivial⟩) (by exact rfl) (by exact rfl) (by repeat' (first | refine all_cons_true ?_ ?_ | rfl | exact bytes_inUse | exact vals_inUse | exact mid_inUse rfl)), i + 1, by omega, rfl, hr2, rfl⟩
  · have e : i = ps.length := by omega
    subst e
    rw [List.take_length] at hr
    have he : pErr ⟨ver, cs⟩ ps = 0 := pErr_zero.2 ⟨h0, h1, hr⟩
    have ht : pTx ⟨ver, cs⟩ ps = encPt' cs ps ps.length := by
      unfold pTx encPt' encPt
      rw [if_pos he, List.take_length]
    rw [ht, he]
    (refine LWP.seq <| LWP.seq <| LWP.region (by kernel_rfl) <| kmv rfl <| kmv rfl <| K.lenX rfl SliceT.h rfl .plain ?_; refine klt rfl rfl (decide_eq_false (by omega)) <| RunK.nil <| LWP.condF rfl ?_; refine LWP.exit <| LWP.seq <| LWP.region (by kernel_rfl) <| kmv rfl <| kas rfl <| kas rfl <| RunK.nil <| LWP.ret ?_)
    exact ⟨[_, _], ⟨rfl, rfl, trivial⟩, rfl⟩
end Go.Proofs.YtnomcmklhbjfjaaGreatDoor
end
section
namespace Go.Proofs.YtnomcmklhbjfjaaGreatDoor
open Go Go.Lg Go.Lg.Fld
set_option maxRecDepth 100000
def rdR (cs : List Cp) (l : List UInt8) : LV := match rdP cs l with | some (ps, r) => .tup [.one (.slc 1000001 0 ps.length 2), Sb r] | none => .tup [Vnil, Sb false]
def rdBx (cs : List Cp) (l : List UInt8) : List (Nat × Option Box) := match rdP cs l with | some (ps, _) => [ptB 1000001 ps] | none => []
theorem rd_none {cs : List Cp} {l : List UInt8} (h : rdP cs l = none) : rdR cs l = .tup [Vnil, Sb false] ∧ rdBx cs l = [] := by unfold rdR rdBx; rw [h]; exact ⟨rfl, rfl⟩
theorem rd_some {cs : List Cp} {l : List UInt8} {ps : List Pt} {r : Bool} (h : rdP cs l = some (ps, r)) : rdR cs l = .tup [.one (.slc 1000001 0 ps.length 2), Sb r] ∧ rdBx cs l = [ptB 1000001 ps] := by unfold rdR rdBx; rw [h]; exact ⟨rfl, rfl⟩
theorem rdBx_use (cs : List Cp) (l : List UInt8) : ((rdBx cs l).all fun p => match p.2 with | some b => b.cells.all (CV.inUse (rdBx cs l)) | none => true) = true := by
  cases h : rdP cs l with
  | none => rw [(rd_none h).2]; rfl
  | some x => obtain ⟨ps, r⟩ := x; rw [(rd_some h).2]; rfl
theorem rdR_use (cs : List Cp) (l : List UInt8) : LV.inUse (rdBx cs l) (rdR cs l) = true := by
  cases h : rdP cs l with
  | none => rw [(rd_none h).1, (rd_none h).2]; rfl
  | some x => obtain ⟨ps, r⟩ := x; rw [(rd_some h).1, (rd_some h).2]; rfl
theorem rdP_fail {cs : List Cp} {nb : UInt8} {r t : List UInt8} {ps : List Pt} {i : Nat} (h : getPs cs i (-1) r = some (ps, t)) (hi : i < nb.toNat) (hf : getP cs (lastC (-1) ps) t = none) : rdP cs (nb :: r) = none := by
  have hx := getPs_fail (k := nb.toNat - (i + 1)) h hf
  rw [show i + 1 + (nb.toNat - (i + 1)) = nb.toNat by omega] at hx
  show (getPs cs nb.toNat (-1) r).map _ = none
  rw [hx]; rfl
theorem rdP_end {cs : List Cp} {nb : UInt8} {r t : List UInt8} {ps : List Pt} (h : getPs cs nb.toNat (-1) r = some (ps, t)) : rdP cs (nb :: r) = some (ps, decide (t = [])) := by
  show (getPs cs nb.toNat (-1) r).map _ = _
  rw [h]; rfl
theorem getP_nofind {cs : List Cp} {last : Int} {b : UInt8} {r : List UInt8} (h : cs.find? (fun c => c.id == (b.toNat : Int)) = none) : getP cs last (b :: r) = none := by simp only [getP, h]
theorem getP_bad {cs : List Cp} {last : Int} {b : UInt8} {r : List UInt8} {c : Cp} (h : cs.find? (fun c => c.id == (b.toNat : Int)) = some c) (hn : ¬(last < (b.toNat : Int) ∧ rowSize c.fs ≤ r.length ∧ unpErr c.fs (r.take (rowSize c.fs)) = 0)) : getP cs last (b :: r) = none := by simp only [getP, h]; rw [if_neg hn]
theorem getP_good {cs : List Cp} {last : Int} {b : UInt8} {r : List UInt8} {c : Cp} (h : cs.find? (fun c => c.id == (b.toNat : Int)) = some c) (hn : last < (b.toNat : Int) ∧ rowSize c.fs ≤ r.length ∧ unpErr c.fs (r.take (rowSize c.fs)) = 0) : getP cs last (b :: r) = some (⟨(b.toNat : Int), (unpZ c.fs (r.take (rowSize c.fs))).map qn⟩, r.drop (rowSize c.fs)) := by simp only [getP, h]; rw [if_pos hn]
theorem check_lay {s : Sc} (h : chkE s = 0) {c : Cp} (hc : c ∈ s.cs) : layErr c.fs = 0 := by
  unfold chkE at h
  by_cases hv : s.ver < 1 ∨ 1073741824 < s.ver
  · rw [if_pos hv] at h; cases h
  rw [if_neg hv] at h
  obtain ⟨i, hi⟩ := List.mem_iff_getElem?.1 hc
  exact ((good_of h).one i c hi).2.2.2.2
abbrev rpSt (ver : Int) (ad : Option Addr) (n cap : Nat) (l : List UInt8) (at_ i : Nat) (bx : List (Nat × Option Box)) (Y : Nat → Option Obj) : St := ⟨[(1, Ls l), (2, Lp 2), (6, .sv (.one (.slc 600 0 i 2))), (7, Ln .i64 (at_ : Nat)), (8, Ln .i64 (i : Nat))], bx ++ [sxB 2 ver ad n cap], Y⟩
variable (X : Nat → Option Obj)
set_option maxHeartbeats 25600000 in
theorem sReadParts_spec (s : Sc) (ad : Option Addr) (cap : Nat) (l : List UInt8) (hin : CompsIn X ad s.cs) (hbig : s.cs.length < 4611686018427387904) (hfs : ∀ c ∈ s.cs, c.fs.length < 4611686018427387904) (hb : l.length ≤ 4097) (h0 : chkE s = 0) :
    MSpec Tryz.prog X 18 [Sx s.ver ad s.cs.length cap, Ls l] [] (rdR s.cs l) (rdBx s.cs l) := by
  obtain ⟨ver, cs⟩ := s
  simp only at hin hbig hfs ⊢
  refine MSpec.intro Tryz.func18 rfl (by kernel_rfl) rfl (rdR_use cs l) (rdBx_use cs l) rfl rfl ?_
  intro C
  refine LWP.ends ?_
  have hlen : (⟨l.toArray⟩ : ByteArray).size = l.length := rfl
  cases hl : l with
  | nil =>
    obtain ⟨q1, q2⟩ := rd_none (show rdP cs [] = none from rfl)
    rw [q1, q2]
    (refine LWP.seq <| LWP.region (by kernel_rfl) <| K.box rfl rfl rfl .plain <| kas rfl <| kas rfl <| RunK.nil <| LWP.seq <| LWP.seq <| LWP.region (by kernel_rfl) <| kmv rfl <| kln rfl <| keq rfl rfl (r := true) rfl <| RunK.nil <| LWP.condT rfl ?_; refine LWP.seq <| LWP.region (by kernel_rfl) <| kas rfl <| kas rfl <| RunK.nil <| LWP.ret ?_)
    refine Leads.done ?_
    exact ⟨[], ⟨[_, _], ⟨rfl, rfl, trivial⟩, rfl⟩, (by repeat' (first | exact trivial | refine And.intro ⟨_, rfl, ?_⟩ ?_ | refine And.intro ⟨_, rfl⟩ ?_ | rfl | exact Box.ren_bytes _ _ _ _ | exact Box.ren_vals _ _ _ _ | exact Box.ren_mid rfl)), rfl, rfl⟩
  | cons nb r =>
  rw [← hl]
  have hne0 : (((⟨l.toArray⟩ : ByteArray).size : Int) == 0) = false := by rw [hlen, hl, beq_eq_false_iff_ne]; simp; omega
  have hg0 : (⟨l.toArray⟩ : ByteArray)[(0 : Int).toNat]? = some nb := str_at (by rw [hl]; rfl)
  have hd1 : l.drop 1 = r := by rw [hl]; rfl
  have hll : 1 ≤ l.length := by rw [hl, List.length_cons]; omega
  have kb := nb.toNat_lt
  have hwn : IntKind.i64.wrap ((nb.toNat : Nat) : Int) = ((nb.toNat : Nat) : Int) := wrap_i64 (by omega)
  obtain ⟨_, _, hokc⟩ := ok_of_check (s := ⟨ver, cs⟩) h0
  (refine LWP.seq <| LWP.region (by kernel_rfl) <| K.box rfl rfl rfl .plain <| kas rfl <| kas rfl <| RunK.nil <| LWP.seq <| LWP.seq <| LWP.region (by kernel_rfl) <| kmv rfl <| kln rfl <| keq rfl rfl hne0 <| RunK.nil <| LWP.condF rfl ?_; refine LWP.skip ?_; refine LWP.seq <| LWP.region (by kernel_rfl) <| K.buildSlc (zs := []) (sz := 2) (e := 41) (by kernel_rfl) rfl rfl rfl rfl rfl rfl .plain <| kas rfl <| RunK.nil <| LWP.seq <| LWP.region (by kernel_rfl) <| kas rfl <| RunK.nil <| LWP.seq <| LWP.seq <| LWP.region (by kernel_rfl) <| kas rfl <| RunK.nil ?_; refine LWP.block ?_)
  refine LWP.loopL (fun m σ => ∃ (i at_ : Nat) (ps : List Pt) (cells : List Value) (H : Nat → Option Obj) (rw_ : Bool), i ≤ nb.toNat ∧ m = nb.toNat - i ∧ 1 ≤ at_ ∧ at_ ≤ l.length ∧ getPs cs i (-1) r = some (ps, l.drop at_) ∧ ps.length = i ∧ OwnedM C X H ∧ Twigs H 63 3 [] cells (ps.map fun p => ptV p.val) ∧
    (∀ p ∈ ps, (-9223372036854775808 ≤ p.comp ∧ p.comp < 9223372036854775808) ∧ ∀ n ∈ p.val, In2 n.2) ∧ σ = rpSt ver ad cs.length cap l at_ ps.length [(600, some ⟨41, (rowsP ps cells).map .val, rw_⟩)] (joinM X H)) nb.toNat
    (Leads.le (σ' := rpSt ver ad cs.length cap l 1 0 [(600, some ⟨41, ([] : List Value).map .val, false⟩)] X) (Le.ofR [(600, 19)] (by exact ⟨rfl, rfl, rfl, rfl, rfl, trivial⟩) (by repeat' (first | exact trivial | refine And.intro ⟨_, rfl, ?_⟩ ?_ | refine And.intro ⟨_, rfl⟩ ?_ | rfl | exact Box.ren_bytes _ _ _ _ | exact Box.ren_vals _ _ _ _ | exact Box.ren_mid rfl)) (by exact rfl) (by exact rfl) (by repeat' (first | refine all_cons_true ?_ ?_ | rfl | exact bytes_inUse | exact vals_inUse | exact mid_inUse rfl)) (by exact rfl) (by exact rfl)) (Leads.done ⟨0, 1, [], [], fun _ => none, false, by omega, by omega, by omega, hll, by rw [hd1]; rfl, rfl, OwnedM.nil _ _, Twigs.nil _ _ _ _, (fun p hp => by cases hp), rfl⟩)) ?_
  rintro m σ ⟨i, at_, ps, cells, H, rw_, hi, rfl, hat1, hat_, hgs, rfl, hO, G, hbd, rfl⟩
  have hcl : cells.length = ps.length := by rw [G.len, List.length_map]
  have hinH := hin.mono (Y := joinM X H) fun b o h => joinM_has hO h
  have none_ : ps.length < nb.toNat → getP cs (lastC (-1) ps) (l.drop at_) = none → rdR cs l = .tup [Vnil, Sb false] ∧ rdBx cs l = [] := fun h1 h2 => rd_none (by rw [hl]; exact rdP_fail hgs h1 h2)
  by_cases hlt : ps.length < nb.toNat
  · by_cases hat : at_ < l.length
    · obtain ⟨b, hbt⟩ : ∃ x, l[at_]? = some x := ⟨_, List.getElem?_eq_getElem hat⟩
      have hgb : (⟨l.toArray⟩ : ByteArray)[((at_ : Nat) : Int).toNat]? = some b := str_at (by rw [Int.toNat_natCast]; exact hbt)
      have kbb := b.toNat_lt
      have hwb : IntKind.i64.wrap ((b.toNat : Nat) : Int) = ((b.toNat : Nat) : Int) := wrap_i64 (by omega)
      have hdr := drop_cons hbt
      have hq := sFind_spec (joinM X H) ver ad cap cs ((b.toNat : Nat) : Int) hinH hbig
      (refine LWP.seq <| LWP.seq <| LWP.region (by kernel_rfl) <| kmv rfl <| kmv rfl <| K.indexStr rfl rfl (by omega) hg0 .plain <| kcv rfl hwn ?_; refine klt rfl rfl (decide_eq_true (by omega)) <| RunK.nil <| LWP.condT rfl ?_; refine LWP.skip ?_; refine LWP.seq <| LWP.block <| LWP.seq <| LWP.seq <| LWP.region (by kernel_rfl) <| kmv rfl <| kmv rfl <| kln rfl <| K.geq rfl rfl (decide_eq_false (by rw [hlen]; omega)) .plain <| RunK.nil <| LWP.condF rfl ?_; refine LWP.skip ?_; refine LWP.seq ?_)
      cases hfd : cs.find? (fun c => c.id == ((b.toNat : Nat) : Int)) with
      | none =>
        rw [findI_none (by
          rcases find_cases cs ((b.toNat : Nat) : Int) with ⟨k, d, hd, he, hpre⟩ | hno
          · rw [find_at hpre hd he] at hfd; cases hfd
          · exact hno)] at hq
        obtain ⟨q1, q2⟩ := none_ hlt (by rw [hdr]; exact getP_nofind hfd)
        rw [q1, q2]
        (refine LWP.draws mixed (by kernel_rfl) <| K.loadAll rfl rfl rfl .plain ?_; refine kmv rfl <| kmv rfl <| K.indexStr rfl rfl (by omega) hgb .plain <| kcv rfl hwb ?_; refine kca rfl rfl hq <| kas rfl <| RunK.nil <| And.intro (by kernel_rfl) ?_; refine LWP.seq <| LWP.seq <| LWP.draws mixed (by kernel_rfl) <| kmv rfl <| klt rfl rfl (r := true) rfl <| kmv rfl <| RunK.passed rfl rfl rfl <| RunK.passed rfl rfl rfl <| RunK.passed rfl rfl rfl <| RunK.passedU rfl rfl <| RunK.passedU rfl rfl <| RunK.passedU rfl rfl <| RunK.passedU rfl rfl <| RunK.passedU rfl rfl ?_; refine RunK.passedU rfl rfl <| RunK.passedU rfl rfl <| RunK.passedU rfl rfl <| RunK.passedU rfl rfl <| RunK.passedU rfl rfl <| RunK.passedU rfl rfl <| RunK.passed rfl rfl rfl <| kpt rfl rfl <| RunK.nil <| And.intro (by kernel_rfl) ?_; refine LWP.condT rfl ?_; refine LWP.seq <| LWP.region (by kernel_rfl) <| kas rfl <| kas rfl <| RunK.nil <| LWP.ret ?_)
        refine Leads.le (σ' := ⟨[(4, .sv Vnil), (5, Lb false)], [], joinM X H⟩) (Le.of (by exact ⟨rfl, rfl, trivial⟩) (by exact trivial) (by exact rfl) (by exact rfl) (by repeat' (first | refine all_cons_true ?_ ?_ | rfl | exact bytes_inUse | exact vals_inUse | exact mid_inUse rfl))) ?_
        refine Leads.le (Le.drop fun b o h => joinM_has hO h) (Leads.done ?_)
        exact ⟨[], ⟨[_, _], ⟨rfl, rfl, trivial⟩, rfl⟩, (by repeat' (first | exact trivial | refine And.intro ⟨_, rfl, ?_⟩ ?_ | refine And.intro ⟨_, rfl⟩ ?_ | rfl | exact Box.ren_bytes _ _ _ _ | exact Box.ren_vals _ _ _ _ | exact Box.ren_mid rfl)), rfl, rfl⟩
      | some c =>
        obtain ⟨k, hc, hfi⟩ := find_ix hfd
        rw [hfi] at hq
        have hcm := List.mem_of_getElem? hc
        have hk : k < cs.length := (List.getElem?_eq_some_iff.1 hc).1
        obtain ⟨blk', off', arr', el', fr', fad, fcap, rfl, hX', hsz', _, _, _, g3, hF⟩ := hinH.get hc
        have hko : off' + Int.toNat (k : Int) * 3 = off' + k * 3 := by simp
        have hle0 : layErr c.fs = 0 := (check_lay h0 hcm)
        have hL := Lay_ok (joinM X H) fad fcap c.fs hF (hfs c hcm) hle0
        obtain ⟨_, _, h256⟩ := layErr_facts hle0
        have hU := fun t => refUnpack_spec (joinM X H) fad fcap c.fs t hF (hfs c hcm)
        by_cases hrise : ¬(lastC (-1) ps < ((b.toNat : Nat) : Int))
        · have hp0 : 0 < ps.length := by
            rcases Nat.eq_zero_or_pos ps.length with h | h
            · rw [List.eq_nil_of_length_eq_zero h] at hrise
              exact absurd (show (-1 : Int) < ((b.toNat : Nat) : Int) by omega) hrise
            · exact h
          obtain ⟨q, hqp⟩ : ∃ q, ps[ps.length - 1]? = some q := ⟨_, List.getElem?_eq_getElem (by omega)⟩
          have hla := lastC_at (last := -1) hqp
          have hsub : IntKind.i64.wrap (((ps.length : Nat) : Int) - 1) = ((ps.length - 1 : Nat) : Int) := by rw [wrap_i64 (by omega)]; omega
          have hix : 0 + Int.toNat ((ps.length - 1 : Nat) : Int) * 2 = (ps.length - 1) * 2 := by rw [Int.toNat_natCast]; omega
          have hcomp := rowsP_comp hcl hqp
          obtain ⟨q1, q2⟩ := none_ hlt (by rw [hdr]; exact getP_bad hfd fun h => hrise h.1)
          rw [q1, q2]
          (refine LWP.draws mixed (by kernel_rfl) <| K.loadAll rfl rfl rfl .plain ?_; refine kmv rfl <| kmv rfl <| K.indexStr rfl rfl (by omega) hgb .plain <| kcv rfl hwb ?_; refine kca rfl rfl hq <| kas rfl <| RunK.nil <| And.intro (by kernel_rfl) ?_; refine LWP.seq <| LWP.seq <| LWP.draws mixed (by kernel_rfl) <| kmv rfl <| klt rfl rfl (decide_eq_false (by omega)) <| kmv rfl <| gmv rfl rfl rfl <| K.gtr rfl rfl (decide_eq_true (by omega)) (.taken rfl rfl) ?_; refine gmv rfl rfl rfl <| gmv rfl rfl rfl <| gmv rfl rfl rfl <| K.sub rfl rfl hsub (.taken rfl rfl) ?_; refine K.indexSlc rfl rfl (by omega) hix (.taken rfl rfl) ?_; refine K.fieldAddr rfl rfl (.taken rfl rfl) ?_; refine K.loadOne rfl rfl hcomp (.taken rfl rfl) ?_; refine gmv rfl rfl rfl <| gmv rfl rfl rfl <| K.indexStr rfl rfl (by omega) hgb (.taken rfl rfl) ?_; refine K.conv rfl hwb (.taken rfl rfl) ?_; refine K.geq rfl rfl (decide_eq_true (by rw [← hla]; omega)) (.taken rfl rfl) ?_; refine K.pickT rfl rfl (.taken rfl rfl) ?_; refine kpf rfl rfl <| RunK.nil <| And.intro (by kernel_rfl) ?_; refine LWP.condT rfl ?_; refine LWP.seq <| LWP.region (by kernel_rfl) <| kas rfl <| kas rfl <| RunK.nil <| LWP.ret ?_)
          refine Leads.le (σ' := ⟨[(4, .sv Vnil), (5, Lb false)], [], joinM X H⟩) (Le.of (by exact ⟨rfl, rfl, trivial⟩) (by exact trivial) (by exact rfl) (by exact rfl) (by repeat' (first | refine all_cons_true ?_ ?_ | rfl | exact bytes_inUse | exact vals_inUse | exact mid_inUse rfl))) ?_
          refine Leads.le (Le.drop fun b o h => joinM_has hO h) (Leads.done ?_)
          exact ⟨[], ⟨[_, _], ⟨rfl, rfl, trivial⟩, rfl⟩, (by repeat' (first | exact trivial | refine And.intro ⟨_, rfl, ?_⟩ ?_ | refine And.intro ⟨_, rfl⟩ ?_ | rfl | exact Box.ren_bytes _ _ _ _ | exact Box.ren_vals _ _ _ _ | exact Box.ren_mid rfl)), rfl, rfl⟩
        · replace hrise := Decidable.not_not.1 hrise
          refine LWP.meet0 (fun σ => σ = ⟨[(1, Ls l), (2, Lp 2), (6, .sv (.one (.slc 600 0 ps.length 2))), (7, Ln .i64 (at_ : Nat)), (8, Ln .i64 (ps.length : Nat)), (9, Ln .i64 (k : Nat))], [(600, some ⟨41, (rowsP ps cells).map .val, rw_⟩), sxB 2 ver (some ⟨blk', off', none⟩) cs.length cap], joinM X H⟩) ?_ ?_
          · (refine LWP.draws mixed (by kernel_rfl) <| K.loadAll rfl rfl rfl .plain ?_; refine kmv rfl <| kmv rfl <| K.indexStr rfl rfl (by omega) hgb .plain <| kcv rfl hwb ?_; refine kca rfl rfl hq <| kas rfl <| RunK.nil <| And.intro (by kernel_rfl) ?_)
            exact ⟨_, Le.of (by exact ⟨rfl, rfl, rfl, rfl, rfl, rfl, trivial⟩) (by exact ⟨rfl, rfl, trivial⟩) (by exact rfl) (by exact rfl) (by repeat' (first | refine all_cons_true ?_ ?_ | rfl | exact bytes_inUse | exact vals_inUse | exact mid_inUse rfl)), rfl⟩
          rintro σ rfl
          refine LWP.seq ?_
          refine LWP.seq ?_
          refine LWP.cut (fun σ => σ = ⟨[(1, Ls l), (2, Lp 2), (6, .sv (.one (.slc 600 0 ps.length 2))), (7, Ln .i64 (at_ : Nat)), (8, Ln .i64 (ps.length : Nat)), (9, Ln .i64 (k : Nat))], [(600, some ⟨41, (rowsP ps cells).map .val, rw_⟩), sxB 2 ver (some ⟨blk', off', none⟩) cs.length cap], joinM X H⟩) ?_ ?_
          · by_cases hp0 : 0 < ps.length
            · obtain ⟨q, hqp⟩ : ∃ q, ps[ps.length - 1]? = some q := ⟨_, List.getElem?_eq_getElem (by omega)⟩
              have hla := lastC_at (last := -1) hqp
              have hsub : IntKind.i64.wrap (((ps.length : Nat) : Int) - 1) = ((ps.length - 1 : Nat) : Int) := by rw [wrap_i64 (by omega)]; omega
              have hix : 0 + Int.toNat ((ps.length - 1 : Nat) : Int) * 2 = (ps.length - 1) * 2 := by rw [Int.toNat_natCast]; omega
              have hcomp := rowsP_comp hcl hqp
              (refine LWP.draws mixed (by kernel_rfl) <| kmv rfl <| klt rfl rfl (decide_eq_false (by omega)) <| kmv rfl <| gmv rfl rfl rfl <| K.gtr rfl rfl (decide_eq_true (by omega)) (.taken rfl rfl) ?_; refine gmv rfl rfl rfl <| gmv rfl rfl rfl <| gmv rfl rfl rfl <| K.sub rfl rfl hsub (.taken rfl rfl) ?_; refine K.indexSlc rfl rfl (by omega) hix (.taken rfl rfl) ?_; refine K.fieldAddr rfl rfl (.taken rfl rfl) ?_; refine K.loadOne rfl rfl hcomp (.taken rfl rfl) ?_; refine gmv rfl rfl rfl <| gmv rfl rfl rfl <| K.indexStr rfl rfl (by omega) hgb (.taken rfl rfl) ?_; refine K.conv rfl hwb (.taken rfl rfl) ?_; refine K.geq rfl rfl (decide_eq_false (by rw [← hla]; omega)) (.taken rfl rfl) ?_; refine K.pickT rfl rfl (.taken rfl rfl) ?_; refine kpf rfl rfl <| RunK.nil <| And.intro (by kernel_rfl) ?_; refine LWP.condF rfl ?_; refine LWP.skip ?_)
              exact ⟨_, Le.of (by exact ⟨rfl, rfl, rfl, rfl, rfl, rfl, trivial⟩) (by exact ⟨rfl, rfl, trivial⟩) (by exact rfl) (by exact rfl) (by repeat' (first | refine all_cons_true ?_ ?_ | rfl | exact bytes_inUse | exact vals_inUse | exact mid_inUse rfl)), rfl⟩
            · (refine LWP.draws mixed (by kernel_rfl) <| kmv rfl <| klt rfl rfl (decide_eq_false (by omega)) <| kmv rfl <| gmv rfl rfl rfl <| K.gtr rfl rfl (decide_eq_false (by omega)) (.taken rfl rfl) ?_; refine gmv rfl rfl rfl <| RunK.passed rfl rfl rfl <| RunK.passed rfl rfl rfl <| RunK.passed rfl rfl rfl <| RunK.passed rfl rfl rfl <| RunK.passed rfl rfl rfl <| RunK.passed rfl rfl rfl <| RunK.passed rfl rfl rfl <| RunK.passed rfl rfl rfl <| RunK.passed rfl rfl rfl <| RunK.passed rfl rfl rfl <| RunK.passed rfl rfl rfl <| K.pickF rfl rfl (.taken rfl rfl) ?_; refine kpf rfl rfl <| RunK.nil <| And.intro (by kernel_rfl) ?_; refine LWP.condF rfl ?_; refine LWP.skip ?_)
              exact ⟨_, Le.of (by exact ⟨rfl, rfl, rfl, rfl, rfl, rfl, trivial⟩) (by exact ⟨rfl, rfl, trivial⟩) (by exact rfl) (by exact rfl) (by repeat' (first | refine all_cons_true ?_ ?_ | rfl | exact bytes_inUse | exact vals_inUse | exact mid_inUse rfl)), rfl⟩
          rintro σ rfl
          have ha1 : IntKind.i64.wrap (((at_ : Nat) : Int) + 1) = ((at_ + 1 : Nat) : Int) := by rw [wrap_i64 (by omega)]; omega
          generalize hE : elemsAt 0 c.fs = E at *
          generalize hS : startsAt 0 c.fs = S at *
          generalize hT : rowSize c.fs = T at *
          have ha2 : IntKind.i64.wrap (((at_ + 1 : Nat) : Int) + ((T : Nat) : Int)) = ((at_ + 1 + T : Nat) : Int) := by rw [wrap_i64 (by omega)]; omega
          (refine LWP.seq <| LWP.region (by kernel_rfl) <| kfa rfl rfl ?_; refine kl1 rfl rfl rfl <| kmv rfl <| K.indexX rfl rfl SliceT.h (by omega) hko .plain <| K.fieldAddrX rfl rfl .plain ?_; refine K.loadX rfl hX' rfl g3 .plain <| K.callMp [(1000001, 501), (1000002, 502)] (.tup [.one (.slc 501 0 E.length 2), Sn .i64 (T : Nat), .one (.slc 502 0 c.fs.length 1), Sn .i64 0]) [(501, some ⟨106, (elVs E).map .val, Nat.blt 0 E.length⟩), (502, some ⟨3, (ntV S).map .val, Nat.blt 0 c.fs.length⟩)] (hL) rfl rfl (by exact trivial) rfl rfl rfl rfl rfl (by exact (.box rfl (Box.ren_vals _ _ _ _) (.box rfl (Box.ren_vals _ _ _ _) .nil))) .plain <| kmv rfl <| kex rfl rfl <| kex rfl rfl <| kex rfl rfl <| kex rfl rfl <| kas rfl <| kas rfl <| kas rfl <| kas rfl <| RunK.nil <| LWP.seq <| LWP.seq ?_)
          refine LWP.le (σ' := ⟨[(1, Ls l), (2, Lp 2), (6, .sv (.one (.slc 600 0 ps.length 2))), (7, Ln .i64 (at_ : Nat)), (8, Ln .i64 (ps.length : Nat)), (9, Ln .i64 (k : Nat)), (11, Ln .i64 (T : Nat))], [(600, some ⟨41, (rowsP ps cells).map .val, rw_⟩), sxB 2 ver (some ⟨blk', off', none⟩) cs.length cap], joinM X H⟩) (Le.of (by exact ⟨rfl, rfl, rfl, rfl, rfl, rfl, rfl, trivial⟩) (by exact ⟨rfl, rfl, trivial⟩) (by exact rfl) (by exact rfl) (by repeat' (first | refine all_cons_true ?_ ?_ | rfl | exact bytes_inUse | exact vals_inUse | exact mid_inUse rfl))) ?_
          have hrest : (l.drop (at_ + 1)).length = l.length - (at_ + 1) := List.length_drop
          by_cases hroom : ¬(at_ + 1 + T ≤ l.length)
          · obtain ⟨q1, q2⟩ := none_ hlt (by rw [hdr]; exact getP_bad hfd fun h => by have := h.2.1; omega)
            rw [q1, q2]
            (refine LWP.region (by kernel_rfl) <| kmv rfl <| kad rfl rfl ha1 <| kmv rfl <| kad rfl rfl ha2 <| kmv rfl <| kln rfl <| K.gtr rfl rfl (decide_eq_true (by rw [hlen]; omega)) .plain <| RunK.nil <| LWP.condT rfl ?_; refine LWP.seq <| LWP.region (by kernel_rfl) <| kas rfl <| kas rfl <| RunK.nil <| LWP.ret ?_)
            refine Leads.le (σ' := ⟨[(4, .sv Vnil), (5, Lb false)], [], joinM X H⟩) (Le.of (by exact ⟨rfl, rfl, trivial⟩) (by exact trivial) (by exact rfl) (by exact rfl) (by repeat' (first | refine all_cons_true ?_ ?_ | rfl | exact bytes_inUse | exact vals_inUse | exact mid_inUse rfl))) ?_
            refine Leads.le (Le.drop fun b o h => joinM_has hO h) (Leads.done ?_)
            exact ⟨[], ⟨[_, _], ⟨rfl, rfl, trivial⟩, rfl⟩, (by repeat' (first | exact trivial | refine And.intro ⟨_, rfl, ?_⟩ ?_ | refine And.intro ⟨_, rfl⟩ ?_ | rfl | exact Box.ren_bytes _ _ _ _ | exact Box.ren_vals _ _ _ _ | exact Box.ren_mid rfl)), rfl, rfl⟩
          · replace hroom := Decidable.not_not.1 hroom
            have hcut : (⟨l.toArray⟩ : ByteArray).extract (at_ + 1) (at_ + 1 + T) = ⟨((l.drop (at_ + 1)).take T).toArray⟩ := by rw [str_cut, Nat.add_sub_cancel_left]
            have hU' := hU ((l.drop (at_ + 1)).take T)
            by_cases hue : ¬(unpErr c.fs ((l.drop (at_ + 1)).take T) = 0)
            · obtain ⟨q1, q2⟩ := none_ hlt (by rw [hdr]; exact getP_bad hfd fun h => hue (by rw [← hT]; exact h.2.2))
              rw [q1, q2]
              unfold unpR unpBx at hU'
              rw [if_neg hue, if_neg hue] at hU'
              have hne : (unpErr c.fs ((l.drop (at_ + 1)).take T) != 0) = true := by rw [bne_iff_ne]; exact hue
              generalize unpErr c.fs ((l.drop (at_ + 1)).take T) = ue at *
              generalize (l.drop (at_ + 1)).take T = t at *
              (refine LWP.region (by kernel_rfl) <| kmv rfl <| kad rfl rfl ha1 <| kmv rfl <| kad rfl rfl ha2 <| kmv rfl <| kln rfl <| K.gtr rfl rfl (decide_eq_false (by rw [hlen]; omega)) .plain <| RunK.nil <| LWP.condF rfl ?_; refine LWP.skip ?_; refine LWP.seq <| LWP.draws mixed (by kernel_rfl) <| kfa rfl rfl ?_; refine kl1 rfl rfl rfl <| kmv rfl <| K.indexX rfl rfl SliceT.h (by omega) hko .plain <| K.fieldAddrX rfl rfl .plain ?_; refine K.loadX rfl hX' rfl g3 .plain <| kmv rfl <| kmv rfl <| kad rfl rfl ha1 <| kmv rfl <| kad rfl rfl ha1 <| kmv rfl <| kad rfl rfl ha2 <| K.sliceStr (l := at_ + 1) (h := at_ + 1 + T) (kl := .i64) (kh := .i64) rfl StrT.u rfl rfl ⟨(by omega), (by rw [hlen]; omega)⟩ hcut .plain <| K.callM [] [] (hU') rfl rfl (by exact trivial) rfl rfl rfl rfl rfl (by exact .nil) .plain <| kmv rfl <| kex rfl rfl <| kex rfl rfl <| kas rfl ?_; refine kas rfl <| RunK.nil <| And.intro (by kernel_rfl) ?_; refine LWP.seq <| LWP.seq <| LWP.region (by kernel_rfl) <| kmv rfl <| kne rfl rfl hne <| RunK.nil <| LWP.condT rfl ?_; refine LWP.seq <| LWP.region (by kernel_rfl) <| kas rfl <| kas rfl <| RunK.nil <| LWP.ret ?_)
              refine Leads.le (σ' := ⟨[(4, .sv Vnil), (5, Lb false)], [], joinM X H⟩) (Le.of (by exact ⟨rfl, rfl, trivial⟩) (by exact trivial) (by exact rfl) (by exact rfl) (by repeat' (first | refine all_cons_true ?_ ?_ | rfl | exact bytes_inUse | exact vals_inUse | exact mid_inUse rfl))) ?_
              refine Leads.le (Le.drop fun b o h => joinM_has hO h) (Leads.done ?_)
              exact ⟨[], ⟨[_, _], ⟨rfl, rfl, trivial⟩, rfl⟩, (by repeat' (first | exact trivial | refine And.intro ⟨_, rfl, ?_⟩ ?_ | refine And.intro ⟨_, rfl⟩ ?_ | rfl | exact Box.ren_bytes _ _ _ _ | exact Box.ren_vals _ _ _ _ | exact Box.ren_mid rfl)), rfl, rfl⟩
            · replace hue := Decidable.not_not.1 hue
              have hgp := getP_good (last := lastC (-1) ps) (r := l.drop (at_ + 1)) hfd ⟨hrise, by omega, by rw [hT]; exact hue⟩
              rw [hT] at hgp
              rw [← hdr, List.drop_drop] at hgp
              have hok := getP_ok hgp
              have hstep := getPs_step hgs hgp
              unfold unpR unpBx at hU'
              rw [if_pos hue, if_pos hue] at hU'
              have hzp : nsV (unpZ c.fs ((l.drop (at_ + 1)).take T)) = ptV ((unpZ c.fs ((l.drop (at_ + 1)).take T)).map qn) := nsV_pt _
              have hzl : (unpZ c.fs ((l.drop (at_ + 1)).take T)).length = ((unpZ c.fs ((l.drop (at_ + 1)).take T)).map qn).length := (List.length_map ..).symm
              generalize hp : (⟨((b.toNat : Nat) : Int), (unpZ c.fs ((l.drop (at_ + 1)).take T)).map qn⟩ : Pt) = p at *
              have hpc : p.comp = ((b.toNat : Nat) : Int) := by rw [← hp]
              have hpv : p.val = (unpZ c.fs ((l.drop (at_ + 1)).take T)).map qn := by rw [← hp]
              rw [← hpv] at hzp hzl
              generalize unpZ c.fs ((l.drop (at_ + 1)).take T) = Z at *
              generalize (l.drop (at_ + 1)).take T = t at *
              have hrl : ((rowsP ps cells).map CV.val).length = ps.length * 2 := by rw [List.length_map, rowsP_len hcl]
              have hii : IntKind.i64.wrap (((ps.length : Nat) : Int) + 1) = ((ps.length + 1 : Nat) : Int) := by rw [wrap_i64 (by omega)]; omega
              have hnc3 : (rowsP ps cells).map CV.val ++ [.val (.int .i64 ((b.toNat : Nat) : Int)), .slc 503 0 Z.length 3] = (rowsP ps cells ++ [Value.int .i64 ((b.toNat : Nat) : Int)]).map .val ++ .slc 503 0 Z.length 3 :: ([] : List Value).map .val := by
                simp
              (refine LWP.region (by kernel_rfl) <| kmv rfl <| kad rfl rfl ha1 <| kmv rfl <| kad rfl rfl ha2 <| kmv rfl <| kln rfl <| K.gtr rfl rfl (decide_eq_false (by rw [hlen]; omega)) .plain <| RunK.nil <| LWP.condF rfl ?_; refine LWP.skip ?_; refine LWP.seq <| LWP.draws mixed (by kernel_rfl) <| kfa rfl rfl ?_; refine kl1 rfl rfl rfl <| kmv rfl <| K.indexX rfl rfl SliceT.h (by omega) hko .plain <| K.fieldAddrX rfl rfl .plain ?_; refine K.loadX rfl hX' rfl g3 .plain <| kmv rfl <| kmv rfl <| kad rfl rfl ha1 <| kmv rfl <| kad rfl rfl ha1 <| kmv rfl <| kad rfl rfl ha2 <| K.sliceStr (l := at_ + 1) (h := at_ + 1 + T) (kl := .i64) (kh := .i64) rfl StrT.u rfl rfl ⟨(by omega), (by rw [hlen]; omega)⟩ hcut .plain <| K.callMp [(1000001, 503)] (.tup [.one (.slc 503 0 Z.length 3), Sn .i64 0]) [(503, some ⟨63, (nsV Z).map .val, true⟩)] (hU') rfl rfl (by exact trivial) rfl rfl rfl rfl rfl (by exact (.box rfl (Box.ren_vals _ _ _ _) .nil)) .plain <| kmv rfl <| kex rfl rfl <| kex rfl rfl <| kas rfl ?_; refine kas rfl <| RunK.nil <| And.intro (by kernel_rfl) ?_; refine LWP.seq <| LWP.seq <| LWP.region (by kernel_rfl) <| kmv rfl <| kne rfl rfl (r := false) (by decide) <| RunK.nil <| LWP.condF rfl ?_; refine LWP.skip ?_; refine LWP.seq <| LWP.region (by kernel_rfl) <| kmv rfl <| kmv rfl <| kmv rfl <| K.indexStr rfl rfl (by omega) hgb .plain <| kcv rfl hwb ?_; refine kmv rfl <| K.build rfl rfl (by exact rfl) (by exact nl2 rfl rfl rfl) .plain ?_; refine K.buildSlc (zs := [.int .i64 0, .slice none 0 0]) (sz := 2) (e := 41) (cs' := [.val (.int .i64 ((b.toNat : Nat) : Int)), .slc 503 0 Z.length 3]) (by kernel_rfl) rfl rfl rfl rfl rfl rfl .plain <| K.appendSlc (by_ := 32) (e2 := 41) (l2 := [.val (.int .i64 ((b.toNat : Nat) : Int)), .slc 503 0 Z.length 3]) (nl := ps.length + 1) (nc := (rowsP ps cells ++ [Value.int .i64 ((b.toNat : Nat) : Int)]).map .val ++ .slc 503 0 Z.length 3 :: ([] : List Value).map .val) rfl rfl hrl rfl rfl (Nat.le_refl _) rfl rfl (by kernel_rfl) (by kernel_rfl) (by omega) (by omega) rfl rfl hnc3 .plain <| kas rfl <| RunK.nil <| LWP.region (by kernel_rfl) <| kmv rfl <| kad rfl rfl ha1 <| kmv rfl <| kad rfl rfl ha2 <| kas rfl <| RunK.nil <| LWP.region (by kernel_rfl) <| kmv rfl <| kad rfl rfl hii ?_; refine kas rfl <| RunK.nil ?_)
              have hcn : (ps ++ [p]).length = ps.length + 1 := by rw [List.length_append]; rfl
              refine Leads.le (σ' := ⟨[(1, Ls l), (2, Lp 2), (6, .sv (.one (.slc 600 0 (ps.length + 1) 2))), (7, Ln .i64 (at_ + 1 + T : Nat)), (8, Ln .i64 (ps.length + 1 : Nat))], [(600, some ⟨41, (rowsP ps cells ++ [Value.int .i64 ((b.toNat : Nat) : Int)]).map .val ++ .slc 503 0 Z.length 3 :: ([] : List Value).map .val, true⟩), (503, some ⟨63, (nsV Z).map .val, true⟩), sxB 2 ver (some ⟨blk', off', none⟩) cs.length cap], joinM X H⟩) ?_ ?_
              · exact Le.ofR [(600, 103)] (by exact ⟨rfl, rfl, rfl, rfl, rfl, trivial⟩) (by repeat' (first | exact trivial | refine And.intro ⟨_, rfl, ?_⟩ ?_ | refine And.intro ⟨_, rfl⟩ ?_ | rfl | exact Box.ren_bytes _ _ _ _ | exact Box.ren_vals _ _ _ _ | exact Box.ren_mid rfl)) (by exact rfl) (by exact rfl) (by repeat' (first | refine all_cons_true ?_ ?_ | rfl | exact bytes_inUse | exact vals_inUse | exact mid_inUse rfl)) (by exact rfl) (by exact rfl)
              refine Leads.closeCell hO (nsV_len _) rfl vals_inUse rfl rfl rfl rfl fun b' o v g1 _ hO3 hv => Leads.done ⟨nb.toNat - (ps.length + 1), by omega, ps.length + 1, at_ + 1 + T, ps ++ [p], cells ++ [v], withBlock H b' o, true, by omega, rfl, by omega, hroom, hstep, hcn, hO3, ?_, ?_, ?_⟩
              · rw [List.map_append, List.map_cons, List.map_nil, ← hzp]
                by_cases hz0 : nsV Z = []
                · rw [hz0] at hv ⊢
                  obtain ⟨len, cap', arr, fr, rfl, h2, _⟩ := hv
                  have e0 : len = 0 := by rw [List.length_nil] at h2; omega
                  subst e0
                  exact (G.more g1).pushZ _ _
                · exact G.push g1 hv hz0
              · intro q hq
                rcases List.mem_append.1 hq with hq | hq
                · exact hbd q hq
                · rw [List.mem_singleton.1 hq]; exact hok
              · rw [hcn, rowsP_snoc hcl, hpc]
                simp
    · have e : at_ = l.length := by omega
      obtain ⟨q1, q2⟩ := none_ hlt (by rw [show l.drop at_ = [] from List.drop_eq_nil_of_le (by omega)]; rfl)
      rw [q1, q2]
      (refine LWP.seq <| LWP.seq <| LWP.region (by kernel_rfl) <| kmv rfl <| kmv rfl <| K.indexStr rfl rfl (by omega) hg0 .plain <| kcv rfl hwn ?_; refine klt rfl rfl (decide_eq_true (by omega)) <| RunK.nil <| LWP.condT rfl ?_; refine LWP.skip ?_; refine LWP.seq <| LWP.block <| LWP.seq <| LWP.seq <| LWP.region (by kernel_rfl) <| kmv rfl <| kmv rfl <| kln rfl <| K.geq rfl rfl (decide_eq_true (by rw [hlen]; omega)) .plain <| RunK.nil <| LWP.condT rfl ?_; refine LWP.seq <| LWP.region (by kernel_rfl) <| kas rfl <| kas rfl <| RunK.nil <| LWP.ret ?_)
      refine Leads.le (σ' := ⟨[(4, .sv Vnil), (5, Lb false)], [], joinM X H⟩) (Le.of (by exact ⟨rfl, rfl, trivial⟩) (by exact trivial) (by exact rfl) (by exact rfl) (by repeat' (first | refine all_cons_true ?_ ?_ | rfl | exact bytes_inUse | exact vals_inUse | exact mid_inUse rfl))) ?_
      refine Leads.le (Le.drop fun b o h => joinM_has hO h) (Leads.done ?_)
      exact ⟨[], ⟨[_, _], ⟨rfl, rfl, trivial⟩, rfl⟩, (by repeat' (first | exact trivial | refine And.intro ⟨_, rfl, ?_⟩ ?_ | refine And.intro ⟨_, rfl⟩ ?_ | rfl | exact Box.ren_bytes _ _ _ _ | exact Box.ren_vals _ _ _ _ | exact Box.ren_mid rfl)), rfl, rfl⟩
  · have e : ps.length = nb.toNat := by omega
    rw [e] at hgs
    have hS := rdP_end hgs
    rw [← hl] at hS
    obtain ⟨q1, q2⟩ := rd_some hS
    rw [q1, q2]
    have heq : (((at_ : Nat) : Int) == ((⟨l.toArray⟩ : ByteArray).size : Int)) = decide (l.drop at_ = []) := by
      by_cases h : at_ = l.length
      · rw [decide_eq_true (List.drop_eq_nil_of_le (by omega)), hlen, h]; simp
      · rw [decide_eq_false (fun h2 => h (by have := congrArg List.length h2; rw [List.length_drop, List.length_nil] at this; omega)), hlen, beq_eq_false_iff_ne]; omega
    generalize decide (l.drop at_ = []) = rb at *
    (refine LWP.seq <| LWP.seq <| LWP.region (by kernel_rfl) <| kmv rfl <| kmv rfl <| K.indexStr rfl rfl (by omega) hg0 .plain <| kcv rfl hwn ?_; refine klt rfl rfl (decide_eq_false (by omega)) <| RunK.nil <| LWP.condF rfl ?_; refine LWP.exit <| LWP.seq <| LWP.region (by kernel_rfl) <| kmv rfl <| kmv rfl <| kmv rfl <| kln rfl <| keq rfl rfl heq <| kas rfl <| kas rfl <| RunK.nil <| LWP.ret ?_)
    cases rw_ with
    | true =>
      refine Leads.le (σ' := ⟨[(4, .sv (.one (.slc 600 0 ps.length 2))), (5, Lb rb)], [(600, some ⟨41, (rowsP ps cells).map .val, true⟩)], joinM X H⟩) (Le.of (by exact ⟨rfl, rfl, trivial⟩) (by exact ⟨rfl, trivial⟩) (by exact rfl) (by exact rfl) (by repeat' (first | refine all_cons_true ?_ ?_ | rfl | exact bytes_inUse | exact vals_inUse | exact mid_inUse rfl))) ?_
      refine Leads.spare fun sp => pt_shut hO G hbd (Leads.done ?_)
      exact ⟨[(1000001, 600)], ⟨[_, _], ⟨rfl, rfl, trivial⟩, rfl⟩, (by repeat' (first | exact trivial | refine And.intro ⟨_, rfl, ?_⟩ ?_ | refine And.intro ⟨_, rfl⟩ ?_ | rfl | exact Box.ren_bytes _ _ _ _ | exact Box.ren_vals _ _ _ _ | exact Box.ren_mid rfl)), rfl, rfl⟩
    | false =>
      refine Leads.le (σ' := ⟨[(4, .sv (.one (.slc 600 0 ps.length 2))), (5, Lb rb)], [(600, some ⟨41, (rowsP ps cells ++ []).map .val, false⟩)], joinM X H⟩) (by rw [List.append_nil]; exact Le.of (by exact ⟨rfl, rfl, trivial⟩) (by exact ⟨rfl, trivial⟩) (by exact rfl) (by exact rfl) (by repeat' (first | refine all_cons_true ?_ ?_ | rfl | exact bytes_inUse | exact vals_inUse | exact mid_inUse rfl))) ?_
      refine pt_shut hO G hbd (Leads.done ?_)
      exact ⟨[(1000001, 600)], ⟨[_, _], ⟨rfl, rfl, trivial⟩, rfl⟩, (by repeat' (first | exact trivial | refine And.intro ⟨_, rfl, ?_⟩ ?_ | refine And.intro ⟨_, rfl⟩ ?_ | rfl | exact Box.ren_bytes _ _ _ _ | exact Box.ren_vals _ _ _ _ | exact Box.ren_mid rfl)), rfl, rfl⟩
end Go.Proofs.YtnomcmklhbjfjaaGreatDoor
end
section
namespace Go.Lg.Fld
open Go Go.Lg
end Go.Lg.Fld
namespace Go.Proofs.YtnomcmklhbjfjaaGreatDoor
open Go Go.Lg Go.Lg.Fld
set_option maxRecDepth 100000
def Adj (ps : List Pt) : Prop := ∀ (i : Nat) (p q : Pt), ps[i]? = some p → ps[i + 1]? = some q → p.comp < q.comp
theorem rises_at : ∀ {ps : List Pt} {last : Int}, risesP last ps ↔ (∀ q, ps[0]? = some q → last < q.comp) ∧ Adj ps
  | [], last => ⟨fun _ => ⟨fun q h => (by simp at h), fun i p q h => (by simp at h)⟩, fun _ => trivial⟩
  | p :: t, last => by
    unfold risesP
    rw [rises_at (ps := t)]
    constructor
    · rintro ⟨h1, h2, h3⟩
      refine ⟨fun q h => by simp only [List.getElem?_cons_zero, Option.some.injEq] at h; rw [← h]; exact h1, fun i p' q hp hq => ?_⟩
      cases i with
      | zero =>
        simp only [List.getElem?_cons_zero, Option.some.injEq, Nat.zero_add, List.getElem?_cons_succ] at hp hq
        rw [← hp]; exact h2 q hq
      | succ i => exact h3 i p' q (by simpa using hp) (by simpa using hq)
    · rintro ⟨h1, h2⟩
      exact ⟨h1 p rfl, fun q hq => h2 0 p q rfl (by simpa using hq), fun i p' q hp hq => h2 (i + 1) p' q (by simpa using hp) (by simpa using hq)⟩
theorem rises_adj {ps : List Pt} (h : ∀ p ∈ ps, 0 ≤ p.comp) : risesP (-1) ps ↔ Adj ps := by
  rw [rises_at]
  exact ⟨fun h => h.2, fun h2 => ⟨fun q hq => by have := h q (List.mem_of_getElem? hq); omega, h2⟩⟩
variable (X : Nat → Option Obj)
theorem rise_spec (pad : Option Addr) (pcap : Nat) (ps : List Pt) (hps : PartsIn X pad ps) (hb : ps.length < 4611686018427387904) (r : Bool) (hr : r = true ↔ Adj ps) :
    PSpec Tryz.prog X 37 [Lx pad ps.length pcap] (Lb r) := by
  refine PSpec.intro Tryz.func37 rfl (by kernel_rfl) rfl rfl ?_
  intro C
  (refine LWP.seq <| LWP.region (by kernel_rfl) <| kas rfl <| RunK.nil <| LWP.seq <| LWP.seq <| LWP.region (by kernel_rfl) <| kas rfl <| RunK.nil <| LWP.block ?_)
  refine LWP.loop (fun m σ => ∃ i : Nat, 1 ≤ i ∧ i ≤ ps.length + 1 ∧ m = ps.length + 1 - i ∧ (∀ (j : Nat) (p q : Pt), j + 1 < i → ps[j]? = some p → ps[j + 1]? = some q → p.comp < q.comp) ∧ σ = ⟨[(0, Lx pad ps.length pcap), (3, Ln .i64 (i : Nat))], [], X⟩) ps.length
    ⟨_, Le.of (by exact ⟨rfl, rfl, trivial⟩) (by exact trivial) (by exact rfl) (by exact rfl) (by exact rfl), 1, Nat.le_refl _, by omega, by omega, fun j p q hj => absurd hj (by omega), rfl⟩ ?_
  rintro m σ ⟨i, hi1, hi2, rfl, hpre, rfl⟩
  by_cases hlt : i < ps.length
  · obtain ⟨p, hp⟩ : ∃ p, ps[i]? = some p := ⟨_, List.getElem?_eq_getElem hlt⟩
    obtain ⟨p0, hp0⟩ : ∃ p, ps[i - 1]? = some p := ⟨_, List.getElem?_eq_getElem (by omega)⟩
    obtain ⟨blk, off, arr, el, fr, vad, vcap, rfl, hX, hsz, _, h1, _, _⟩ := hps.get hp
    obtain ⟨blk0, off0, arr0, el0, fr0, vad0, vcap0, he, hX0, hsz0, _, h10, _, _⟩ := hps.get hp0
    cases he
    rw [hX] at hX0
    cases hX0
    have hio : off + Int.toNat (i : Int) * 2 = off + i * 2 := by simp
    have hio0 : off + Int.toNat ((i - 1 : Nat) : Int) * 2 = off + (i - 1) * 2 := by simp
    have hsub : IntKind.i64.wrap (((i : Nat) : Int) - 1) = ((i - 1 : Nat) : Int) := by rw [wrap_i64 (by omega)]; omega
    have hadd : IntKind.i64.wrap (((i : Nat) : Int) + 1) = ((i + 1 : Nat) : Int) := by rw [wrap_i64 (by omega)]; omega
    by_cases hle : p.comp ≤ p0.comp
    · have hrf : r = false := by
        cases r with
        | false => rfl
        | true =>
          have := hr.1 rfl (i - 1) p0 p hp0 (by rw [Nat.sub_add_cancel hi1]; exact hp)
          omega
      subst hrf
      (refine LWP.seq <| LWP.seq <| LWP.region (by kernel_rfl) <| kmv rfl <| kmv rfl <| K.lenX rfl SliceT.h rfl .plain ?_; refine klt rfl rfl (decide_eq_true (by omega)) <| RunK.nil <| LWP.condT rfl ?_; refine LWP.skip ?_; refine LWP.seq <| LWP.block <| LWP.seq <| LWP.draws mixed (by kernel_rfl) <| kmv rfl <| kmv rfl <| K.indexX rfl rfl SliceT.h (by omega) hio .plain <| K.fieldAddrX rfl rfl .plain ?_; refine K.loadX rfl hX rfl h1 .plain <| kmv rfl <| kmv rfl <| K.sub rfl rfl hsub .plain <| K.indexX rfl rfl SliceT.h (by omega) hio0 .plain <| K.fieldAddrX rfl rfl .plain ?_; refine K.loadX rfl hX rfl h10 .plain <| K.leq rfl rfl (decide_eq_true hle) .plain <| RunK.nil <| And.intro (by kernel_rfl) ?_; refine LWP.condT rfl ?_; refine LWP.seq <| LWP.region (by kernel_rfl) <| kas rfl <| RunK.nil <| LWP.ret ?_)
      exact ⟨[_], ⟨rfl, trivial⟩, rfl⟩
    · (refine LWP.seq <| LWP.seq <| LWP.region (by kernel_rfl) <| kmv rfl <| kmv rfl <| K.lenX rfl SliceT.h rfl .plain ?_; refine klt rfl rfl (decide_eq_true (by omega)) <| RunK.nil <| LWP.condT rfl ?_; refine LWP.skip ?_; refine LWP.seq <| LWP.block <| LWP.seq <| LWP.draws mixed (by kernel_rfl) <| kmv rfl <| kmv rfl <| K.indexX rfl rfl SliceT.h (by omega) hio .plain <| K.fieldAddrX rfl rfl .plain ?_; refine K.loadX rfl hX rfl h1 .plain <| kmv rfl <| kmv rfl <| K.sub rfl rfl hsub .plain <| K.indexX rfl rfl SliceT.h (by omega) hio0 .plain <| K.fieldAddrX rfl rfl .plain ?_; refine K.loadX rfl hX rfl h10 .plain <| K.leq rfl rfl (decide_eq_false hle) .plain <| RunK.nil <| And.intro (by kernel_rfl) ?_; refine LWP.condF rfl ?_; refine LWP.skip ?_; refine LWP.region (by kernel_rfl) <| kmv rfl <| kad rfl rfl hadd <| kas rfl <| RunK.nil ?_)
      refine ⟨_, _, ?_, Le.of (by exact ⟨rfl, rfl, trivial⟩) (by exact trivial) (by exact rfl) (by exact rfl) (by exact rfl), i + 1, by omega, by omega, rfl, fun j a b hj ha hb2 => ?_, rfl⟩
      · omega
      · by_cases e : j + 1 = i
        · subst e
          rw [Nat.add_sub_cancel] at hp0
          rw [hp0] at ha
          rw [hp] at hb2
          cases ha; cases hb2
          omega
        · exact hpre j a b (by omega) ha hb2
  · have hrt : r = true := hr.2 fun j p q hp hq => hpre j p q (by have := (List.getElem?_eq_some_iff.1 hq).1; omega) hp hq
    subst hrt
    (refine LWP.seq <| LWP.seq <| LWP.region (by kernel_rfl) <| kmv rfl <| kmv rfl <| K.lenX rfl SliceT.h rfl .plain ?_; refine klt rfl rfl (decide_eq_false (by omega)) <| RunK.nil <| LWP.condF rfl ?_; refine LWP.exit <| LWP.seq <| LWP.region (by kernel_rfl) <| kas rfl <| RunK.nil <| LWP.ret ?_)
    exact ⟨[_], ⟨rfl, trivial⟩, rfl⟩
theorem pack_lentF {S : Nat → Option (Option Box)} {k : Nat} {fs : List Fl} {vad : Option Addr} {vcap : Nat} {ns : List (Bool × Int)} {el : TypeId} {row : Bool} (hs : ∀ f ∈ fs, (-9223372036854775808 ≤ f.kind ∧ f.kind < 9223372036854775808) ∧ (-9223372036854775808 ≤ f.count ∧ f.count < 9223372036854775808)) (hbig : fs.length < 4611686018427387904) (hns : NumsIn X vad ns) (hnb : ns.length < 4611686018427387904)
    (hk : S k = some (some ⟨el, (flV fs).map .val, row⟩)) :
    ∀ (Y : Nat → Option Obj) (us : List Value), (∀ b o, X b = some o → Y b = some o) → LentLs S Y [.sv (.one (.slc k 0 fs.length 3)), Lx vad ns.length vcap] us → PSpec Tryz.prog Y 63 (us.map toLV) (.tup [Ss (packR fs ns), Sn .i64 (fitErr fs ns)]) := by
  intro Y us hY hL
  obtain ⟨u1, us1, rfl, h1, u2, us2, rfl, h2, rfl⟩ := hL
  have h2 : u2 = .slice vad ns.length vcap := h2
  subst h2
  obtain ⟨fa, fcap, rfl, hF⟩ := lent_fields hk hs h1
  exact lPack_spec Y (some fa) vad fcap vcap fs ns hF hbig ⟨hns.rows.mono hY, hns.in2⟩ hnb
theorem putPart_t (l : List UInt8) (ver : Int) (ad vad : Option Addr) (cap vcap : Nat) (cs : List Cp) (p : Pt) (hin : CompsIn X ad cs) (hbig : cs.length < 4611686018427387904) (hfs : ∀ c ∈ cs, c.fs.length ≤ 65536) (hns : NumsIn X vad p.val) (hnb : p.val.length < 4611686018427387904) (hok : okP cs p) (hl : l.length < 800000000) :
    MSpec Tryz.prog X 38 [Lp 1000000, Sx ver ad cs.length cap, Px p vad vcap] (w1 1000000 1000001 1000002 l) (.tup []) (w1 1000000 1000001 1000003 (l ++ encP cs p) ++ [(1000002, none)]) := by
  obtain ⟨h1, h2, h3⟩ := hok
  rcases find_cases cs p.comp with ⟨i, c, hc, he, hpre⟩ | hno
  · have hfa := find_at hpre hc he
    have hfit : fitErr c.fs p.val = 0 := by unfold partE at h1; rw [hfa] at h1; exact h1
    have hpr : packR c.fs p.val = packB c.fs p.val := if_pos hfit
    have henc : l ++ encP cs p = (l ++ [by8 p.comp]) ++ packB c.fs p.val := by unfold encP fsAt; rw [hfa]; simp
    obtain ⟨_, hall, h256⟩ := layErr_facts (fitErr_facts hfit).1
    have hpl : (packB c.fs p.val).length = rowSize c.fs := packB_len hall p.val
    have hfb := hfs c (List.mem_of_getElem? hc)
    have p1 := putSmall_1 X l p.comp h2 (by omega)
    have p2 := WRaw_1 X (l ++ [by8 p.comp]) (packB c.fs p.val) (by rw [List.length_append, List.length_singleton]; omega)
    rw [henc]
    rcases pFind X ver ad cap cs p.comp hin hbig hfs hpre hc he with ⟨h0, hF⟩ | hF
    · have hR := lPack_spec X none vad 0 vcap c.fs p.val (fields_none h0) (by omega) hns hnb
      rw [hpr, hfit] at hR
      generalize packB c.fs p.val = B at *
      refine MSpec.intro Tryz.func38 rfl (by kernel_rfl) rfl rfl (by repeat' (first | refine all_cons_true ?_ ?_ | rfl | exact bytes_inUse | exact vals_inUse | exact mid_inUse rfl)) rfl rfl ?_
      intro C
      (refine LWP.seq <| LWP.region (by kernel_rfl) <| K.box rfl rfl rfl .plain <| K.box rfl rfl rfl .plain <| RunK.nil <| LWP.seq <| LWP.region (by kernel_rfl) <| K.loadAll rfl rfl rfl .plain ?_; refine kfa rfl rfl ?_; refine kl1 rfl rfl rfl <| kca rfl rfl hF <| kmv rfl <| kex rfl rfl <| kex rfl rfl <| K.alloc rfl .plain ?_; refine K.storeAll rfl rfl rfl rfl rfl rfl .plain ?_; refine kas rfl <| RunK.nil <| LWP.seq <| LWP.region (by kernel_rfl) <| kfa rfl rfl ?_; refine kl1 rfl rfl rfl <| kfa rfl rfl ?_; refine kl1 rfl rfl rfl <| kca rfl rfl hR <| kmv rfl <| kex rfl rfl <| kex rfl rfl <| kas rfl <| kas rfl <| RunK.nil <| LWP.seq <| LWP.region (by kernel_rfl) <| kmv rfl <| kfa rfl rfl ?_; refine kl1 rfl rfl rfl <| K.callM [(1000003, 501)] (w1 1000000 1000001 501 (l ++ [by8 p.comp]) ++ [(1000002, none)]) (p1) rfl rfl (by exact (And.intro ⟨_, rfl, rfl⟩ (And.intro ⟨_, rfl, rfl⟩ (And.intro ⟨_, rfl, (Box.ren_bytes _ _ _ _)⟩ trivial)))) (by exact (all_cons_true (all_cons_true rfl (all_cons_true rfl rfl)) (all_cons_true (all_cons_true rfl rfl) (all_cons_true bytes_inUse rfl)))) rfl rfl rfl rfl (by exact (.box rfl rfl (.box rfl rfl (.box rfl (Box.ren_bytes _ _ _ _) (.dead rfl .nil))))) .plain <| RunK.nil <| LWP.region (by kernel_rfl) <| kmv rfl <| kmv rfl <| K.callM [(1000002, 501), (1000003, 502)] (w1 1000000 1000001 502 ((l ++ [by8 p.comp]) ++ B) ++ [(501, none)]) (p2) rfl rfl (by exact (And.intro ⟨_, rfl, rfl⟩ (And.intro ⟨_, rfl, rfl⟩ (And.intro ⟨_, rfl, (Box.ren_bytes _ _ _ _)⟩ trivial)))) (by exact (all_cons_true (all_cons_true rfl (all_cons_true rfl rfl)) (all_cons_true (all_cons_true rfl rfl) (all_cons_true bytes_inUse rfl)))) rfl rfl rfl rfl (by exact (.box rfl rfl (.box rfl rfl (.box rfl (Box.ren_bytes _ _ _ _) (.dead rfl .nil))))) .plain <| RunK.nil ?_)
      exact ⟨[(1000003, 502)], ⟨[], trivial, rfl⟩, (by repeat' (first | exact trivial | refine And.intro ⟨_, rfl, ?_⟩ ?_ | refine And.intro ⟨_, rfl⟩ ?_ | rfl | exact Box.ren_bytes _ _ _ _ | exact Box.ren_vals _ _ _ _ | exact Box.ren_mid rfl)), rfl, rfl⟩
    · obtain ⟨_, _, _, _, _, _, _, _, _, _, _, _, _, _, hFs⟩ := hin.get hc
      have hR := fun (S : Nat → Option (Option Box)) (hk : S 20 = some (some ⟨57, (flV c.fs).map .val, true⟩)) => pack_lentF X (S := S) (k := 20) (vcap := vcap) hFs.small (by omega) hns hnb hk
      rw [hpr, hfit] at hR
      generalize packB c.fs p.val = B at *
      refine MSpec.intro Tryz.func38 rfl (by kernel_rfl) rfl rfl (by repeat' (first | refine all_cons_true ?_ ?_ | rfl | exact bytes_inUse | exact vals_inUse | exact mid_inUse rfl)) rfl rfl ?_
      intro C
      (refine LWP.seq <| LWP.region (by kernel_rfl) <| K.box rfl rfl rfl .plain <| K.box rfl rfl rfl .plain <| RunK.nil <| LWP.seq <| LWP.region (by kernel_rfl) <| K.loadAll rfl rfl rfl .plain ?_; refine kfa rfl rfl ?_; refine kl1 rfl rfl rfl <| K.callMp [(1000001, 20)] (.tup [SCs c 20, Sb true]) [fdB 20 c.fs] (hF) rfl rfl (by exact trivial) rfl rfl rfl rfl rfl (by exact (.box rfl (Box.ren_vals _ _ _ _) .nil)) .plain <| kmv rfl <| kex rfl rfl <| kex rfl rfl <| K.alloc rfl .plain ?_; refine K.storeAll rfl rfl rfl rfl rfl rfl .plain ?_; refine kas rfl <| RunK.nil <| LWP.seq <| LWP.region (by kernel_rfl) <| kfa rfl rfl ?_; refine kl1 rfl rfl rfl <| kfa rfl rfl ?_; refine kl1 rfl rfl rfl <| K.callL [20] rfl rfl rfl (hR _ rfl) .plain ?_; refine kmv rfl <| kex rfl rfl <| kex rfl rfl <| kas rfl <| kas rfl <| RunK.nil <| LWP.seq <| LWP.region (by kernel_rfl) <| kmv rfl <| kfa rfl rfl ?_; refine kl1 rfl rfl rfl <| K.callM [(1000003, 501)] (w1 1000000 1000001 501 (l ++ [by8 p.comp]) ++ [(1000002, none)]) (p1) rfl rfl (by exact (And.intro ⟨_, rfl, rfl⟩ (And.intro ⟨_, rfl, rfl⟩ (And.intro ⟨_, rfl, (Box.ren_bytes _ _ _ _)⟩ trivial)))) (by exact (all_cons_true (all_cons_true rfl (all_cons_true rfl rfl)) (all_cons_true (all_cons_true rfl rfl) (all_cons_true bytes_inUse rfl)))) rfl rfl rfl rfl (by exact (.box rfl rfl (.box rfl rfl (.box rfl (Box.ren_bytes _ _ _ _) (.dead rfl .nil))))) .plain <| RunK.nil <| LWP.region (by kernel_rfl) <| kmv rfl <| kmv rfl <| K.callM [(1000002, 501), (1000003, 502)] (w1 1000000 1000001 502 ((l ++ [by8 p.comp]) ++ B) ++ [(501, none)]) (p2) rfl rfl (by exact (And.intro ⟨_, rfl, rfl⟩ (And.intro ⟨_, rfl, rfl⟩ (And.intro ⟨_, rfl, (Box.ren_bytes _ _ _ _)⟩ trivial)))) (by exact (all_cons_true (all_cons_true rfl (all_cons_true rfl rfl)) (all_cons_true (all_cons_true rfl rfl) (all_cons_true bytes_inUse rfl)))) rfl rfl rfl rfl (by exact (.box rfl rfl (.box rfl rfl (.box rfl (Box.ren_bytes _ _ _ _) (.dead rfl .nil))))) .plain <| RunK.nil ?_)
      exact ⟨[(1000003, 502)], ⟨[], trivial, rfl⟩, (by repeat' (first | exact trivial | refine And.intro ⟨_, rfl, ?_⟩ ?_ | refine And.intro ⟨_, rfl⟩ ?_ | rfl | exact Box.ren_bytes _ _ _ _ | exact Box.ren_vals _ _ _ _ | exact Box.ren_mid rfl)), rfl, rfl⟩
  · exfalso
    unfold partE at h1
    rw [find_no hno] at h1
    cases h1
theorem encPs_snoc4 {cs : List Cp} {ps : List Pt} {i : Nat} {p : Pt} (h : ps[i]? = some p) : encPs cs (ps.take (i + 1)) = encPs cs (ps.take i) ++ encP cs p := by rw [take_snoc h, encPs_app]; simp [encPs]
abbrev epSt (l : List UInt8) (ver : Int) (ad pad : Option Addr) (n cap m pcap i : Nat) (X : Nat → Option Obj) : St :=
  ⟨[(2, Lp 2), (8, Lp 26), (31, Lx pad m pcap), (32, Ln .i64 (m : Nat)), (33, Ln .i64 (i : Nat))], w1 26 601 500 l ++ [sxB 2 ver ad n cap], X⟩
set_option maxHeartbeats 3200000 in
theorem cEncP (s : Sc) (ad pad : Option Addr) (cap pcap : Nat) (ps : List Pt) (hin : CompsIn X ad s.cs) (hS : SmallC8 s.cs) (hps : PartsIn X pad ps) (hpl : ps.length ≤ 12) :
    PSpec Tryz.prog X 15 [Sx s.ver ad s.cs.length cap, Lx pad ps.length pcap] (.tup [Ss (pTx s ps), Sn .i64 (pErr s ps)]) := by
  have hc := pCheck8 X s ad cap hin hS (chkE s) rfl
  have hfs : ∀ c ∈ s.cs, c.fs.length ≤ 65536 := fun c hc => by have := (hS.2 c hc).1; omega
  have hcp := pPartsBig X s.ver ad pad cap pcap s.cs ps hin (by have := hS.1; omega) hfs hps (by omega) (partsE s.cs ps) rfl
  refine PSpec.intro Tryz.func15 rfl (by kernel_rfl) rfl rfl ?_
  intro C
  by_cases hz : chkE s = 0
  · rw [hz] at hc
    by_cases hz2 : partsE s.cs ps = 0
    · rw [hz2] at hcp
      have hok := parts_ok1 hz hps hz2
      have hadj := rises_adj fun p hp => (hok p hp).2.1.1
      by_cases hr : risesP (-1) ps
      · have hE : pErr s ps = 0 := pErr_zero.2 ⟨hz, hz2, hr⟩
        have hT : pTx s ps = encPt s.cs ps := if_pos hE
        rw [hE, hT]
        have hrs := rise_spec X pad pcap ps hps (by omega) true ⟨fun _ => hadj.1 hr, fun _ => rfl⟩
        have hfew := parts_few hok
        have p1 := putSmall_0 X (ps.length : Nat) ⟨by omega, by omega⟩
        have hfin : encPt s.cs ps = [by8 (ps.length : Nat)] ++ encPs s.cs ps := rfl
        (refine LWP.seq <| LWP.region (by kernel_rfl) <| K.box rfl rfl rfl .plain <| kas rfl <| kas rfl <| RunK.nil <| LWP.seq <| LWP.seq <| LWP.region (by kernel_rfl) <| K.loadAll rfl rfl rfl .plain ?_; refine kca rfl rfl hc <| kas rfl <| RunK.nil <| LWP.seq <| LWP.region (by kernel_rfl) <| kmv rfl <| kne rfl rfl ((bne_eq_false_iff_eq.2 (by omega))) <| RunK.nil <| LWP.condF rfl ?_; refine LWP.skip ?_; refine LWP.seq <| LWP.seq <| LWP.region (by kernel_rfl) <| K.loadAll rfl rfl rfl .plain ?_; refine kmv rfl <| kca rfl rfl hcp <| kas rfl <| RunK.nil <| LWP.seq <| LWP.region (by kernel_rfl) <| kmv rfl <| kne rfl rfl ((bne_eq_false_iff_eq.2 (by omega))) <| RunK.nil <| LWP.condF rfl ?_; refine LWP.skip ?_; refine LWP.seq <| LWP.seq <| LWP.region (by kernel_rfl) <| kmv rfl <| kca rfl rfl hrs <| K.not rfl rfl .plain <| RunK.nil <| LWP.condF rfl ?_; refine LWP.skip ?_; refine LWP.seq <| LWP.region (by kernel_rfl) <| K.build rfl rfl (by exact rfl) (by exact nl2 rfl rfl rfl) .plain ?_; refine K.box rfl rfl rfl .plain <| kas rfl <| RunK.nil <| LWP.seq <| LWP.region (by kernel_rfl) <| kmv rfl <| kmv rfl <| K.lenX rfl SliceT.h rfl .plain ?_; refine K.callM [(1000000, 26), (1000001, 601), (1000002, 602)] (w1 26 601 602 [by8 (ps.length : Nat)]) (p1) rfl rfl (by exact (And.intro ⟨_, rfl, rfl⟩ trivial)) (by exact (all_cons_true (all_cons_true rfl (all_cons_true rfl rfl)) rfl)) rfl rfl rfl rfl (by exact (.box rfl rfl (.box rfl rfl (.box rfl rfl .nil)))) .plain <| RunK.nil <| LWP.seq <| LWP.seq <| LWP.region (by kernel_rfl) <| kmv rfl <| K.lenX rfl SliceT.h rfl .plain ?_; refine kmv rfl <| RunK.nil <| LWP.block ?_)
        rw [hfin]
        have hPl : ([by8 (ps.length : Nat)]).length = 1 := rfl
        generalize [by8 (ps.length : Nat)] = P at *
        refine LWP.loop (fun m σ => ∃ i : Nat, i ≤ ps.length ∧ m = ps.length - i ∧ σ = epSt (P ++ encPs s.cs (ps.take i)) s.ver ad pad s.cs.length cap ps.length pcap i X) ps.length
          ⟨epSt (P ++ encPs s.cs (ps.take 0)) s.ver ad pad s.cs.length cap ps.length pcap 0 X, by
            rw [show P ++ encPs s.cs (ps.take 0) = P from List.append_nil _]
            exact Le.ofR [(500, 602)] (by exact ⟨rfl, rfl, rfl, rfl, rfl, trivial⟩) (by repeat' (first | exact trivial | refine And.intro ⟨_, rfl, ?_⟩ ?_ | refine And.intro ⟨_, rfl⟩ ?_ | rfl | exact Box.ren_bytes _ _ _ _ | exact Box.ren_vals _ _ _ _ | exact Box.ren_mid rfl)) (by exact rfl) (by exact rfl) (by repeat' (first | refine all_cons_true ?_ ?_ | rfl | exact bytes_inUse | exact vals_inUse | exact mid_inUse rfl)) (by exact rfl) (by exact rfl), 0, Nat.zero_le _, rfl, rfl⟩ ?_
        rintro m σ ⟨i, hi, rfl, rfl⟩
        have hel := encPs_len (cs := s.cs) (ps := ps.take i) fun p hp => hok p (List.mem_of_mem_take hp)
        rw [List.length_take] at hel
        have hBl : (P ++ encPs s.cs (ps.take i)).length ≤ 1 + 12 * 257 := by rw [List.length_append, hPl]; omega
        by_cases hlt : i < ps.length
        · obtain ⟨p, hp⟩ : ∃ p, ps[i]? = some p := ⟨_, List.getElem?_eq_getElem hlt⟩
          obtain ⟨blk, off, arr, el, fr, vad, vcap, rfl, hX, hsz, hcs, _, _, hN⟩ := hps.get hp
          have hio : off + Int.toNat (i : Int) * 2 = off + i * 2 := by simp
          have hpm := List.mem_of_getElem? hp
          have q := putPart_t X (P ++ encPs s.cs (ps.take i)) s.ver ad vad cap vcap s.cs p hin (by have := hS.1; omega) hfs hN (by have := hfew p hpm; omega) (hok p hpm) (by omega)
          have hnext : P ++ encPs s.cs (ps.take (i + 1)) = (P ++ encPs s.cs (ps.take i)) ++ encP s.cs p := by rw [encPs_snoc4 hp]; simp
          rw [← hnext] at q
          have hadd : IntKind.i64.wrap (((i : Nat) : Int) + 1) = ((i + 1 : Nat) : Int) := by rw [wrap_i64 (by omega)]; omega
          (refine LWP.seq <| LWP.region (by kernel_rfl) <| klt rfl rfl (decide_eq_true (by omega)) <| RunK.nil <| LWP.seq <| LWP.condT rfl ?_; refine LWP.skip ?_; refine LWP.seq <| LWP.block <| LWP.seq <| LWP.region (by kernel_rfl) <| K.indexX rfl rfl SliceT.h (by omega) hio .plain <| K.loadXagg rfl hX (by kernel_rfl) hsz hcs .plain <| K.alloc rfl .plain ?_; refine K.storeAll rfl rfl rfl rfl rfl rfl .plain ?_; refine RunK.nil <| LWP.region (by kernel_rfl) <| kmv rfl <| K.loadAll rfl rfl rfl .plain ?_; refine K.loadAll rfl rfl rfl .plain ?_; refine K.callM [(1000000, 26), (1000001, 601), (1000002, 500), (1000003, 605)] (w1 26 601 605 (P ++ encPs s.cs (ps.take (i + 1))) ++ [(500, none)]) (q) rfl rfl (by exact (And.intro ⟨_, rfl, rfl⟩ (And.intro ⟨_, rfl, rfl⟩ (And.intro ⟨_, rfl, (Box.ren_bytes _ _ _ _)⟩ trivial)))) (by exact (all_cons_true (all_cons_true rfl (all_cons_true rfl rfl)) (all_cons_true (all_cons_true rfl rfl) (all_cons_true bytes_inUse rfl)))) rfl rfl rfl rfl (by exact (.box rfl rfl (.box rfl rfl (.box rfl (Box.ren_bytes _ _ _ _) (.dead rfl .nil))))) .plain <| RunK.nil <| LWP.region (by kernel_rfl) <| kad rfl rfl hadd <| kmv rfl <| RunK.nil ?_)
          exact ⟨_, epSt (P ++ encPs s.cs (ps.take (i + 1))) s.ver ad (some ⟨blk, off, none⟩) s.cs.length cap ps.length pcap (i + 1) X, by omega, Le.ofR [(500, 605)] (by exact ⟨rfl, rfl, rfl, rfl, rfl, trivial⟩) (by repeat' (first | exact trivial | refine And.intro ⟨_, rfl, ?_⟩ ?_ | refine And.intro ⟨_, rfl⟩ ?_ | rfl | exact Box.ren_bytes _ _ _ _ | exact Box.ren_vals _ _ _ _ | exact Box.ren_mid rfl)) (by exact rfl) (by exact rfl) (by repeat' (first | refine all_cons_true ?_ ?_ | rfl | exact bytes_inUse | exact vals_inUse | exact mid_inUse rfl)) (by exact rfl) (by exact rfl), i + 1, by omega, rfl, rfl⟩
        · have e : i = ps.length := by omega
          subst e
          rw [List.take_length]
          have q := String_1 X (P ++ encPs s.cs ps)
          (refine LWP.seq <| LWP.region (by kernel_rfl) <| klt rfl rfl (decide_eq_false (by omega)) <| RunK.nil <| LWP.seq <| LWP.condF rfl ?_; refine LWP.exit <| LWP.seq <| LWP.region (by kernel_rfl) <| kmv rfl <| K.callM [(1000000, 26), (1000001, 601), (1000002, 500)] (w1 26 601 500 (P ++ encPs s.cs ps)) (q) rfl rfl (by exact (And.intro ⟨_, rfl, rfl⟩ (And.intro ⟨_, rfl, rfl⟩ (And.intro ⟨_, rfl, (Box.ren_bytes _ _ _ _)⟩ trivial)))) (by exact (all_cons_true (all_cons_true rfl (all_cons_true rfl rfl)) (all_cons_true (all_cons_true rfl rfl) (all_cons_true bytes_inUse rfl)))) rfl rfl rfl rfl (by exact (.box rfl rfl (.box rfl rfl (.box rfl (Box.ren_bytes _ _ _ _) .nil)))) .plain <| kas rfl <| kas rfl <| RunK.nil <| LWP.ret ?_)
          exact ⟨[_, _], ⟨rfl, rfl, trivial⟩, rfl⟩
      · have hE : pErr s ps = 4 := by unfold pErr; rw [if_pos hz, if_pos hz2, if_neg hr]
        have hT : pTx s ps = [] := if_neg (by rw [hE]; decide)
        rw [hE, hT]
        have hrs := rise_spec X pad pcap ps hps (by omega) false ⟨fun h => (by cases h), fun h => absurd (hadj.2 h) hr⟩
        (refine LWP.seq <| LWP.region (by kernel_rfl) <| K.box rfl rfl rfl .plain <| kas rfl <| kas rfl <| RunK.nil <| LWP.seq <| LWP.seq <| LWP.region (by kernel_rfl) <| K.loadAll rfl rfl rfl .plain ?_; refine kca rfl rfl hc <| kas rfl <| RunK.nil <| LWP.seq <| LWP.region (by kernel_rfl) <| kmv rfl <| kne rfl rfl ((bne_eq_false_iff_eq.2 (by omega))) <| RunK.nil <| LWP.condF rfl ?_; refine LWP.skip ?_; refine LWP.seq <| LWP.seq <| LWP.region (by kernel_rfl) <| K.loadAll rfl rfl rfl .plain ?_; refine kmv rfl <| kca rfl rfl hcp <| kas rfl <| RunK.nil <| LWP.seq <| LWP.region (by kernel_rfl) <| kmv rfl <| kne rfl rfl ((bne_eq_false_iff_eq.2 (by omega))) <| RunK.nil <| LWP.condF rfl ?_; refine LWP.skip ?_; refine LWP.seq <| LWP.seq <| LWP.region (by kernel_rfl) <| kmv rfl <| kca rfl rfl hrs <| K.not rfl rfl .plain <| RunK.nil <| LWP.condT rfl ?_; refine LWP.seq <| LWP.region (by kernel_rfl) <| kas rfl <| kas rfl <| RunK.nil <| LWP.ret ?_)
        exact ⟨[_, _], ⟨rfl, rfl, trivial⟩, rfl⟩
    · have hE : pErr s ps = partsE s.cs ps := by unfold pErr; rw [if_pos hz, if_neg hz2]
      have hT : pTx s ps = [] := if_neg (by rw [hE]; exact hz2)
      rw [hE, hT]
      have hne : (partsE s.cs ps != 0) = true := by rw [bne_iff_ne]; exact hz2
      generalize partsE s.cs ps = ce at *
      (refine LWP.seq <| LWP.region (by kernel_rfl) <| K.box rfl rfl rfl .plain <| kas rfl <| kas rfl <| RunK.nil <| LWP.seq <| LWP.seq <| LWP.region (by kernel_rfl) <| K.loadAll rfl rfl rfl .plain ?_; refine kca rfl rfl hc <| kas rfl <| RunK.nil <| LWP.seq <| LWP.region (by kernel_rfl) <| kmv rfl <| kne rfl rfl ((bne_eq_false_iff_eq.2 (by omega))) <| RunK.nil <| LWP.condF rfl ?_; refine LWP.skip ?_; refine LWP.seq <| LWP.seq <| LWP.region (by kernel_rfl) <| K.loadAll rfl rfl rfl .plain ?_; refine kmv rfl <| kca rfl rfl hcp <| kas rfl <| RunK.nil <| LWP.seq <| LWP.region (by kernel_rfl) <| kmv rfl <| kne rfl rfl hne <| RunK.nil <| LWP.condT rfl ?_; refine LWP.seq <| LWP.region (by kernel_rfl) <| kmv rfl <| kas rfl <| kas rfl <| RunK.nil <| LWP.ret ?_)
      exact ⟨[_, _], ⟨rfl, rfl, trivial⟩, rfl⟩
  · have hE : pErr s ps = chkE s := by unfold pErr; rw [if_neg hz]
    have hT : pTx s ps = [] := if_neg (by rw [hE]; exact hz)
    rw [hE, hT]
    have hne : (chkE s != 0) = true := by rw [bne_iff_ne]; exact hz
    generalize chkE s = ce at *
    (refine LWP.seq <| LWP.region (by kernel_rfl) <| K.box rfl rfl rfl .plain <| kas rfl <| kas rfl <| RunK.nil <| LWP.seq <| LWP.seq <| LWP.region (by kernel_rfl) <| K.loadAll rfl rfl rfl .plain ?_; refine kca rfl rfl hc <| kas rfl <| RunK.nil <| LWP.seq <| LWP.region (by kernel_rfl) <| kmv rfl <| kne rfl rfl hne <| RunK.nil <| LWP.condT rfl ?_; refine LWP.seq <| LWP.region (by kernel_rfl) <| kmv rfl <| kas rfl <| kas rfl <| RunK.nil <| LWP.ret ?_)
    exact ⟨[_, _], ⟨rfl, rfl, trivial⟩, rfl⟩
end Go.Proofs.YtnomcmklhbjfjaaGreatDoor
end
section
namespace Go.Proofs.YtnomcmklhbjfjaaGreatDoor
open Go Go.Lg Go.Lg.Fld
set_option maxRecDepth 100000
def getQs (cs : List Cp) : Nat → List UInt8 → Option (List Pt × List UInt8)
  | 0, r => some ([], r)
  | n + 1, r => match getP cs (-1) r with
    | none => none
    | some (p, t) => match getQs cs n t with
      | none => none
      | some (ps, u) => some (p :: ps, u)
theorem getQs_step {cs : List Cp} : ∀ {n : Nat} {b r r2 : List UInt8} {ps : List Pt} {p : Pt}, getQs cs n b = some (ps, r) → getP cs (-1) r = some (p, r2) → getQs cs (n + 1) b = some (ps ++ [p], r2)
  | 0, b, r, r2, ps, p, h, hp => by
    simp only [getQs, Option.some.injEq, Prod.mk.injEq] at h
    obtain ⟨rfl, rfl⟩ := h
    simp only [getQs, hp, List.nil_append]
  | n + 1, b, r, r2, ps, p, h, hp => by
    rw [getQs] at h
    rw [getQs]
    cases hg : getP cs (-1) b with
    | none => rw [hg] at h; simp at h
    | some x =>
      obtain ⟨q, b2⟩ := x
      rw [hg] at h
      simp only at h ⊢
      cases hk : getQs cs n b2 with
      | none => rw [hk] at h; simp at h
      | some y =>
        obtain ⟨qs, b3⟩ := y
        rw [hk] at h
        simp only [Option.some.injEq, Prod.mk.injEq] at h
        obtain ⟨rfl, rfl⟩ := h
        rw [getQs_step hk hp]
        rfl
theorem getQs_fail {cs : List Cp} : ∀ {n k : Nat} {b r : List UInt8} {ps : List Pt}, getQs cs n b = some (ps, r) → getP cs (-1) r = none → getQs cs (n + 1 + k) b = none
  | 0, k, b, r, ps, h, hp => by
    simp only [getQs, Option.some.injEq, Prod.mk.injEq] at h
    obtain ⟨rfl, rfl⟩ := h
    rw [show 0 + 1 + k = k + 1 by omega, getQs, hp]
  | n + 1, k, b, r, ps, h, hp => by
    rw [getQs] at h
    rw [show n + 1 + 1 + k = (n + 1 + k) + 1 by omega, getQs]
    cases hg : getP cs (-1) b with
    | none => rfl
    | some x =>
      obtain ⟨q, b2⟩ := x
      rw [hg] at h
      simp only at h ⊢
      cases hk : getQs cs n b2 with
      | none => rw [hk] at h; simp at h
      | some y =>
        obtain ⟨qs, b3⟩ := y
        rw [hk] at h
        simp only [Option.some.injEq, Prod.mk.injEq] at h
        obtain ⟨rfl, rfl⟩ := h
        rw [getQs_fail hk hp]
theorem getQs_ok {cs : List Cp} : ∀ {n : Nat} {b r : List UInt8} {ps : List Pt}, getQs cs n b = some (ps, r) → ps.length = n ∧ r.length ≤ b.length ∧ ∀ p ∈ ps, 0 ≤ p.comp ∧ (-9223372036854775808 ≤ p.comp ∧ p.comp < 9223372036854775808) ∧ ∀ n ∈ p.val, In2 n.2
  | 0, b, r, ps, h => by
    simp only [getQs, Option.some.injEq, Prod.mk.injEq] at h
    obtain ⟨rfl, rfl⟩ := h
    exact ⟨rfl, Nat.le_refl _, fun p hp => by cases hp⟩
  | n + 1, b, r, ps, h => by
    rw [getQs] at h
    cases hg : getP cs (-1) b with
    | none => rw [hg] at h; simp at h
    | some x =>
      obtain ⟨q, b2⟩ := x
      rw [hg] at h
      simp only at h
      cases hk : getQs cs n b2 with
      | none => rw [hk] at h; simp at h
      | some y =>
        obtain ⟨qs, b3⟩ := y
        rw [hk] at h
        simp only [Option.some.injEq, Prod.mk.injEq] at h
        obtain ⟨rfl, rfl⟩ := h
        obtain ⟨i1, i2, i3⟩ := getQs_ok hk
        have hb2 : b2.length ≤ b.length ∧ 0 ≤ q.comp := by
          cases b with
          | nil => cases hg
          | cons c t =>
            simp only [getP] at hg
            split at hg
            · cases hg
            · split at hg
              · simp only [Option.some.injEq, Prod.mk.injEq] at hg
                obtain ⟨rfl, rfl⟩ := hg
                exact ⟨by rw [List.length_drop, List.length_cons]; omega, Int.natCast_nonneg _⟩
              · cases hg
        refine ⟨by rw [List.length_cons, i1], by omega, fun p hp => ?_⟩
        rcases List.mem_cons.1 hp with rfl | hp
        · exact ⟨hb2.2, getP_ok hg⟩
        · exact i3 p hp
theorem getP_last (cs : List Cp) (last : Int) (r : List UInt8) : getP cs last r = match getP cs (-1) r with | some (p, t) => if last < p.comp then some (p, t) else none | none => none := by
  cases r with
  | nil => rfl
  | cons b r =>
    simp only [getP]
    cases cs.find? (fun c => c.id == (b.toNat : Int)) with
    | none => rfl
    | some c =>
      simp only
      have hb : (-1 : Int) < (b.toNat : Int) := by omega
      by_cases h : rowSize c.fs ≤ r.length ∧ unpErr c.fs (r.take (rowSize c.fs)) = 0
      · rw [if_pos (⟨hb, h⟩ : (-1 : Int) < (b.toNat : Int) ∧ rowSize c.fs ≤ r.length ∧ unpErr c.fs (r.take (rowSize c.fs)) = 0)]
        simp only
        by_cases hl : last < (b.toNat : Int)
        · rw [if_pos ⟨hl, h⟩, if_pos hl]
        · rw [if_neg fun h => hl h.1, if_neg hl]
      · rw [if_neg fun h2 => h h2.2, if_neg fun h2 => h h2.2]
theorem getPs_Qs (cs : List Cp) : ∀ (n : Nat) (last : Int) (r : List UInt8), getPs cs n last r = match getQs cs n r with | some (ps, u) => if risesP last ps then some (ps, u) else none | none => none
  | 0, last, r => (if_pos trivial).symm
  | n + 1, last, r => by
    rw [getPs, getQs, getP_last]
    cases getP cs (-1) r with
    | none => rfl
    | some x =>
      obtain ⟨p, t⟩ := x
      simp only
      by_cases hl : last < p.comp
      · rw [if_pos hl]
        simp only
        rw [getPs_Qs cs n p.comp t]
        cases getQs cs n t with
        | none => rfl
        | some y =>
          obtain ⟨qs, u⟩ := y
          simp only
          by_cases hr : risesP p.comp qs
          · rw [if_pos hr, if_pos (show risesP last (p :: qs) from ⟨hl, hr⟩)]
          · rw [if_neg hr, if_neg (fun h : risesP last (p :: qs) => hr h.2)]
      · rw [if_neg hl]
        simp only
        cases getQs cs n t with
        | none => rfl
        | some y =>
          obtain ⟨qs, u⟩ := y
          simp only
          rw [if_neg (fun h : risesP last (p :: qs) => hl h.1)]
theorem decP_Qs (cs : List Cp) (n : UInt8) (r : List UInt8) : decP cs (n :: r) = match getQs cs n.toNat r with | some (ps, u) => if u = [] ∧ risesP (-1) ps then some ps else none | none => none := by
  show decPs cs n.toNat (-1) r = _
  rw [decPs_get, getPs_Qs]
  cases h : getQs cs n.toNat r with
  | none => rfl
  | some y =>
    obtain ⟨qs, u⟩ := y
    simp only
    by_cases hr : risesP (-1) qs
    · rw [if_pos hr]
      simp only
      by_cases hu : u = []
      · rw [if_pos hu, if_pos ⟨hu, hr⟩]
      · rw [if_neg hu, if_neg fun h => hu h.1]
    · rw [if_neg hr, if_neg fun h => hr h.2]
def zeP (k : Nat) : List Value := (List.replicate k [Value.int .i64 0, Value.slice none 0 0]).flatten
theorem zeP_succ (k : Nat) : zeP (k + 1) = [Value.int .i64 0, Value.slice none 0 0] ++ zeP k := by unfold zeP; rw [List.replicate_succ, List.flatten_cons]
theorem zeP_len (k : Nat) : (zeP k).length = k * 2 := by
  induction k with
  | zero => rfl
  | succ k ih => rw [zeP_succ, List.length_append, ih]; simp; omega
theorem chk_lay {s : Sc} (h : chkE s = 0) {c : Cp} (hc : c ∈ s.cs) : layErr c.fs = 0 ∧ 1 ≤ c.id := by
  unfold chkE at h
  by_cases hv : s.ver < 1 ∨ 1073741824 < s.ver
  · rw [if_pos hv] at h; cases h
  rw [if_neg hv] at h
  obtain ⟨i, hi⟩ := List.mem_iff_getElem?.1 hc
  exact ⟨((good_of h).one i c hi).2.2.2.2, ((good_of h).one i c hi).1⟩
section
variable {P : Program} {Q : Exit → St → Prop} {c : Code} {n : Nat} {C : Ctx} {X : Nat → Option Obj} {s : List (Nat × LV)} {bx : List (Nat × Option Box)} {k : Nat}
theorem pt_shutW {ps : List Pt} {H : Nat → Option Obj} {cells sp : List Value} {vel : TypeId} (hO : OwnedM C X H) (G : Twigs H vel 3 [] cells (ps.map fun p => ptV p.val)) (hb : ∀ p ∈ ps, (-9223372036854775808 ≤ p.comp ∧ p.comp < 9223372036854775808) ∧ ∀ n ∈ p.val, In2 n.2)
    (h : LWP P n C c Q ⟨s, ptB k ps :: bx, X⟩) : LWP P n C c Q ⟨s, (k, some ⟨41, (rowsP ps cells ++ sp).map .val, false⟩) :: bx, joinM X H⟩ := by
  refine LWP.closeRes (vals := rowsP ps cells ++ sp) hO (fun ρ fr h1 h2 h3 => ?_) h
  have hl : cells.length = ps.length := by rw [G.len, List.length_map]
  refine ⟨⟨_, fr, withBlock_at _ _ _, by rw [h3]; simp⟩, ?_⟩
  refine parts_block (vel := vel) (withBlock_at _ _ _) (by simp; rfl) hl hb fun i p v hp hv => ?_
  exact ((G.more h1).at_ i v (ptV p.val) (by simp) hv (by rw [List.getElem?_map, hp]; rfl))
end
variable (X : Nat → Option Obj)
theorem rise_made {S : Nat → Option (Option Box)} {k : Nat} {ps : List Pt} {e : TypeId} {cc : List CV} {r : Bool} (hpb : ps.length < 4611686018427387904) (hr : r = true ↔ Adj ps) (hk : S k = some (some ⟨e, cc, .res (ptR ps)⟩)) :
    ∀ (Y : Nat → Option Obj) (us : List Value), (∀ b o, X b = some o → Y b = some o) → LentLs S Y [.sv (.one (.slc k 0 ps.length 2))] us → PSpec Tryz.prog Y 37 (us.map toLV) (Lb r) := by
  intro Y us hY hL
  obtain ⟨u2, us2, rfl, ⟨bb, blk, cap2, m, hk', rfl, hc, hfit, hB⟩, rfl⟩ := hL
  rw [hk] at hk'
  simp only [Option.some.injEq] at hk'
  subst hk'
  obtain ⟨H, hR, hHY⟩ := hB
  exact rise_spec Y (some ⟨blk, 0, none⟩) cap2 ps (hR.2.mono hHY) hpb r hr
abbrev pzB (k : Nat) : Nat × Option Box := (k, some ⟨41, [.val (.int .i64 0), .val (.slice none 0 0)], false⟩)
abbrev noP : LV := .tup [.agg [.val (.int .i64 0), .val (.slice none 0 0)], Sb false]
abbrev tpA (ver : Int) (ad : Option Addr) (n cap : Nat) : List LV := [Lp 1000000, Sx ver ad n cap]
section
variable {X} {ver : Int} {ad : Option Addr} {cap : Nat} {cs : List Cp} (hin : CompsIn X ad cs) (hbig : cs.length < 4611686018427387904)
include hin hbig
theorem takePart_nf (l l2 : List UInt8) (b b2 : Bool) (k : Nat) (hS : MSpec Tryz.prog X 30 [Lp 1000000] (rd 1000000 l b) (Ln .i64 (k : Nat)) (rd 1000000 l2 b2)) (hno : ∀ (j : Nat) (y : Cp), cs[j]? = some y → (y.id == ((k : Nat) : Int)) = false) :
    MSpec Tryz.prog X 42 (tpA ver ad cs.length cap) (rd 1000000 l b) noP (rd 1000000 l2 b2) := by
  have hF := pFind_no X ver ad cap cs ((k : Nat) : Int) hin hbig hno
  refine MSpec.intro Tryz.func42 rfl (by kernel_rfl) rfl (by exact (by repeat' (first | refine all_cons_true ?_ ?_ | rfl | exact bytes_inUse | exact vals_inUse | exact mid_inUse rfl))) (by exact (by repeat' (first | refine all_cons_true ?_ ?_ | rfl | exact bytes_inUse | exact vals_inUse | exact mid_inUse rfl))) rfl rfl ?_
  intro C
  refine LWP.ends ?_
  (refine LWP.seq <| LWP.region (by kernel_rfl) <| K.box rfl rfl rfl .plain <| K.alloc rfl .plain ?_; refine kas rfl <| RunK.nil <| LWP.seq <| LWP.draws mixed (by kernel_rfl) <| K.loadAll rfl rfl rfl .plain ?_; refine kmv rfl <| K.callM [] (rd 1000000 l2 b2) (hS) rfl rfl (by exact (And.intro ⟨_, rfl, rfl⟩ trivial)) (by exact (all_cons_true (all_cons_true rfl (all_cons_true rfl rfl)) rfl)) rfl rfl rfl rfl (by exact (.box rfl rfl .nil)) .plain <| kca rfl rfl hF <| kmv rfl <| kex rfl rfl <| kex rfl rfl <| K.alloc rfl .plain ?_; refine K.storeAll rfl rfl rfl rfl rfl rfl .plain ?_; refine kas rfl <| RunK.nil <| And.intro (by kernel_rfl) ?_; refine LWP.seq <| LWP.seq <| LWP.region (by kernel_rfl) <| kmv rfl <| K.not rfl rfl .plain <| RunK.nil <| LWP.condT rfl ?_; refine LWP.seq <| LWP.region (by kernel_rfl) <| K.build rfl rfl (by exact rfl) (by exact nl2 rfl rfl rfl) .plain ?_; refine K.storeAll rfl rfl rfl rfl rfl rfl .plain ?_; refine kas rfl <| RunK.nil <| LWP.ret ?_)
  exact Leads.done ⟨[], ⟨[_, _], ⟨⟨_, _, rfl, rfl, rfl, .inl ⟨AggT.h, rfl⟩⟩, rfl, trivial⟩, rfl⟩, (by repeat' (first | exact trivial | refine And.intro ⟨_, rfl, ?_⟩ ?_ | refine And.intro ⟨_, rfl⟩ ?_ | rfl | exact Box.ren_bytes _ _ _ _ | exact Box.ren_vals _ _ _ _ | exact Box.ren_mid rfl)), rfl, rfl⟩
variable (hfs : ∀ c ∈ cs, c.fs.length ≤ 65536)
include hfs
set_option maxHeartbeats 3200000 in
theorem takePart_raw (k : UInt8) (t : List UInt8) (hl : t.length < 4611686018427387904) {i : Nat} {c : Cp} (hpre : ∀ (j : Nat) (y : Cp), j < i → cs[j]? = some y → (y.id == ((k.toNat : Nat) : Int)) = false) (hc : cs[i]? = some c) (he : c.id = ((k.toNat : Nat) : Int)) (hlay : layErr c.fs = 0) (hS : MSpec Tryz.prog X 30 [Lp 1000000] (rd 1000000 (k :: t) false) (Ln .i64 (k.toNat : Nat)) (rd 1000000 t false))
    (hroom : ¬ rowSize c.fs ≤ t.length) : MSpec Tryz.prog X 42 (tpA ver ad cs.length cap) (rd 1000000 (k :: t) false) noP (rd 1000000 t true) := by
  have hfb := hfs c (List.mem_of_getElem? hc)
  obtain ⟨_, hall, h256⟩ := layErr_facts hlay
  obtain ⟨_, _, _, _, _, _, _, _, _, _, _, _, _, _, hFs⟩ := hin.get hc
  have hun : unpErr c.fs [] ≠ 0 := by
    unfold unpErr unpOk
    rw [if_pos hlay, decide_eq_false (by simp only [List.length_nil]; omega), Bool.false_and]
    decide
  refine MSpec.intro Tryz.func42 rfl (by kernel_rfl) rfl (by exact (by repeat' (first | refine all_cons_true ?_ ?_ | rfl | exact bytes_inUse | exact vals_inUse | exact mid_inUse rfl))) (by exact (by repeat' (first | refine all_cons_true ?_ ?_ | rfl | exact bytes_inUse | exact vals_inUse | exact mid_inUse rfl))) rfl rfl ?_
  intro C
  refine LWP.ends ?_
  refine LWP.seq ?_
  (refine LWP.region (by kernel_rfl) <| K.box rfl rfl rfl .plain <| K.alloc rfl .plain ?_; refine kas rfl <| RunK.nil <| LWP.seq ?_)
  refine LWP.meetL (fun σ => ∃ (X1 : Nat → Option Obj) (fad : Option Addr) (fcap : Nat), (∀ b o, X b = some o → X1 b = some o) ∧ FieldsIn X1 fad c.fs ∧ σ = ⟨[(0, Lp 1000000), (4, Lp 4), (6, Lp 6), (7, Lb true)], [cpB 6 c fad fcap, rdB 1000000 t false, pzB 4], X1⟩) ?_ ?_
  · rcases pFind X ver ad cap cs ((k.toNat : Nat) : Int) hin hbig hfs hpre hc he with ⟨h0, hF⟩ | hF
    · (refine LWP.draws mixed (by kernel_rfl) <| K.loadAll rfl rfl rfl .plain ?_; refine kmv rfl <| K.callM [] (rd 1000000 t false) (hS) rfl rfl (by exact (And.intro ⟨_, rfl, rfl⟩ trivial)) (by exact (all_cons_true (all_cons_true rfl (all_cons_true rfl rfl)) rfl)) rfl rfl rfl rfl (by exact (.box rfl rfl .nil)) .plain <| kca rfl rfl hF <| kmv rfl <| kex rfl rfl <| kex rfl rfl <| K.alloc rfl .plain ?_; refine K.storeAll rfl rfl rfl rfl rfl rfl .plain ?_; refine kas rfl <| RunK.nil <| And.intro (by kernel_rfl) ?_)
      exact Leads.here (Le.of (by exact ⟨rfl, rfl, rfl, rfl, trivial⟩) (by exact ⟨rfl, rfl, rfl, trivial⟩) (by exact rfl) (by exact rfl) (by repeat' (first | refine all_cons_true ?_ ?_ | rfl | exact bytes_inUse | exact vals_inUse | exact mid_inUse rfl))) ⟨X, none, 0, fun _ _ h => h, fields_none h0, rfl⟩
    · (refine LWP.draws mixed (by kernel_rfl) <| K.loadAll rfl rfl rfl .plain ?_; refine kmv rfl <| K.callM [] (rd 1000000 t false) (hS) rfl rfl (by exact (And.intro ⟨_, rfl, rfl⟩ trivial)) (by exact (all_cons_true (all_cons_true rfl (all_cons_true rfl rfl)) rfl)) rfl rfl rfl rfl (by exact (.box rfl rfl .nil)) .plain <| K.callMp [(1000001, 20)] (.tup [SCs c 20, Sb true]) [fdB 20 c.fs] (hF) rfl rfl (by exact trivial) rfl rfl rfl rfl rfl (by exact (.box rfl (Box.ren_vals _ _ _ _) .nil)) .plain <| kmv rfl <| kex rfl rfl <| kex rfl rfl <| K.alloc rfl .plain ?_; refine K.storeAll rfl rfl rfl rfl rfl rfl .plain ?_; refine kas rfl <| RunK.nil <| And.intro (by kernel_rfl) ?_)
      refine Leads.le (σ' := ⟨[(0, Lp 1000000), (4, Lp 4), (6, Lp 6), (7, Lb true)], [(6, some ⟨60, [.val (.int .i64 c.id), .val (.string ⟨c.nm.toArray⟩)] ++ .slc 20 0 c.fs.length 3 :: [], false⟩), (20, some ⟨57, (flV c.fs).map .val, true⟩), rdB 1000000 t false, pzB 4], X⟩) (Le.of (by exact ⟨rfl, rfl, rfl, rfl, trivial⟩) (by exact ⟨rfl, rfl, rfl, rfl, trivial⟩) (by exact rfl) (by exact rfl) (by repeat' (first | refine all_cons_true ?_ ?_ | rfl | exact bytes_inUse | exact vals_inUse | exact mid_inUse rfl))) ?_
      refine Leads.freezeCell rfl rfl rfl rfl rfl rfl fun b c1 a f hn _ _ _ hsp => ?_
      exact Leads.done ⟨_, some ⟨b, 0, none⟩, c1, withBlock_old hn, (by obtain ⟨sp, e⟩ := hsp; exact fields_block (withBlock_at _ _ _) e hFs.small), rfl⟩
  rintro σ ⟨X1, fad, fcap, hX1, hFX, rfl⟩
  have hO := Of_ok X1 fad fcap c.fs hFX (by omega) hlay
  have hW := Raw_no X1 t false ((rowSize c.fs : Nat) : Int) (by unfold rawOk; rw [decide_eq_false (by omega)]; rfl)
  have hU := lUnpack_err X1 fad fcap c.fs [] hFX (by omega) hun
  have hne : (unpErr c.fs [] != 0) = true := by rw [bne_iff_ne]; exact hun
  generalize unpErr c.fs [] = ue at *
  generalize rowSize c.fs = T at *
  (refine LWP.seq <| LWP.seq <| LWP.region (by kernel_rfl) <| kmv rfl <| K.not rfl rfl .plain <| RunK.nil <| LWP.condF rfl ?_; refine LWP.skip ?_; refine LWP.seq <| LWP.region (by kernel_rfl) <| kfa rfl rfl ?_; refine kl1 rfl rfl rfl <| K.callMp [(1000001, 40)] (.tup [planV (T : Nat) (.slc 40 0 c.fs.length 1), Sn .i64 0]) [(40, some ⟨3, (ntV (startsAt 0 c.fs)).map .val, false⟩)] (hO) rfl rfl (by exact trivial) rfl rfl rfl rfl rfl (by exact (.box rfl (Box.ren_vals _ _ _ _) .nil)) .plain <| kmv rfl <| kex rfl rfl <| kex rfl rfl <| K.alloc rfl .plain ?_; refine K.storeAll rfl rfl rfl rfl rfl rfl .plain ?_; refine kas rfl <| RunK.nil <| LWP.seq <| LWP.draws mixed (by kernel_rfl) <| kfa rfl rfl ?_; refine kl1 rfl rfl rfl <| kmv rfl <| kfa rfl rfl ?_; refine kl1 rfl rfl rfl <| K.callM [] (rd 1000000 t true) (hW) rfl rfl (by exact (And.intro ⟨_, rfl, rfl⟩ trivial)) (by exact (all_cons_true (all_cons_true rfl (all_cons_true rfl rfl)) rfl)) rfl rfl rfl rfl (by exact (.box rfl rfl .nil)) .plain <| kca rfl rfl hU <| kmv rfl <| kex rfl rfl <| kex rfl rfl <| kas rfl <| kas rfl <| RunK.nil <| And.intro (by kernel_rfl) ?_; refine LWP.seq <| LWP.seq <| LWP.region (by kernel_rfl) <| kmv rfl <| kne rfl rfl hne <| RunK.nil <| LWP.condT rfl ?_; refine LWP.seq <| LWP.region (by kernel_rfl) <| K.build rfl rfl (by exact rfl) (by exact nl2 rfl rfl rfl) .plain ?_; refine K.storeAll rfl rfl rfl rfl rfl rfl .plain ?_; refine kas rfl <| RunK.nil <| LWP.ret ?_)
  refine Leads.le (σ' := ⟨[(4, Lp 4), (5, Lb false)], [rdB 1000000 t true, pzB 4], X1⟩) (Le.of (by exact ⟨rfl, rfl, trivial⟩) (by exact ⟨rfl, rfl, trivial⟩) (by exact rfl) (by exact rfl) (by repeat' (first | refine all_cons_true ?_ ?_ | rfl | exact bytes_inUse | exact vals_inUse | exact mid_inUse rfl))) ?_
  refine Leads.le (Le.drop hX1) (Leads.done ?_)
  exact ⟨[], ⟨[_, _], ⟨⟨_, _, rfl, rfl, rfl, .inl ⟨AggT.h, rfl⟩⟩, rfl, trivial⟩, rfl⟩, (by repeat' (first | exact trivial | refine And.intro ⟨_, rfl, ?_⟩ ?_ | refine And.intro ⟨_, rfl⟩ ?_ | rfl | exact Box.ren_bytes _ _ _ _ | exact Box.ren_vals _ _ _ _ | exact Box.ren_mid rfl)), rfl, rfl⟩
set_option maxHeartbeats 3200000 in
theorem takePart_unp (k : UInt8) (t : List UInt8) (hl : t.length < 4611686018427387904) {i : Nat} {c : Cp} (hpre : ∀ (j : Nat) (y : Cp), j < i → cs[j]? = some y → (y.id == ((k.toNat : Nat) : Int)) = false) (hc : cs[i]? = some c) (he : c.id = ((k.toNat : Nat) : Int)) (hlay : layErr c.fs = 0) (hS : MSpec Tryz.prog X 30 [Lp 1000000] (rd 1000000 (k :: t) false) (Ln .i64 (k.toNat : Nat)) (rd 1000000 t false))
    (hroom : rowSize c.fs ≤ t.length) (hun : unpErr c.fs (t.take (rowSize c.fs)) ≠ 0) : MSpec Tryz.prog X 42 (tpA ver ad cs.length cap) (rd 1000000 (k :: t) false) noP (rd 1000000 (t.drop (rowSize c.fs)) false) := by
  have hfb := hfs c (List.mem_of_getElem? hc)
  obtain ⟨_, hall, h256⟩ := layErr_facts hlay
  obtain ⟨_, _, _, _, _, _, _, _, _, _, _, _, _, _, hFs⟩ := hin.get hc
  refine MSpec.intro Tryz.func42 rfl (by kernel_rfl) rfl (by exact (by repeat' (first | refine all_cons_true ?_ ?_ | rfl | exact bytes_inUse | exact vals_inUse | exact mid_inUse rfl))) (by exact (by repeat' (first | refine all_cons_true ?_ ?_ | rfl | exact bytes_inUse | exact vals_inUse | exact mid_inUse rfl))) rfl rfl ?_
  intro C
  refine LWP.ends ?_
  refine LWP.seq ?_
  (refine LWP.region (by kernel_rfl) <| K.box rfl rfl rfl .plain <| K.alloc rfl .plain ?_; refine kas rfl <| RunK.nil <| LWP.seq ?_)
  refine LWP.meetL (fun σ => ∃ (X1 : Nat → Option Obj) (fad : Option Addr) (fcap : Nat), (∀ b o, X b = some o → X1 b = some o) ∧ FieldsIn X1 fad c.fs ∧ σ = ⟨[(0, Lp 1000000), (4, Lp 4), (6, Lp 6), (7, Lb true)], [cpB 6 c fad fcap, rdB 1000000 t false, pzB 4], X1⟩) ?_ ?_
  · rcases pFind X ver ad cap cs ((k.toNat : Nat) : Int) hin hbig hfs hpre hc he with ⟨h0, hF⟩ | hF
    · (refine LWP.draws mixed (by kernel_rfl) <| K.loadAll rfl rfl rfl .plain ?_; refine kmv rfl <| K.callM [] (rd 1000000 t false) (hS) rfl rfl (by exact (And.intro ⟨_, rfl, rfl⟩ trivial)) (by exact (all_cons_true (all_cons_true rfl (all_cons_true rfl rfl)) rfl)) rfl rfl rfl rfl (by exact (.box rfl rfl .nil)) .plain <| kca rfl rfl hF <| kmv rfl <| kex rfl rfl <| kex rfl rfl <| K.alloc rfl .plain ?_; refine K.storeAll rfl rfl rfl rfl rfl rfl .plain ?_; refine kas rfl <| RunK.nil <| And.intro (by kernel_rfl) ?_)
      exact Leads.here (Le.of (by exact ⟨rfl, rfl, rfl, rfl, trivial⟩) (by exact ⟨rfl, rfl, rfl, trivial⟩) (by exact rfl) (by exact rfl) (by repeat' (first | refine all_cons_true ?_ ?_ | rfl | exact bytes_inUse | exact vals_inUse | exact mid_inUse rfl))) ⟨X, none, 0, fun _ _ h => h, fields_none h0, rfl⟩
    · (refine LWP.draws mixed (by kernel_rfl) <| K.loadAll rfl rfl rfl .plain ?_; refine kmv rfl <| K.callM [] (rd 1000000 t false) (hS) rfl rfl (by exact (And.intro ⟨_, rfl, rfl⟩ trivial)) (by exact (all_cons_true (all_cons_true rfl (all_cons_true rfl rfl)) rfl)) rfl rfl rfl rfl (by exact (.box rfl rfl .nil)) .plain <| K.callMp [(1000001, 20)] (.tup [SCs c 20, Sb true]) [fdB 20 c.fs] (hF) rfl rfl (by exact trivial) rfl rfl rfl rfl rfl (by exact (.box rfl (Box.ren_vals _ _ _ _) .nil)) .plain <| kmv rfl <| kex rfl rfl <| kex rfl rfl <| K.alloc rfl .plain ?_; refine K.storeAll rfl rfl rfl rfl rfl rfl .plain ?_; refine kas rfl <| RunK.nil <| And.intro (by kernel_rfl) ?_)
      refine Leads.le (σ' := ⟨[(0, Lp 1000000), (4, Lp 4), (6, Lp 6), (7, Lb true)], [(6, some ⟨60, [.val (.int .i64 c.id), .val (.string ⟨c.nm.toArray⟩)] ++ .slc 20 0 c.fs.length 3 :: [], false⟩), (20, some ⟨57, (flV c.fs).map .val, true⟩), rdB 1000000 t false, pzB 4], X⟩) (Le.of (by exact ⟨rfl, rfl, rfl, rfl, trivial⟩) (by exact ⟨rfl, rfl, rfl, rfl, trivial⟩) (by exact rfl) (by exact rfl) (by repeat' (first | refine all_cons_true ?_ ?_ | rfl | exact bytes_inUse | exact vals_inUse | exact mid_inUse rfl))) ?_
      refine Leads.freezeCell rfl rfl rfl rfl rfl rfl fun b c1 a f hn _ _ _ hsp => ?_
      exact Leads.done ⟨_, some ⟨b, 0, none⟩, c1, withBlock_old hn, (by obtain ⟨sp, e⟩ := hsp; exact fields_block (withBlock_at _ _ _) e hFs.small), rfl⟩
  rintro σ ⟨X1, fad, fcap, hX1, hFX, rfl⟩
  have hO := Of_ok X1 fad fcap c.fs hFX (by omega) hlay
  have hW := Raw_ok X1 t (rowSize c.fs) hroom (by omega)
  have hU := lUnpack_err X1 fad fcap c.fs (t.take (rowSize c.fs)) hFX (by omega) hun
  have hne : (unpErr c.fs (t.take (rowSize c.fs)) != 0) = true := by rw [bne_iff_ne]; exact hun
  generalize unpErr c.fs (t.take (rowSize c.fs)) = ue at *
  generalize rowSize c.fs = T at *
  (refine LWP.seq <| LWP.seq <| LWP.region (by kernel_rfl) <| kmv rfl <| K.not rfl rfl .plain <| RunK.nil <| LWP.condF rfl ?_; refine LWP.skip ?_; refine LWP.seq <| LWP.region (by kernel_rfl) <| kfa rfl rfl ?_; refine kl1 rfl rfl rfl <| K.callMp [(1000001, 40)] (.tup [planV (T : Nat) (.slc 40 0 c.fs.length 1), Sn .i64 0]) [(40, some ⟨3, (ntV (startsAt 0 c.fs)).map .val, false⟩)] (hO) rfl rfl (by exact trivial) rfl rfl rfl rfl rfl (by exact (.box rfl (Box.ren_vals _ _ _ _) .nil)) .plain <| kmv rfl <| kex rfl rfl <| kex rfl rfl <| K.alloc rfl .plain ?_; refine K.storeAll rfl rfl rfl rfl rfl rfl .plain ?_; refine kas rfl <| RunK.nil <| LWP.seq <| LWP.draws mixed (by kernel_rfl) <| kfa rfl rfl ?_; refine kl1 rfl rfl rfl <| kmv rfl <| kfa rfl rfl ?_; refine kl1 rfl rfl rfl <| K.callM [] (rd 1000000 (t.drop (T)) false) (hW) rfl rfl (by exact (And.intro ⟨_, rfl, rfl⟩ trivial)) (by exact (all_cons_true (all_cons_true rfl (all_cons_true rfl rfl)) rfl)) rfl rfl rfl rfl (by exact (.box rfl rfl .nil)) .plain <| kca rfl rfl hU <| kmv rfl <| kex rfl rfl <| kex rfl rfl <| kas rfl <| kas rfl <| RunK.nil <| And.intro (by kernel_rfl) ?_; refine LWP.seq <| LWP.seq <| LWP.region (by kernel_rfl) <| kmv rfl <| kne rfl rfl hne <| RunK.nil <| LWP.condT rfl ?_; refine LWP.seq <| LWP.region (by kernel_rfl) <| K.build rfl rfl (by exact rfl) (by exact nl2 rfl rfl rfl) .plain ?_; refine K.storeAll rfl rfl rfl rfl rfl rfl .plain ?_; refine kas rfl <| RunK.nil <| LWP.ret ?_)
  refine Leads.le (σ' := ⟨[(4, Lp 4), (5, Lb false)], [rdB 1000000 (t.drop (T)) false, pzB 4], X1⟩) (Le.of (by exact ⟨rfl, rfl, trivial⟩) (by exact ⟨rfl, rfl, trivial⟩) (by exact rfl) (by exact rfl) (by repeat' (first | refine all_cons_true ?_ ?_ | rfl | exact bytes_inUse | exact vals_inUse | exact mid_inUse rfl))) ?_
  refine Leads.le (Le.drop hX1) (Leads.done ?_)
  exact ⟨[], ⟨[_, _], ⟨⟨_, _, rfl, rfl, rfl, .inl ⟨AggT.h, rfl⟩⟩, rfl, trivial⟩, rfl⟩, (by repeat' (first | exact trivial | refine And.intro ⟨_, rfl, ?_⟩ ?_ | refine And.intro ⟨_, rfl⟩ ?_ | rfl | exact Box.ren_bytes _ _ _ _ | exact Box.ren_vals _ _ _ _ | exact Box.ren_mid rfl)), rfl, rfl⟩
set_option maxHeartbeats 3200000 in
theorem takePart_yes (k : UInt8) (t : List UInt8) (hl : t.length < 4611686018427387904) {i : Nat} {c : Cp} (hpre : ∀ (j : Nat) (y : Cp), j < i → cs[j]? = some y → (y.id == ((k.toNat : Nat) : Int)) = false) (hc : cs[i]? = some c) (he : c.id = ((k.toNat : Nat) : Int)) (hlay : layErr c.fs = 0) (hS : MSpec Tryz.prog X 30 [Lp 1000000] (rd 1000000 (k :: t) false) (Ln .i64 (k.toNat : Nat)) (rd 1000000 t false))
    (hroom : rowSize c.fs ≤ t.length) (hun : unpErr c.fs (t.take (rowSize c.fs)) = 0) : MSpec Tryz.prog X 42 (tpA ver ad cs.length cap) (rd 1000000 (k :: t) false) (.tup [.agg [.val (.int .i64 (k.toNat : Nat)), .slc 1000001 0 ((unpZ c.fs (t.take (rowSize c.fs))).map qn).length 3], Sb true]) (rd 1000000 (t.drop (rowSize c.fs)) false ++ [(1000001, some ⟨63, (ptV ((unpZ c.fs (t.take (rowSize c.fs))).map qn)).map .val, false⟩)]) := by
  have hfb := hfs c (List.mem_of_getElem? hc)
  obtain ⟨_, hall, h256⟩ := layErr_facts hlay
  obtain ⟨_, _, _, _, _, _, _, _, _, _, _, _, _, _, hFs⟩ := hin.get hc
  refine MSpec.intro Tryz.func42 rfl (by kernel_rfl) rfl (by exact (by repeat' (first | refine all_cons_true ?_ ?_ | rfl | exact bytes_inUse | exact vals_inUse | exact mid_inUse rfl))) (by exact (by repeat' (first | refine all_cons_true ?_ ?_ | rfl | exact bytes_inUse | exact vals_inUse | exact mid_inUse rfl))) rfl rfl ?_
  intro C
  refine LWP.ends ?_
  refine LWP.seq ?_
  (refine LWP.region (by kernel_rfl) <| K.box rfl rfl rfl .plain <| K.alloc rfl .plain ?_; refine kas rfl <| RunK.nil <| LWP.seq ?_)
  refine LWP.meetL (fun σ => ∃ (X1 : Nat → Option Obj) (fad : Option Addr) (fcap : Nat), (∀ b o, X b = some o → X1 b = some o) ∧ FieldsIn X1 fad c.fs ∧ σ = ⟨[(0, Lp 1000000), (4, Lp 4), (6, Lp 6), (7, Lb true)], [cpB 6 c fad fcap, rdB 1000000 t false, pzB 4], X1⟩) ?_ ?_
  · rcases pFind X ver ad cap cs ((k.toNat : Nat) : Int) hin hbig hfs hpre hc he with ⟨h0, hF⟩ | hF
    · (refine LWP.draws mixed (by kernel_rfl) <| K.loadAll rfl rfl rfl .plain ?_; refine kmv rfl <| K.callM [] (rd 1000000 t false) (hS) rfl rfl (by exact (And.intro ⟨_, rfl, rfl⟩ trivial)) (by exact (all_cons_true (all_cons_true rfl (all_cons_true rfl rfl)) rfl)) rfl rfl rfl rfl (by exact (.box rfl rfl .nil)) .plain <| kca rfl rfl hF <| kmv rfl <| kex rfl rfl <| kex rfl rfl <| K.alloc rfl .plain ?_; refine K.storeAll rfl rfl rfl rfl rfl rfl .plain ?_; refine kas rfl <| RunK.nil <| And.intro (by kernel_rfl) ?_)
      exact Leads.here (Le.of (by exact ⟨rfl, rfl, rfl, rfl, trivial⟩) (by exact ⟨rfl, rfl, rfl, trivial⟩) (by exact rfl) (by exact rfl) (by repeat' (first | refine all_cons_true ?_ ?_ | rfl | exact bytes_inUse | exact vals_inUse | exact mid_inUse rfl))) ⟨X, none, 0, fun _ _ h => h, fields_none h0, rfl⟩
    · (refine LWP.draws mixed (by kernel_rfl) <| K.loadAll rfl rfl rfl .plain ?_; refine kmv rfl <| K.callM [] (rd 1000000 t false) (hS) rfl rfl (by exact (And.intro ⟨_, rfl, rfl⟩ trivial)) (by exact (all_cons_true (all_cons_true rfl (all_cons_true rfl rfl)) rfl)) rfl rfl rfl rfl (by exact (.box rfl rfl .nil)) .plain <| K.callMp [(1000001, 20)] (.tup [SCs c 20, Sb true]) [fdB 20 c.fs] (hF) rfl rfl (by exact trivial) rfl rfl rfl rfl rfl (by exact (.box rfl (Box.ren_vals _ _ _ _) .nil)) .plain <| kmv rfl <| kex rfl rfl <| kex rfl rfl <| K.alloc rfl .plain ?_; refine K.storeAll rfl rfl rfl rfl rfl rfl .plain ?_; refine kas rfl <| RunK.nil <| And.intro (by kernel_rfl) ?_)
      refine Leads.le (σ' := ⟨[(0, Lp 1000000), (4, Lp 4), (6, Lp 6), (7, Lb true)], [(6, some ⟨60, [.val (.int .i64 c.id), .val (.string ⟨c.nm.toArray⟩)] ++ .slc 20 0 c.fs.length 3 :: [], false⟩), (20, some ⟨57, (flV c.fs).map .val, true⟩), rdB 1000000 t false, pzB 4], X⟩) (Le.of (by exact ⟨rfl, rfl, rfl, rfl, trivial⟩) (by exact ⟨rfl, rfl, rfl, rfl, trivial⟩) (by exact rfl) (by exact rfl) (by repeat' (first | refine all_cons_true ?_ ?_ | rfl | exact bytes_inUse | exact vals_inUse | exact mid_inUse rfl))) ?_
      refine Leads.freezeCell rfl rfl rfl rfl rfl rfl fun b c1 a f hn _ _ _ hsp => ?_
      exact Leads.done ⟨_, some ⟨b, 0, none⟩, c1, withBlock_old hn, (by obtain ⟨sp, e⟩ := hsp; exact fields_block (withBlock_at _ _ _) e hFs.small), rfl⟩
  rintro σ ⟨X1, fad, fcap, hX1, hFX, rfl⟩
  have hO := Of_ok X1 fad fcap c.fs hFX (by omega) hlay
  have hW := Raw_ok X1 t (rowSize c.fs) hroom (by omega)
  have hU := lUnpack_ok X1 fad fcap c.fs (t.take (rowSize c.fs)) hFX (by omega) hun
  rw [nsV_pt] at hU
  generalize hz : (unpZ c.fs (t.take (rowSize c.fs))).map qn = ns at *
  have hzl : (unpZ c.fs (t.take (rowSize c.fs))).length = ns.length := by rw [← hz, List.length_map]
  rw [hzl] at hU
  generalize rowSize c.fs = T at *
  (refine LWP.seq <| LWP.seq <| LWP.region (by kernel_rfl) <| kmv rfl <| K.not rfl rfl .plain <| RunK.nil <| LWP.condF rfl ?_; refine LWP.skip ?_; refine LWP.seq <| LWP.region (by kernel_rfl) <| kfa rfl rfl ?_; refine kl1 rfl rfl rfl <| K.callMp [(1000001, 40)] (.tup [planV (T : Nat) (.slc 40 0 c.fs.length 1), Sn .i64 0]) [(40, some ⟨3, (ntV (startsAt 0 c.fs)).map .val, false⟩)] (hO) rfl rfl (by exact trivial) rfl rfl rfl rfl rfl (by exact (.box rfl (Box.ren_vals _ _ _ _) .nil)) .plain <| kmv rfl <| kex rfl rfl <| kex rfl rfl <| K.alloc rfl .plain ?_; refine K.storeAll rfl rfl rfl rfl rfl rfl .plain ?_; refine kas rfl <| RunK.nil <| LWP.seq <| LWP.draws mixed (by kernel_rfl) <| kfa rfl rfl ?_; refine kl1 rfl rfl rfl <| kmv rfl <| kfa rfl rfl ?_; refine kl1 rfl rfl rfl <| K.callM [] (rd 1000000 (t.drop (T)) false) (hW) rfl rfl (by exact (And.intro ⟨_, rfl, rfl⟩ trivial)) (by exact (all_cons_true (all_cons_true rfl (all_cons_true rfl rfl)) rfl)) rfl rfl rfl rfl (by exact (.box rfl rfl .nil)) .plain <| K.callMp [(1000001, 41)] (.tup [.one (.slc 41 0 ns.length 3), Sn .i64 0]) [(41, some ⟨63, (ptV ns).map .val, false⟩)] (hU) rfl rfl (by exact trivial) rfl rfl rfl rfl rfl (by exact (.box rfl (Box.ren_vals _ _ _ _) .nil)) .plain <| kmv rfl <| kex rfl rfl <| kex rfl rfl <| kas rfl <| kas rfl <| RunK.nil <| And.intro (by kernel_rfl) ?_; refine LWP.seq <| LWP.seq <| LWP.region (by kernel_rfl) <| kmv rfl <| kne rfl rfl (r := false) (by decide) <| RunK.nil <| LWP.condF rfl ?_; refine LWP.skip ?_; refine LWP.seq <| LWP.region (by kernel_rfl) <| kfa rfl rfl ?_; refine kl1 rfl rfl rfl <| kmv rfl <| K.build rfl rfl (by exact rfl) (by exact nl2 rfl rfl rfl) .plain ?_; refine K.storeAll rfl rfl rfl rfl rfl rfl .plain ?_; refine kas rfl <| RunK.nil <| LWP.ret ?_)
  refine Leads.le (σ' := ⟨[(4, Lp 4), (5, Lb true)], [rdB 1000000 (t.drop T) false, (4, some ⟨41, [.val (.int .i64 c.id), .slc 41 0 ns.length 3], false⟩), (41, some ⟨63, (ptV ns).map .val, false⟩)], X1⟩) (Le.of (by exact ⟨rfl, rfl, trivial⟩) (by exact ⟨rfl, rfl, rfl, trivial⟩) (by exact rfl) (by exact rfl) (by repeat' (first | refine all_cons_true ?_ ?_ | rfl | exact bytes_inUse | exact vals_inUse | exact mid_inUse rfl))) ?_
  refine Leads.le (Le.drop hX1) (Leads.done ?_)
  rw [he]
  exact ⟨[(1000001, 41)], ⟨[_, _], ⟨⟨_, _, rfl, rfl, rfl, .inl ⟨AggT.h, rfl⟩⟩, rfl, trivial⟩, rfl⟩, (by repeat' (first | exact trivial | refine And.intro ⟨_, rfl, ?_⟩ ?_ | refine And.intro ⟨_, rfl⟩ ?_ | rfl | exact Box.ren_bytes _ _ _ _ | exact Box.ren_vals _ _ _ _ | exact Box.ren_mid rfl)), rfl, rfl⟩
theorem takePart_both (hck : chkE ⟨ver, cs⟩ = 0) (l : List UInt8) (hl : l.length < 4611686018427387904) :
    (getP cs (-1) l = none ∧ ∃ l2 b2, MSpec Tryz.prog X 42 (tpA ver ad cs.length cap) (rd 1000000 l false) noP (rd 1000000 l2 b2)) ∨
    ∃ p t2, getP cs (-1) l = some (p, t2) ∧ MSpec Tryz.prog X 42 (tpA ver ad cs.length cap) (rd 1000000 l false) (.tup [.agg [.val (.int .i64 p.comp), .slc 1000001 0 p.val.length 3], Sb true]) (rd 1000000 t2 false ++ [(1000001, some ⟨63, (ptV p.val).map .val, false⟩)]) := by
  have hS := takeSmall_t X l false hl
  cases l with
  | nil =>
    refine .inl ⟨rfl, _, _, takePart_nf hin hbig [] [] false true 0 hS fun j y hy => ?_⟩
    have := (chk_lay hck (List.mem_of_getElem? hy)).2
    rw [beq_eq_false_iff_ne]
    omega
  | cons k t =>
    have hS : MSpec Tryz.prog X 30 [Lp 1000000] (rd 1000000 (k :: t) false) (Ln .i64 (k.toNat : Nat)) (rd 1000000 t false) := hS
    simp only [List.length_cons] at hl
    rcases find_cases cs ((k.toNat : Nat) : Int) with ⟨i, c, hc, he, hpre⟩ | hno
    · have hfa := find_at hpre hc he
      have hlay := (chk_lay hck (List.mem_of_getElem? hc)).1
      have hk1 : (-1 : Int) < ((k.toNat : Nat) : Int) := by omega
      by_cases hroom : rowSize c.fs ≤ t.length
      · by_cases hun : unpErr c.fs (t.take (rowSize c.fs)) = 0
        · exact .inr ⟨_, _, by simp only [getP, hfa]; rw [if_pos ⟨hk1, hroom, hun⟩], takePart_yes hin hbig hfs k t (by omega) hpre hc he hlay hS hroom hun⟩
        · exact .inl ⟨by simp only [getP, hfa]; rw [if_neg fun h => hun h.2.2], _, _, takePart_unp hin hbig hfs k t (by omega) hpre hc he hlay hS hroom hun⟩
      · exact .inl ⟨by simp only [getP, hfa]; rw [if_neg fun h => hroom h.2.1], _, _, takePart_raw hin hbig hfs k t (by omega) hpre hc he hlay hS hroom⟩
    · exact .inl ⟨by simp only [getP, find_no hno], _, _, takePart_nf hin hbig (k :: t) t false false k.toNat hS hno⟩
end
end Go.Proofs.YtnomcmklhbjfjaaGreatDoor
end
section
namespace Go.Proofs.YtnomcmklhbjfjaaGreatDoor
open Go Go.Lg Go.Lg.Fld
set_option maxRecDepth 100000
def dpR (cs : List Cp) (l : List UInt8) : LV := match decP cs l with | some ps => .tup [.one (.slc 1000001 0 ps.length 2), Sn .i64 0] | none => .tup [Vnil, Sn .i64 4]
def dpBx (cs : List Cp) (l : List UInt8) : List (Nat × Option Box) := match decP cs l with | some ps => [ptB 1000001 ps] | none => []
theorem dp_none {cs : List Cp} {l : List UInt8} (h : decP cs l = none) : dpR cs l = .tup [Vnil, Sn .i64 4] ∧ dpBx cs l = [] := by unfold dpR dpBx; rw [h]; exact ⟨rfl, rfl⟩
theorem dp_some {cs : List Cp} {l : List UInt8} {ps : List Pt} (h : decP cs l = some ps) : dpR cs l = .tup [.one (.slc 1000001 0 ps.length 2), Sn .i64 0] ∧ dpBx cs l = [ptB 1000001 ps] := by unfold dpR dpBx; rw [h]; exact ⟨rfl, rfl⟩
theorem dpBx_use (cs : List Cp) (l : List UInt8) : ((dpBx cs l).all fun p => match p.2 with | some b => b.cells.all (CV.inUse (dpBx cs l)) | none => true) = true := by
  cases h : decP cs l with
  | none => rw [(dp_none h).2]; rfl
  | some s => rw [(dp_some h).2]; rfl
theorem dpR_use (cs : List Cp) (l : List UInt8) : LV.inUse (dpBx cs l) (dpR cs l) = true := by
  cases h : decP cs l with
  | none => rw [(dp_none h).1, (dp_none h).2]; rfl
  | some s => rw [(dp_some h).1, (dp_some h).2]; rfl
variable (X : Nat → Option Obj)
abbrev dpSt (l : List UInt8) (b : Bool) (ver : Int) (ad : Option Addr) (n cap m i : Nat) (cells : List Value) (X : Nat → Option Obj) : St :=
  ⟨[(2, Lp 2), (7, Lp 700), (8, .sv (.one (.slc 21 0 m 2))), (23, Ln .i64 (m : Nat)), (24, Ln .i64 (i : Nat))], [(21, some ⟨41, cells.map .val, false⟩), rdB 700 l b, sxB 2 ver ad n cap], X⟩
set_option maxHeartbeats 6400000 in
theorem cDecP (s : Sc) (ad : Option Addr) (cap : Nat) (l : List UInt8) (hin : CompsIn X ad s.cs) (hS : SmallC8 s.cs) (hb : l.length < 1099511627776) (h0 : chkE s = 0) :
    MSpec Tryz.prog X 17 [Sx s.ver ad s.cs.length cap, Ls l] [] (dpR s.cs l) (dpBx s.cs l) := by
  have hc := pCheck8 X s ad cap hin hS 0 h0
  have hbig : s.cs.length < 4611686018427387904 := by have := hS.1; omega
  have hfs : ∀ c ∈ s.cs, c.fs.length ≤ 65536 := fun c hc => by have := (hS.2 c hc).1; omega
  have h1 := takeSmall_t X l false (by omega)
  have k1 := (tSm (l, false)).1.toNat_lt
  obtain ⟨nb, r, b0, hy, hD, hb0, hrl⟩ : ∃ nb r b0, tSm (l, false) = (nb, r, b0) ∧ decP s.cs l = (match getQs s.cs nb.toNat r with | some (ps, u) => if b0 = false ∧ u = [] ∧ risesP (-1) ps then some ps else none | none => none) ∧ (b0 = true → nb.toNat = 0) ∧ r.length ≤ l.length := by
    cases l with
    | nil => exact ⟨0, [], true, rfl, (if_neg fun h => (by cases h.1)).symm, fun _ => rfl, Nat.le_refl _⟩
    | cons c t => 
      refine ⟨c, t, false, rfl, ?_, fun h => (by cases h), by rw [List.length_cons]; omega⟩
      rw [decP_Qs]
      cases getQs s.cs c.toNat t with
      | none => rfl
      | some y =>
        obtain ⟨ps, u⟩ := y
        simp only
        by_cases h : u = [] ∧ risesP (-1) ps
        · rw [if_pos h, if_pos ⟨trivial, h⟩]
        · rw [if_neg h, if_neg fun h2 => h h2.2]
  rw [hy] at h1 k1
  simp only at h1 k1
  generalize nb.toNat = m at *
  refine MSpec.intro Tryz.func17 rfl (by kernel_rfl) rfl (dpR_use s.cs l) (dpBx_use s.cs l) rfl rfl ?_
  intro C
  refine LWP.ends ?_
  have hmk : slcBuild Tryz.prog 38 m = some (zeP m, 2, 41) := slcBuild_many (z := #[.int .i64 0, .slice none 0 0]) (by kernel_rfl) (by kernel_rfl) rfl (by omega)
  have hR := Read_spec X l
  (refine LWP.seq <| LWP.region (by kernel_rfl) <| K.box rfl rfl rfl .plain <| kas rfl <| kas rfl <| RunK.nil <| LWP.seq <| LWP.seq <| LWP.region (by kernel_rfl) <| K.loadAll rfl rfl rfl .plain ?_; refine kca rfl rfl hc <| kas rfl <| RunK.nil <| LWP.seq <| LWP.region (by kernel_rfl) <| kmv rfl <| kne rfl rfl (r := false) (by decide) <| RunK.nil <| LWP.condF rfl ?_; refine LWP.skip ?_; refine LWP.seq <| LWP.region (by kernel_rfl) <| kmv rfl <| K.callMp [(1000001, 700)] (Lp 700) (rd 700 l false) (hR) rfl rfl (by exact trivial) rfl rfl rfl rfl rfl (by exact (.box rfl rfl .nil)) .plain <| kas rfl <| RunK.nil <| LWP.seq <| LWP.region (by kernel_rfl) <| kmv rfl <| K.callM [(1000000, 700)] (rd 700 r b0) (h1) rfl rfl (by exact (And.intro ⟨_, rfl, rfl⟩ trivial)) (by exact (all_cons_true (all_cons_true rfl (all_cons_true rfl rfl)) rfl)) rfl rfl rfl rfl (by exact (.box rfl rfl .nil)) .plain <| K.makeSlc (m := m) (bytes := 32) rfl rfl hmk (by kernel_rfl) (by omega) rfl rfl .plain <| kas rfl <| RunK.nil <| LWP.seq ?_; refine LWP.seq <| LWP.region (by kernel_rfl) <| kmv rfl <| K.lenSlc rfl SliceT.h rfl .plain ?_; refine kmv rfl <| RunK.nil <| LWP.block ?_)
  refine LWP.loopL (fun k σ => ∃ (i : Nat) (ps : List Pt) (u : List UInt8) (cells : List Value) (H : Nat → Option Obj), i ≤ m ∧ k = m - i ∧ getQs s.cs i r = some (ps, u) ∧ OwnedM C X H ∧ Twigs H 63 3 [] cells (ps.map fun p => ptV p.val) ∧ σ = dpSt u b0 s.ver ad s.cs.length cap m i (rowsP ps cells ++ zeP (m - i)) (joinM X H)) m
    (Leads.le (σ' := dpSt r b0 s.ver ad s.cs.length cap m 0 (rowsP [] [] ++ zeP (m - 0)) X) ?_ (Leads.done ⟨0, [], r, [], fun _ => none, by omega, by omega, rfl, OwnedM.nil _ _, Twigs.nil _ _ _ _, rfl⟩)) ?_
  · exact Le.ofR [(21, 21)] (by exact ⟨rfl, rfl, rfl, rfl, rfl, trivial⟩) (by repeat' (first | exact trivial | refine And.intro ⟨_, rfl, ?_⟩ ?_ | refine And.intro ⟨_, rfl⟩ ?_ | rfl | exact Box.ren_bytes _ _ _ _ | exact Box.ren_vals _ _ _ _ | exact Box.ren_mid rfl)) (by exact rfl) (by exact rfl) (by repeat' (first | refine all_cons_true ?_ ?_ | rfl | exact bytes_inUse | exact vals_inUse | exact mid_inUse rfl)) (by exact rfl) (by exact rfl)
  rintro k σ ⟨i, ps, u, cells, H, hi, rfl, hg, hO, G, rfl⟩
  obtain ⟨hpn, hul, hok⟩ := getQs_ok hg
  have hcl : cells.length = ps.length := by rw [G.len, List.length_map]
  by_cases hlt : i < m
  · have hbf : b0 = false := by
      cases b0 with
      | false => rfl
      | true => have := hb0 rfl; omega
    subst hbf
    rcases takePart_both (ver := s.ver) (cap := cap) (hin.mono (Y := joinM X H) fun b o h => joinM_has hO h) hbig hfs h0 u (by omega) with ⟨hn, l2, b2, hF⟩ | ⟨p, t2, hp, hF⟩
    · have hx := getQs_fail (k := m - (i + 1)) hg hn
      rw [show i + 1 + (m - (i + 1)) = m by omega] at hx
      rw [hx] at hD
      obtain ⟨q1, q2⟩ := dp_none hD
      rw [q1, q2]
      (refine LWP.seq <| LWP.region (by kernel_rfl) <| klt rfl rfl (decide_eq_true (by omega)) <| RunK.nil <| LWP.seq <| LWP.condT rfl ?_; refine LWP.skip ?_; refine LWP.seq <| LWP.block <| LWP.seq <| LWP.region (by kernel_rfl) <| kmv rfl <| kas rfl <| RunK.nil <| LWP.seq <| LWP.region (by kernel_rfl) <| kmv rfl <| K.loadAll rfl rfl rfl .plain ?_; refine K.callM [(1000000, 700)] (rd 700 l2 b2) (hF) rfl rfl (by exact (And.intro ⟨_, rfl, rfl⟩ trivial)) (by exact (all_cons_true (all_cons_true rfl (all_cons_true rfl rfl)) rfl)) rfl rfl rfl rfl (by exact (.box rfl rfl .nil)) .plain <| kmv rfl <| kex rfl rfl <| kex rfl rfl <| K.alloc rfl .plain ?_; refine K.storeAll rfl rfl rfl rfl rfl rfl .plain ?_; refine kas rfl <| RunK.nil <| LWP.seq <| LWP.seq <| LWP.region (by kernel_rfl) <| kmv rfl <| K.not rfl rfl .plain <| RunK.nil <| LWP.condT rfl ?_; refine LWP.seq <| LWP.region (by kernel_rfl) <| kas rfl <| kas rfl <| RunK.nil <| LWP.ret ?_)
      refine Leads.le (σ' := ⟨[(4, .sv Vnil), (5, Ln .i64 4)], [], joinM X H⟩) (Le.of (by exact ⟨rfl, rfl, trivial⟩) (by exact trivial) (by exact rfl) (by exact rfl) (by exact rfl)) ?_
      refine Leads.le (Le.drop fun b o h => joinM_has hO h) (Leads.done ?_)
      exact ⟨[], ⟨[_, _], ⟨rfl, rfl, trivial⟩, rfl⟩, (by repeat' (first | exact trivial | refine And.intro ⟨_, rfl, ?_⟩ ?_ | refine And.intro ⟨_, rfl⟩ ?_ | rfl | exact Box.ren_bytes _ _ _ _ | exact Box.ren_vals _ _ _ _ | exact Box.ren_mid rfl)), rfl, rfl⟩
    · have hstep := getQs_step hg hp
      have hix : 0 + Int.toNat (i : Int) * 2 = i * 2 := by rw [Int.toNat_natCast]; omega
      have hpl : (rowsP ps cells).length = i * 2 := by rw [rowsP_len hcl, hpn]
      have hroom : i * 2 + 2 ≤ ((rowsP ps cells ++ zeP (m - i)).map CV.val).length := by rw [List.length_map, List.length_append, hpl, zeP_len]; omega
      have hspl : splice ((rowsP ps cells ++ zeP (m - i)).map CV.val) (i * 2) [.val (.int .i64 p.comp), .slc 40 0 p.val.length 3] = (rowsP ps cells ++ [Value.int .i64 p.comp]).map CV.val ++ .slc 40 0 p.val.length 3 :: (zeP (m - (i + 1))).map .val := by
        unfold splice
        rw [show m - i = (m - (i + 1)) + 1 by omega, zeP_succ]
        simp only [List.map_append, List.append_assoc]
        have hml : ((rowsP ps cells).map CV.val).length = i * 2 := by rw [List.length_map, hpl]
        generalize (rowsP ps cells).map CV.val = R at *
        rw [← hml, List.take_left, List.drop_length_add_append]
        simp
      have hadd : IntKind.i64.wrap (((i : Nat) : Int) + 1) = ((i + 1 : Nat) : Int) := by rw [wrap_i64 (by omega)]; omega
      (refine LWP.seq <| LWP.region (by kernel_rfl) <| klt rfl rfl (decide_eq_true (by omega)) <| RunK.nil <| LWP.seq <| LWP.condT rfl ?_; refine LWP.skip ?_; refine LWP.seq <| LWP.block <| LWP.seq <| LWP.region (by kernel_rfl) <| kmv rfl <| kas rfl <| RunK.nil <| LWP.seq <| LWP.region (by kernel_rfl) <| kmv rfl <| K.loadAll rfl rfl rfl .plain ?_; refine K.callMp [(1000000, 700), (1000001, 40)] (.tup [.agg [.val (.int .i64 p.comp), .slc 40 0 p.val.length 3], Sb true]) (rd 700 t2 false ++ [(40, some ⟨63, (ptV p.val).map .val, false⟩)]) (hF) rfl rfl (by exact (And.intro ⟨_, rfl, rfl⟩ trivial)) (by exact (all_cons_true (all_cons_true rfl (all_cons_true rfl rfl)) rfl)) rfl rfl rfl rfl (by exact (.box rfl rfl (.box rfl (Box.ren_vals _ _ _ _) .nil))) .plain <| kmv rfl <| kex rfl rfl <| kex rfl rfl <| K.alloc rfl .plain ?_; refine K.storeAll rfl rfl rfl rfl rfl rfl .plain ?_; refine kas rfl <| RunK.nil <| LWP.seq <| LWP.seq <| LWP.region (by kernel_rfl) <| kmv rfl <| K.not rfl rfl .plain <| RunK.nil <| LWP.condF rfl ?_; refine LWP.skip ?_; refine LWP.region (by kernel_rfl) <| kmv rfl <| kmv rfl <| K.loadAll rfl rfl rfl .plain ?_; refine K.indexSlc rfl rfl (by omega) hix .plain ?_; refine K.store rfl rfl rfl rfl (by kernel_rfl) hroom hspl .plain <| RunK.nil <| LWP.region (by kernel_rfl) <| kad rfl rfl hadd <| kmv rfl <| RunK.nil ?_)
      refine Leads.le (σ' := ⟨[(2, Lp 2), (7, Lp 700), (8, .sv (.one (.slc 21 0 m 2))), (23, Ln .i64 (m : Nat)), (24, Ln .i64 (i + 1 : Nat))], [(21, some ⟨41, (rowsP ps cells ++ [Value.int .i64 p.comp]).map CV.val ++ .slc 40 0 p.val.length 3 :: (zeP (m - (i + 1))).map .val, false⟩), (40, some ⟨63, (ptV p.val).map .val, false⟩), rdB 700 t2 false, sxB 2 s.ver ad s.cs.length cap], joinM X H⟩) (Le.of (by exact ⟨rfl, rfl, rfl, rfl, rfl, trivial⟩) (by exact ⟨rfl, rfl, rfl, rfl, trivial⟩) (by exact rfl) (by exact rfl) (by repeat' (first | refine all_cons_true ?_ ?_ | rfl | exact bytes_inUse | exact vals_inUse | exact mid_inUse rfl))) ?_
      refine Leads.closeCell hO (ptV_len _) rfl vals_inUse vals_inUse rfl rfl rfl fun b o v q1 _ hO3 hv => Leads.done ⟨m - (i + 1), by omega, i + 1, ps ++ [p], t2, cells ++ [v], withBlock H b o, by omega, rfl, hstep, hO3, ?_, ?_⟩
      · rw [List.map_append, List.map_cons, List.map_nil]
        by_cases hf0 : ptV p.val = []
        · rw [hf0] at hv ⊢
          obtain ⟨len, cap', arr, fr, rfl, e2, _⟩ := hv
          have e0 : len = 0 := by rw [List.length_nil] at e2; omega
          subst e0
          exact (G.more q1).pushZ _ _
        · exact G.push q1 hv hf0
      · rw [rowsP_snoc hcl]
        unfold dpSt
        simp
  · have e : i = m := by omega
    subst e
    rw [hg] at hD
    simp only at hD
    rw [Nat.sub_self]
    rw [← hpn] at *
    have hadj := rises_adj fun p hp => (hok p hp).1
    (refine LWP.seq <| LWP.region (by kernel_rfl) <| klt rfl rfl (decide_eq_false (by omega)) <| RunK.nil <| LWP.seq <| LWP.condF rfl ?_; refine LWP.exit <| LWP.seq <| LWP.seq ?_)
    refine LWP.le (σ' := ⟨[(7, Lp 700), (8, .sv (.one (.slc 21 0 ps.length 2)))], [(21, some ⟨41, (rowsP ps cells ++ zeP 0).map .val, false⟩), rdB 700 u b0], joinM X H⟩) (Le.of (by exact ⟨rfl, rfl, trivial⟩) (by exact ⟨rfl, rfl, trivial⟩) (by exact rfl) (by exact rfl) (by repeat' (first | refine all_cons_true ?_ ?_ | rfl | exact bytes_inUse | exact vals_inUse | exact mid_inUse rfl))) ?_
    refine pt_shutW hO G (fun p hp => (hok p hp).2) ?_
    by_cases hd : (!b0 && (u == [])) = true
    · have hDn := Done_spec X u b0 _ rfl
      rw [hd] at hDn
      have hd2 : u = [] ∧ b0 = false := by simpa [and_comm] using hd
      obtain ⟨rfl, rfl⟩ := hd2
      by_cases hr : risesP (-1) ps
      · rw [if_pos ⟨rfl, rfl, hr⟩] at hD
        obtain ⟨q1, q2⟩ := dp_some hD
        rw [q1, q2]
        have hrs := fun (S : Nat → Option (Option Box)) (hk : S 21 = some (some ⟨0, [], .res (ptR ps)⟩)) => rise_made X (S := S) (k := 21) (r := true) (by omega) ⟨fun _ => hadj.1 hr, fun _ => rfl⟩ hk
        (refine LWP.region (by kernel_rfl) <| kmv rfl <| K.callM [(1000000, 700)] (rd 700 [] false) (hDn) rfl rfl (by exact (And.intro ⟨_, rfl, rfl⟩ trivial)) (by exact (all_cons_true (all_cons_true rfl (all_cons_true rfl rfl)) rfl)) rfl rfl rfl rfl (by exact (.box rfl rfl .nil)) .plain <| K.not rfl rfl .plain <| kmv rfl <| gmv rfl rfl rfl <| K.callL [21] rfl rfl rfl (hrs _ rfl) (.taken rfl rfl) ?_; refine K.not rfl rfl (.taken rfl rfl) ?_; refine kpf rfl rfl <| RunK.nil <| LWP.condF rfl ?_; refine LWP.skip ?_; refine LWP.seq <| LWP.region (by kernel_rfl) <| kmv rfl <| kas rfl <| kas rfl <| RunK.nil <| LWP.ret ?_)
        exact Leads.done ⟨[(1000001, 21)], ⟨[_, _], ⟨rfl, rfl, trivial⟩, rfl⟩, (by repeat' (first | exact trivial | refine And.intro ⟨_, rfl, ?_⟩ ?_ | refine And.intro ⟨_, rfl⟩ ?_ | rfl | exact Box.ren_bytes _ _ _ _ | exact Box.ren_vals _ _ _ _ | exact Box.ren_mid rfl)), rfl, rfl⟩
      · rw [if_neg fun h => hr h.2.2] at hD
        obtain ⟨q1, q2⟩ := dp_none hD
        rw [q1, q2]
        have hrs := fun (S : Nat → Option (Option Box)) (hk : S 21 = some (some ⟨0, [], .res (ptR ps)⟩)) => rise_made X (S := S) (k := 21) (r := false) (by omega) ⟨fun h => (by cases h), fun h => absurd (hadj.2 h) hr⟩ hk
        (refine LWP.region (by kernel_rfl) <| kmv rfl <| K.callM [(1000000, 700)] (rd 700 [] false) (hDn) rfl rfl (by exact (And.intro ⟨_, rfl, rfl⟩ trivial)) (by exact (all_cons_true (all_cons_true rfl (all_cons_true rfl rfl)) rfl)) rfl rfl rfl rfl (by exact (.box rfl rfl .nil)) .plain <| K.not rfl rfl .plain <| kmv rfl <| gmv rfl rfl rfl <| K.callL [21] rfl rfl rfl (hrs _ rfl) (.taken rfl rfl) ?_; refine K.not rfl rfl (.taken rfl rfl) ?_; refine kpf rfl rfl <| RunK.nil <| LWP.condT rfl ?_; refine LWP.seq <| LWP.region (by kernel_rfl) <| kas rfl <| kas rfl <| RunK.nil <| LWP.ret ?_)
        exact Leads.done ⟨[], ⟨[_, _], ⟨rfl, rfl, trivial⟩, rfl⟩, (by repeat' (first | exact trivial | refine And.intro ⟨_, rfl, ?_⟩ ?_ | refine And.intro ⟨_, rfl⟩ ?_ | rfl | exact Box.ren_bytes _ _ _ _ | exact Box.ren_vals _ _ _ _ | exact Box.ren_mid rfl)), rfl, rfl⟩
    · have hDn := Done_spec X u b0 _ rfl
      rw [Bool.not_eq_true] at hd
      rw [hd] at hDn
      rw [if_neg] at hD
      · obtain ⟨q1, q2⟩ := dp_none hD
        rw [q1, q2]
        (refine LWP.region (by kernel_rfl) <| kmv rfl <| K.callM [(1000000, 700)] (rd 700 u b0) (hDn) rfl rfl (by exact (And.intro ⟨_, rfl, rfl⟩ trivial)) (by exact (all_cons_true (all_cons_true rfl (all_cons_true rfl rfl)) rfl)) rfl rfl rfl rfl (by exact (.box rfl rfl .nil)) .plain <| K.not rfl rfl .plain <| kmv rfl <| RunK.passed rfl rfl rfl <| RunK.passed rfl rfl rfl <| RunK.passed rfl rfl rfl <| kpt rfl rfl <| RunK.nil <| LWP.condT rfl ?_; refine LWP.seq <| LWP.region (by kernel_rfl) <| kas rfl <| kas rfl <| RunK.nil <| LWP.ret ?_)
        exact Leads.done ⟨[], ⟨[_, _], ⟨rfl, rfl, trivial⟩, rfl⟩, (by repeat' (first | exact trivial | refine And.intro ⟨_, rfl, ?_⟩ ?_ | refine And.intro ⟨_, rfl⟩ ?_ | rfl | exact Box.ren_bytes _ _ _ _ | exact Box.ren_vals _ _ _ _ | exact Box.ren_mid rfl)), rfl, rfl⟩
      · rintro ⟨rfl, rfl, _⟩
        simp at hd
theorem cDecP_chk (s : Sc) (ad : Option Addr) (cap : Nat) (l : List UInt8) (hin : CompsIn X ad s.cs) (hS : SmallC8 s.cs) (_ : l.length < 1099511627776) (h0 : chkE s ≠ 0) :
    MSpec Tryz.prog X 17 [Sx s.ver ad s.cs.length cap, Ls l] [] (.tup [Vnil, Sn .i64 (chkE s)]) [] := by
  have hc := pCheck8 X s ad cap hin hS (chkE s) rfl
  have hne : (chkE s != 0) = true := by rw [bne_iff_ne]; exact h0
  generalize chkE s = ce at *
  refine MSpec.intro Tryz.func17 rfl (by kernel_rfl) rfl rfl rfl rfl rfl ?_
  intro C
  (refine LWP.seq <| LWP.region (by kernel_rfl) <| K.box rfl rfl rfl .plain <| kas rfl <| kas rfl <| RunK.nil <| LWP.seq <| LWP.seq <| LWP.region (by kernel_rfl) <| K.loadAll rfl rfl rfl .plain ?_; refine kca rfl rfl hc <| kas rfl <| RunK.nil <| LWP.seq <| LWP.region (by kernel_rfl) <| kmv rfl <| kne rfl rfl hne <| RunK.nil <| LWP.condT rfl ?_; refine LWP.seq <| LWP.region (by kernel_rfl) <| kmv rfl <| kas rfl <| kas rfl <| RunK.nil <| LWP.ret ?_)
  exact ⟨[], ⟨[_, _], ⟨rfl, rfl, trivial⟩, rfl⟩, (by repeat' (first | exact trivial | refine And.intro ⟨_, rfl, ?_⟩ ?_ | refine And.intro ⟨_, rfl⟩ ?_ | rfl | exact Box.ren_bytes _ _ _ _ | exact Box.ren_vals _ _ _ _ | exact Box.ren_mid rfl)), rfl, rfl⟩
theorem cDecP_no (s : Sc) (ad : Option Addr) (cap : Nat) (l : List UInt8) (hin : CompsIn X ad s.cs) (hS : SmallC8 s.cs) (hb : l.length < 1099511627776) (h0 : chkE s = 0) (h : decP s.cs l = none) :
    MSpec Tryz.prog X 17 [Sx s.ver ad s.cs.length cap, Ls l] [] (.tup [Vnil, Sn .i64 4]) [] := by
  have := cDecP X s ad cap l hin hS hb h0
  rw [(dp_none h).1, (dp_none h).2] at this
  exact this
theorem cDecP_ok (s : Sc) (ad : Option Addr) (cap : Nat) (l : List UInt8) (ps : List Pt) (hin : CompsIn X ad s.cs) (hS : SmallC8 s.cs) (hb : l.length < 1099511627776) (h0 : chkE s = 0) (h : decP s.cs l = some ps) :
    MSpec Tryz.prog X 17 [Sx s.ver ad s.cs.length cap, Ls l] [] (.tup [.one (.slc 1000001 0 ps.length 2), Sn .i64 0]) [ptB 1000001 ps] := by
  have := cDecP X s ad cap l hin hS hb h0
  rw [(dp_some h).1, (dp_some h).2] at this
  exact this
theorem cEncP_ok (s : Sc) (ad pad : Option Addr) (cap pcap : Nat) (ps : List Pt) (hin : CompsIn X ad s.cs) (hS : SmallC8 s.cs) (hps : PartsIn X pad ps) (hpl : ps.length ≤ 12) (h0 : chkE s = 0) (h : canP s.cs ps) :
    PSpec Tryz.prog X 15 [Sx s.ver ad s.cs.length cap, Lx pad ps.length pcap] (.tup [Ss (encPt s.cs ps), Sn .i64 0]) := by
  have e := cEncP X s ad pad cap pcap ps hin hS hps hpl
  have hz : pErr s ps = 0 := pErr_zero.2 ⟨h0, h⟩
  unfold pTx at e
  rw [if_pos hz, hz] at e
  exact e
end Go.Proofs.YtnomcmklhbjfjaaGreatDoor
end
section
namespace Go.Lg
open Go Go.RowKit
def LentAt (ks : List Nat) (S : Nat → Option (Option Box)) (ι : Nat → Nat × Nat) (Y : Nat → Option Obj) : Prop :=
  ∀ k, k ∈ ks → ∀ b, S k = some (some b) → b.blk = true → ∃ (arr : Array Value) (fr : Nat × Nat), Y (ι k).1 = some (.cells arr b.elem fr) ∧ arr.size = (ι k).2 ∧ b.rel S ι arr.toList
section
variable {P : Program} {n : Nat} {ops os : List Oper} {acc : List Eff} {K : List Eff → St → Prop} {s : List (Nat × LV)} {bx : List (Nat × Option Box)} {X : Nat → Option Obj} {σ : St}
theorem LOK.callY {d : Nat} {f : FuncId} {args : List Operand} {tys : Array TypeId} {ty : TypeId} {pos : String} {after_ : Array Edge} {g : Option (Nat × Bool)} {lvs : List LV} {r : LV} (ks : List Nat) (hargs : evs σ args = some lvs) (hent : Program.enters P f = true)
    (hs : ∀ (Y : Nat → Option Obj) (us : List Value) (S : Nat → Option (Option Box)) (ι : Nat → Nat × Nat), (∀ b o, σ.X b = some o → Y b = some o) → (∀ k, k ∈ ks → S k = σ.stat k) → LVs.rel S ι lvs us → LentAt ks S ι Y → PSpec P Y f (us.map toLV) r) :
    LOK P n ops ⟨some d, .call ⟨.value (.func f), args.toArray, tys⟩, ty, pos, after_, g⟩ σ ⟨[(d, r)], ks, []⟩ := by
  refine ⟨fun σ' ha C ι a w hr hd next Q hn => ?_⟩
  have hargs' : evs σ' args = some lvs := by
    rw [evs_agree fun x hx => ha.ev (by simp [Op.operands, Call.operands, hx])]
    exact hargs
  have hrel := evs_rel hr hargs'
  have hlent : LentAt ks σ'.stat ι (fun b => w.heap[b]?) := fun k _ b hb hbk => by
    obtain ⟨arr, fr, h1, _, h3, h4⟩ := hr.boxes k b hb hbk
    exact ⟨arr, fr, h1, h3, h4⟩
  have hc := (hs (fun b => w.heap[b]?) _ σ'.stat ι (fun b o hb => hr.ext b o (by rw [ha.X]; exact hb)) (fun k hk => ha.stat k (.inl hk)) hrel hlent).out w (args.toArray.map a.eval) (fun b o hb => hb) (by rw [Array.toList_map, List.toList_toArray]; exact args_rel _)
  unfold Oper.wp
  have hrun : (execOp a.eval ⟨some d, .call ⟨.value (.func f), args.toArray, tys⟩, ty, pos, after_, g⟩).run P w = .ok (.enter f (args.toArray.map a.eval)) w := by
    simp only [execOp, resolve, Act.eval, Deferred.ofValue, invoke, Sem.run_bind, Sem.run_pure, Result.andThen_ok]
    simp [run_enter hent]
  rw [hrun]
  refine hc.mono ?_
  rintro e w' ⟨v, rfl, hv, hb⟩
  exact hn ι _ w' ((hr.below hb).put (hd d rfl) (LV.rel_later (later_noS _ _ _) hv))
theorem K.callY {d : Nat} {f : FuncId} {args : List Operand} {tys : Array TypeId} {ty : TypeId} {pos : String} {after_ : Array Edge} {g : Option (Nat × Bool)} {lvs : List LV} {r : LV} (ks : List Nat) (hargs : evs ⟨s, bx, X⟩ args = some lvs) (hent : Program.enters P f = true)
    (hs : ∀ (Y : Nat → Option Obj) (us : List Value) (S : Nat → Option (Option Box)) (ι : Nat → Nat × Nat), (∀ b o, X b = some o → Y b = some o) → (∀ k, k ∈ ks → S k = look k bx) → LVs.rel S ι lvs us → LentAt ks S ι Y → PSpec P Y f (us.map toLV) r) (hw : Want ops s g)
    (kont : RunK P n ops os ⟨(d, r) :: s, bx, X⟩ (⟨[(d, r)], ks, []⟩ :: acc) K) :
    RunK P n ops (⟨some d, .call ⟨.value (.func f), args.toArray, tys⟩, ty, pos, after_, g⟩ :: os) ⟨s, bx, X⟩ acc K := RunK.gen hw (LOK.callY ks hargs hent hs) kont
end
section
variable {P : Program} {n : Nat} {C : Ctx} {c : Code} {Q : Exit → St → Prop} {X : Nat → Option Obj}
theorem Rel.fixRes {ι : Nat → Nat × Nat} {a : Act} {w : World} {s : List (Nat × LV)} {bx : List (Nat × Option Box)} {d k off len sz : Nat} {e : TypeId} {cs : List CV} {R : Rsc}
    (hs : s.all (fun p => p.2.inUse bx) = true) (hb : bx.all (fun p => match p.2 with | some b => b.cells.all (CV.inUse bx) | none => true) = true) (hk : look k bx = none)
    (hr : Rel n C ι ⟨(d, .sv (.one (.slc k off len sz))) :: s, (k, some ⟨e, cs, .res R⟩) :: bx, X⟩ a w) :
    ∃ (ρ : Nat × Nat) (H : Nat → Option Obj) (cap : Nat), R.holds ρ H ∧ OwnedM C X H ∧ len ≤ cap ∧ off + cap * sz ≤ ρ.2 ∧
      Rel n C ι ⟨(d, .sv (.one (.val (.slice (some ⟨ρ.1, off, none⟩) len cap)))) :: s, bx, joinM X H⟩ a w := by
  have hst : (⟨(d, .sv (.one (.slc k off len sz))) :: s, (k, some ⟨e, cs, .res R⟩) :: bx, X⟩ : St).stat k = some (some ⟨e, cs, .res R⟩) := by simp [St.stat, look]
  have hlk : ∀ k' x, look k' bx = some x → k' ≠ k := fun k' x h' e => by rw [e, hk] at h'; cases h'
  have hstb : ∀ k' x, look k' bx = some x → (⟨(d, .sv (.one (.slc k off len sz))) :: s, (k, some ⟨e, cs, .res R⟩) :: bx, X⟩ : St).stat k' = some x := fun k' x h' => by
    simp only [St.stat, look]
    cases e : Nat.beq k k' with
    | true => exact absurd (Nat.eq_of_beq_eq_true e).symm (hlk k' x h')
    | false => exact h'
  have hback : ∀ j x, j ≠ k → (⟨(d, .sv (.one (.slc k off len sz))) :: s, (k, some ⟨e, cs, .res R⟩) :: bx, X⟩ : St).stat j = some x → look j bx = some x := fun j x hj h' => by
    simp only [St.stat, look] at h'
    cases e : Nat.beq k j with
    | true => exact absurd (Nat.eq_of_beq_eq_true e).symm hj
    | false => rw [e] at h'; exact h'
  obtain ⟨F, hF⟩ := hr.res
  obtain ⟨hR, _⟩ := hF.holds k _ _ _ hst
  obtain ⟨v, hv, hvr⟩ := hr.slots d (.sv (.one (.slc k off len sz))) (by simp [St.slot, look])
  simp only [LV.rel, SV.rel, CV.rel] at hvr
  rw [hst] at hvr
  obtain ⟨cap, rfl, hcap, hfit⟩ := hvr
  refine ⟨ι k, F k, cap, hR, ⟨fun b o hb => let h := hF.mem k b o hb; ⟨h.2.2.2.1, h.2.2.1, h.2.2.2.2.1⟩⟩, hcap, hfit, ?_⟩
  have hon : SameOn bx (⟨(d, .sv (.one (.slc k off len sz))) :: s, (k, some ⟨e, cs, .res R⟩) :: bx, X⟩ : St).stat (fun k => look k bx) := fun k' x h' => (hstb k' x h').trans h'.symm
  have hnot : ∀ j b, look j bx = some (some b) → F k (ι j).1 = none := fun j b hj => by
    cases hc : F k (ι j).1 with
    | none => rfl
    | some o => exact absurd ((hF.mem k _ o hc).2.2.2.2.2 j b (hstb j _ hj) rfl) (hlk j _ hj)
  exact {
    defers := hr.defers, size := hr.size
    slots := fun d' lv hd => by
      simp only [St.slot, look] at hd
      cases e : Nat.beq d d' with
      | true =>
        rw [e] at hd
        simp at hd
        subst hd
        have := Nat.eq_of_beq_eq_true e
        subst this
        exact ⟨_, hv, rfl⟩
      | false =>
        rw [e] at hd
        have hd : look d' s = some lv := by simpa using hd
        obtain ⟨v', hv', hr'⟩ := hr.slots d' lv (by simp only [St.slot, look, e]; exact hd)
        exact ⟨v', hv', LV.rel_on hon (List.all_eq_true.1 hs _ (look_mem hd)) hr'⟩
    boxes := fun k' b hb' hbk => by
      have hb' : look k' bx = some (some b) := hb'
      obtain ⟨arr', fr', h1, h2, h3, h4⟩ := hr.boxes k' b (hstb k' _ hb') hbk
      exact ⟨arr', fr', h1, h2, h3, Box.rel_on hon (by simpa using List.all_eq_true.1 hb _ (look_mem hb')) h4⟩
    own := fun k' b hb' => by
      have hb' : look k' bx = some (some b) := hb'
      obtain ⟨h1, h2⟩ := hr.own k' b (hstb k' _ hb')
      exact ⟨h1, (joinM_out (hnot k' b hb')).trans h2⟩
    inj := fun k1 k2 b1 b2 h1 h2 he => hr.inj k1 k2 b1 b2 (hstb k1 _ h1) (hstb k2 _ h2) he
    keep := fun k' b hb' hge => hr.keep k' b (hstb k' _ hb') hge
    ext := fun b o hbo => by
      have hbo : joinM X (F k) b = some o := hbo
      cases hc : F k b with
      | none => rw [joinM_out hc] at hbo; exact hr.ext b o hbo
      | some o' =>
        rw [joinM_in hc] at hbo
        cases hbo
        exact (hF.mem k b o hc).2.1
    res := by
      refine ⟨fun j => open Classical in if j = k then fun _ => none else F j, fun j e' cs' R' hj => ?_, fun j b o ho => ?_, fun i j b h1 h2 => ?_⟩
      · have hj : look j bx = some (some ⟨e', cs', .res R'⟩) := hj
        rw [if_neg (hlk j _ hj)]
        exact hF.holds j e' cs' R' (hstb j _ hj)
      · by_cases ej : j = k
        · rw [if_pos ej] at ho; cases ho
        · rw [if_neg ej] at ho
          obtain ⟨⟨e1, cs1, R1, h1⟩, h2, h3, h4, h5, h6⟩ := hF.mem j b o ho
          refine ⟨⟨e1, cs1, R1, hback j _ ej h1⟩, h2, h3, h4, ?_, fun i bi hi ei => h6 i bi (hstb i _ hi) ei⟩
          have hc : F k b = none := by
            cases hc : F k b with
            | none => rfl
            | some o' => exact absurd (hF.apart j k b (by rw [ho]; simp) (by rw [hc]; simp)) ej
          exact (joinM_out hc).trans h5
      · by_cases ei : i = k
        · rw [if_pos ei] at h1; exact absurd rfl h1
        · by_cases ej : j = k
          · rw [if_pos ej] at h2; exact absurd rfl h2
          · rw [if_neg ei] at h1
            rw [if_neg ej] at h2
            exact hF.apart i j b h1 h2
    frame := hr.frame, big := hr.big, os := hr.os, tape := hr.tape, output := hr.output }
theorem LWP.fixRes {s : List (Nat × LV)} {bx : List (Nat × Option Box)} {d k off len sz : Nat} {e : TypeId} {cs : List CV} {R : Rsc}
    (hs : s.all (fun p => p.2.inUse bx) = true) (hb : bx.all (fun p => match p.2 with | some b => b.cells.all (CV.inUse bx) | none => true) = true) (hk : look k bx = none)
    (h : ∀ (ρ : Nat × Nat) (H : Nat → Option Obj) (cap : Nat), R.holds ρ H → OwnedM C X H → len ≤ cap → off + cap * sz ≤ ρ.2 → LWP P n C c Q ⟨(d, .sv (.one (.val (.slice (some ⟨ρ.1, off, none⟩) len cap)))) :: s, bx, joinM X H⟩) :
    LWP P n C c Q ⟨(d, .sv (.one (.slc k off len sz))) :: s, (k, some ⟨e, cs, .res R⟩) :: bx, X⟩ := by
  refine ⟨fun ι a w hr => ?_⟩
  obtain ⟨ρ, H, cap, h1, h2, h3, h4, h5⟩ := hr.fixRes hs hb hk
  exact (h ρ H cap h1 h2 h3 h4).out ι a w h5
end
end Go.Lg
end
section
namespace Go.Proofs.YtnomcmklhbjfjaaGreatDoor
open Go Go.Lg Go.Lg.Fld
set_option maxRecDepth 100000
abbrev fl8 : List Fl := [⟨[110], 6, 1⟩]
abbrev cs8 : List Cp := [⟨2, [104, 112], fl8⟩]
theorem cs8_small : SmallC cs8 := by
  refine ⟨by decide, fun c hc => ?_⟩
  rw [List.mem_singleton.1 hc]
  exact ⟨by decide, by decide, fun f hf => by rw [List.mem_singleton.1 hf]; decide⟩
theorem cs8_small8 : SmallC8 cs8 := by
  refine ⟨by decide, fun c hc => ?_⟩
  rw [List.mem_singleton.1 hc]
  exact ⟨by decide, by decide, fun f hf => by rw [List.mem_singleton.1 hf]; decide⟩
theorem cs8_inb : InB cs8 := by
  intro c hc
  rw [List.mem_singleton.1 hc]
  exact ⟨by decide, fun f hf => by rw [List.mem_singleton.1 hf]; decide⟩
theorem cs8_okP (z : Int) (h : z = 7 ∨ z = 9) : okP cs8 ⟨2, [qn z]⟩ := by
  refine ⟨by rcases h with rfl | rfl <;> decide, (by show (0 : Int) ≤ 2 ∧ (2 : Int) < 256; decide), fun n hn => ?_⟩
  rw [List.mem_singleton.1 hn]
  rcases h with rfl | rfl <;> (unfold In2; decide)
theorem parts_one {X : Nat → Option Obj} {blk vblk : Nat} {arr varr : Array Value} {el vel : TypeId} {fr vfr : Nat × Nat} {vcap : Nat} (z : Int) (hz : R127 z) (hX : X blk = some (.cells arr el fr)) (ha : ∃ sp, arr.toList = [.int .i64 2, .slice (some ⟨vblk, 0, none⟩) 1 vcap] ++ sp) (hV : X vblk = some (.cells varr vel vfr)) (hv : ∃ sp, varr.toList = nsV [z] ++ sp) : PartsIn X (some ⟨blk, 0, none⟩) [⟨2, [qn z]⟩] := by
  refine ⟨fun i p hp => ?_, fun p hp => by rw [List.mem_singleton.1 hp]; show (-9223372036854775808 : Int) ≤ 2 ∧ (2 : Int) < 9223372036854775808; decide⟩
  match i, hp with
  | 0, hp =>
    simp only [List.getElem?_cons_zero, Option.some.injEq] at hp
    subst hp
    obtain ⟨sp, e⟩ := ha
    have hl : arr.size = 2 + sp.length := by rw [← Array.length_toList, e, List.length_append]; rfl
    exact ⟨blk, 0, arr, el, fr, some ⟨vblk, 0, none⟩, vcap, rfl, hX, by omega, by rw [e]; rfl, nums_in (zs := [z]) hV (fun y hy => by rw [List.mem_singleton.1 hy]; exact hz) hv⟩
  | _ + 1, hp => simp at hp
variable (X : Nat → Option Obj)
theorem encp_lent {ad : Option Addr} {cap : Nat} {bx : List (Nat × Option Box)} (hin : CompsIn X ad cs8) (h36 : Go.Lg.look 36 bx = some (some ⟨41, [.val (.int .i64 2), .slc 34 0 1 3], false⟩)) (h34 : Go.Lg.look 34 bx = some (some ⟨63, (nsV [7]).map .val, false⟩)) :
    ∀ (Y : Nat → Option Obj) (us : List Value) (S : Nat → Option (Option Box)) (ι : Nat → Nat × Nat), (∀ b o, X b = some o → Y b = some o) → (∀ k, k ∈ [36, 34] → S k = Go.Lg.look k bx) → LVs.rel S ι [Sx 1 ad 1 cap, .sv (.one (.slc 36 0 1 2))] us → LentAt [36, 34] S ι Y → PSpec Tryz.prog Y 15 (us.map toLV) (.tup [Ss [1, 2, 7], Sn .i64 0]) := by
  intro Y us S ι hY hS hrel hL
  have s36 := (hS 36 (by simp)).trans h36
  have s34 := (hS 34 (by simp)).trans h34
  match us, hrel with
  | [u1, u2], ⟨⟨av, e1, ha⟩, h2, _⟩ =>
    have hav : av.toList = [.int .i64 1, .slice ad 1 cap] := by
      match av.toList, ha with
      | [x, y], ⟨hx, hy, _⟩ =>
        have hx : x = .int .i64 1 := hx
        have hy : y = .slice ad 1 cap := hy
        rw [hx, hy]
    have hav : av = #[.int .i64 1, .slice ad 1 cap] := by rw [← Array.toArray_toList (xs := av), hav]
    subst e1 hav
    have h2 : (CV.slc 36 0 1 2).rel S ι u2 := h2
    simp only [CV.rel, s36] at h2
    obtain ⟨c36, rfl, _, _⟩ := h2
    obtain ⟨arr, fr, g1, _, g3⟩ := hL 36 (by simp) _ s36 rfl
    obtain ⟨varr, vfr, k1, _, k3⟩ := hL 34 (by simp) _ s34 rfl
    have g3 : CVs.rel S ι [.val (.int .i64 2), .slc 34 0 1 3] arr.toList := g3
    have k3 : CVs.rel S ι ((nsV [7]).map .val) varr.toList := k3
    have k3 := rel_vals k3
    obtain ⟨vc, hva⟩ : ∃ vc, arr.toList = [.int .i64 2, .slice (some ⟨(ι 34).1, 0, none⟩) 1 vc] := by
      match arr.toList, g3 with
      | [x, y], ⟨hx, hy, _⟩ =>
        have hx : x = .int .i64 2 := hx
        have hy : (CV.slc 34 0 1 3).rel S ι y := hy
        simp only [CV.rel, s34] at hy
        obtain ⟨c34, rfl, _, _⟩ := hy
        exact ⟨c34, by rw [hx]⟩
    have hps : PartsIn Y (some ⟨(ι 36).1, 0, none⟩) [⟨2, [qn 7]⟩] := parts_one 7 (by unfold R127; decide) g1 ⟨[], by rw [hva]; rfl⟩ k1 ⟨[], by rw [k3]; rfl⟩
    have h := cEncP_ok Y ⟨1, cs8⟩ ad (some ⟨(ι 36).1, 0, none⟩) cap c36 [⟨2, [qn 7]⟩] (hin.mono hY) cs8_small8 hps (by decide) (by decide) ⟨by decide, by decide⟩
    rw [show encPt cs8 [⟨2, [qn 7]⟩] = [1, 2, 7] by decide] at h
    exact h
set_option maxHeartbeats 6400000 in
theorem awake8_spec : PSpec Tryz.prog X 7 [] (Lb true) := by
  refine PSpec.intro Tryz.func7 rfl (by kernel_rfl) rfl rfl ?_
  intro C
  (refine LWP.seq <| LWP.region (by kernel_rfl) <| kas rfl <| RunK.nil <| LWP.seq <| LWP.region (by kernel_rfl) <| K.build rfl rfl (by exact rfl) (by exact nl3 rfl rfl rfl rfl) .plain ?_; refine K.buildSlc (zs := [Value.string ⟨#[]⟩, .int .i64 0, .int .i64 0]) (sz := 3) (e := 57) (cs' := (flV fl8).map .val) (by kernel_rfl) rfl rfl rfl rfl rfl rfl .plain <| K.build rfl rfl (by exact rfl) (by exact nl3 rfl rfl rfl rfl) .plain ?_; refine K.buildSlc (zs := [Value.int .i64 0, .string ⟨#[]⟩, .slice none 0 0]) (sz := 3) (e := 60) (cs' := [.val (.int .i64 2), .val (.string ⟨#[104, 112]⟩), .slc 13 0 1 3]) (by kernel_rfl) rfl rfl rfl rfl rfl rfl .plain <| K.build rfl rfl (by exact rfl) (by exact nl2 rfl rfl rfl) .plain ?_; refine K.alloc rfl .plain ?_; refine K.storeAll rfl rfl rfl rfl rfl rfl .plain ?_; refine RunK.nil <| LWP.seq ?_)
  refine LWP.le (σ' := ⟨[(1, Lp 1)], [(15, some ⟨60, [.val (.int .i64 2), .val (.string ⟨#[104, 112]⟩)] ++ .slc 13 0 1 3 :: [], false⟩), (13, some ⟨57, (flV fl8).map .val, false⟩), (1, some ⟨24, [.val (.int .i64 1), .slc 15 0 1 3], false⟩)], X⟩) (Le.of (by exact ⟨rfl, trivial⟩) (by exact ⟨rfl, rfl, rfl, trivial⟩) (by exact rfl) (by exact rfl) (by repeat' (first | refine all_cons_true ?_ ?_ | rfl | exact bytes_inUse | exact vals_inUse | exact mid_inUse rfl))) ?_
  refine LWP.freezeCell rfl rfl rfl rfl rfl rfl fun b1 c1 a1 f1 n1 _ k1 k2 hs1 => ?_
  refine LWP.le (σ' := ⟨[(1, Lp 1)], [(1, some ⟨24, [.val (.int .i64 1)] ++ .slc 15 0 1 3 :: [], false⟩), (15, some ⟨60, (rowsZ cs8 [.slice (some ⟨b1, 0, none⟩) 1 c1]).map .val, false⟩)], withBlock X b1 (.cells a1 57 f1)⟩) ?_ ?_
  · exact Le.same ⟨fun _ => rfl, fun j => look_swap rfl, rfl⟩
  refine LWP.freezeCell rfl rfl rfl rfl rfl rfl fun b2 c2 a2 f2 n2 _ _ _ hs2 => ?_
  have hin : CompsIn (withBlock (withBlock X b1 (.cells a1 57 f1)) b2 (.cells a2 60 f2)) (some ⟨b2, 0, none⟩) cs8 := by
    obtain ⟨sp1, e1⟩ := hs1
    obtain ⟨sp2, e2⟩ := hs2
    refine comps_block (fel := 57) (cells := [.slice (some ⟨b1, 0, none⟩) 1 c1]) (withBlock_at _ _ _) e2 rfl cs8_inb fun i c v hc hv => ?_
    match i, hc, hv with
    | 0, hc, hv =>
      simp only [List.getElem?_cons_zero, Option.some.injEq] at hc hv
      subst hc hv
      exact .inr ⟨b1, ⟨1, c1, a1, f1, rfl, rfl, k1, by omega, withBlock_old n2 _ _ (withBlock_at _ _ _), sp1, e1⟩, fun e => by cases e⟩
    | _ + 1, hc, hv => simp at hv
  generalize withBlock (withBlock X b1 (.cells a1 57 f1)) b2 (.cells a2 60 f2) = Z at *
  have e1 := cEncode Z ⟨1, cs8⟩ (some ⟨b2, 0, none⟩) c2 hin cs8_small8
  rw [show encTx ⟨1, cs8⟩ = [83, 1, 0, 0, 0, 1, 2, 2, 104, 112, 1, 1, 110, 6, 1] by decide, show chkE ⟨1, cs8⟩ = 0 by decide] at e1
  have d1 := cDecode_ok Z [83, 1, 0, 0, 0, 1, 2, 2, 104, 112, 1, 1, 110, 6, 1] (by decide) (s := ⟨1, cs8⟩) (by decide)
  have d2 := cDecode_no Z [83] (by decide) (by decide)
  have o7 := Of_spec Z 7 (by decide)
  have d3 := cDecP_ok Z ⟨1, cs8⟩ (some ⟨b2, 0, none⟩) c2 [1, 2, 9] [⟨2, [qn 9]⟩] hin cs8_small8 (by decide) (by decide) (by
    have h := dec_parts (cs := cs8) (ps := [⟨2, [qn 9]⟩]) (by decide) (by decide) (fun p hp => by rw [List.mem_singleton.1 hp]; exact cs8_okP 9 (.inr rfl))
    rw [show encPt cs8 [⟨2, [qn 9]⟩] = [1, 2, 9] by decide] at h
    exact h)
  (refine LWP.region (by kernel_rfl) <| K.loadAll rfl rfl rfl .plain ?_; refine kca rfl rfl e1 <| kmv rfl <| kex rfl rfl <| kex rfl rfl <| kas rfl <| kas rfl <| RunK.nil <| LWP.seq <| LWP.region (by kernel_rfl) <| kmv rfl <| K.callMp [(1000001, 600)] (.tup [.agg [.val (.int .i64 1), .slc 600 0 1 3], Sn .i64 0]) [scB 600 cs8] (d1) rfl rfl (by exact trivial) rfl rfl rfl rfl rfl (by exact (.box rfl rfl .nil)) .plain <| kmv rfl <| kex rfl rfl <| kex rfl rfl ?_; refine K.alloc rfl .plain ?_; refine K.storeAll rfl rfl rfl rfl rfl rfl .plain ?_; refine kas rfl <| RunK.nil <| LWP.seq <| LWP.region (by kernel_rfl) <| K.callM [] [] (d2) rfl rfl (by exact trivial) rfl rfl rfl rfl rfl (by exact .nil) .plain <| kmv rfl <| kex rfl rfl <| kex rfl rfl <| K.alloc rfl .plain ?_; refine K.storeAll rfl rfl rfl rfl rfl rfl .plain ?_; refine kas rfl <| RunK.nil <| LWP.seq <| LWP.draws mixed (by kernel_rfl) <| K.loadAll rfl rfl rfl .plain ?_; refine kca rfl rfl o7 <| K.buildSlc (zs := [Value.bool false, .int .u64 0, .int .u64 0]) (sz := 3) (e := 63) (cs' := (nsV [7]).map .val) (by kernel_rfl) rfl rfl rfl rfl rfl rfl .plain <| K.build rfl rfl (by exact rfl) (by exact nl2 rfl rfl rfl) .plain ?_; refine K.buildSlc (zs := [Value.int .i64 0, .slice none 0 0]) (sz := 2) (e := 41) (cs' := [.val (.int .i64 2), .slc 34 0 1 3]) (by kernel_rfl) rfl rfl rfl rfl rfl rfl .plain <| K.callY [36, 34] rfl rfl (encp_lent Z hin rfl rfl) .plain ?_; refine kmv rfl <| kex rfl rfl <| kex rfl rfl <| kas rfl <| kas rfl <| RunK.nil <| And.intro (by kernel_rfl) ?_; refine LWP.seq <| LWP.region (by kernel_rfl) <| K.loadAll rfl rfl rfl .plain ?_; refine K.callMp [(1000001, 601)] (.tup [.one (.slc 601 0 1 2), Sn .i64 0]) [ptB 601 [⟨2, [qn 9]⟩]] (d3) rfl rfl (by exact trivial) rfl rfl rfl rfl rfl (by exact (.box rfl rfl .nil)) .plain <| kmv rfl <| kex rfl rfl <| kex rfl rfl <| kas rfl <| kas rfl <| RunK.nil <| LWP.seq ?_)
  refine LWP.le (σ' := ⟨[(10, .sv (.one (.slc 601 0 1 2))), (1, Lp 1), (2, Ls [83, 1, 0, 0, 0, 1, 2, 2, 104, 112, 1, 1, 110, 6, 1]), (3, Ln .i64 0), (4, Lp 4), (5, Ln .i64 0), (7, Ln .i64 4), (8, Ls [1, 2, 7]), (9, Ln .i64 0), (11, Ln .i64 0)], [ptB 601 [⟨2, [qn 9]⟩], sxB 1 1 (some ⟨b2, 0, none⟩) 1 c2, (4, some ⟨24, [.val (.int .i64 1), .slc 600 0 1 3], false⟩), scB 600 cs8], Z⟩) (Le.of (by exact ⟨rfl, rfl, rfl, rfl, rfl, rfl, rfl, rfl, rfl, rfl, trivial⟩) (by exact ⟨rfl, rfl, rfl, rfl, trivial⟩) (by exact rfl) (by exact rfl) (by repeat' (first | refine all_cons_true ?_ ?_ | rfl | exact bytes_inUse | exact vals_inUse | exact mid_inUse rfl))) ?_
  refine LWP.fixRes rfl rfl rfl fun ρ H cap hR hO _ _ => ?_
  have hps : PartsIn (joinM Z H) (some ⟨ρ.1, 0, none⟩) [⟨2, [qn 9]⟩] := hR.2.mono fun b o h => joinM_in h
  have hin2 := hin.mono (Y := joinM Z H) fun b o h => joinM_has hO h
  generalize joinM Z H = W at *
  obtain ⟨blk, off, arr, el, fr, vad, vcap, e0, hX, hsz, _, _, g2, hN⟩ := hps.get (i := 0) rfl
  simp only [Option.some.injEq, Addr.mk.injEq] at e0
  obtain ⟨hb0, rfl, _⟩ := e0
  obtain ⟨_, vb, vo, varr, vel, vfr, rfl, hVX, hVsz, hVc⟩ := hN.at (i := 0) (b := decide ((9 : Int) < 0)) (N := mg 9) rfl
  rw [← hb0] at hX
  have o9 := Of_spec W 9 (by decide)
  ((refine LWP.draws mixed (by kernel_rfl) <| kmv rfl <| keq rfl rfl (beq_iff_eq.2 (by omega)) <| kmv rfl <| gmv rfl rfl rfl <| K.strEq rfl rfl (strs_eq (r := true) (by decide)) (.taken rfl rfl) ?_; refine kpt rfl rfl <| kmv rfl <| gmv rfl rfl rfl <| K.eql rfl rfl (beq_iff_eq.2 (by omega)) (.taken rfl rfl) ?_; refine kpt rfl rfl <| kmv rfl <| K.loadAll rfl rfl rfl (.taken rfl rfl) ?_; refine K.loadAll rfl rfl rfl (.taken rfl rfl) ?_; refine K.callL [600] rfl rfl rfl (same_lent_retrofitref07 W hin2 cs8_small rfl) (.taken rfl rfl) ?_; refine kpt rfl rfl <| kmv rfl <| gmv rfl rfl rfl <| K.eql rfl rfl (beq_iff_eq.2 (by omega)) (.taken rfl rfl) ?_; refine kpt rfl rfl <| kmv rfl <| gmv rfl rfl rfl <| K.eql rfl rfl (beq_iff_eq.2 (by omega)) (.taken rfl rfl) ?_; refine kpt rfl rfl <| kmv rfl <| gmv rfl rfl rfl <| K.strEq rfl rfl (strs_eq (r := true) (by decide)) (.taken rfl rfl) ?_; refine kpt rfl rfl <| kmv rfl <| gmv rfl rfl rfl <| K.eql rfl rfl (beq_iff_eq.2 (by omega)) (.taken rfl rfl) ?_; refine kpt rfl rfl <| kmv rfl <| gmv rfl rfl rfl <| K.lenX rfl SliceT.h rfl (.taken rfl rfl) ?_; refine K.eql rfl rfl (beq_iff_eq.2 (by omega)) (.taken rfl rfl) ?_; refine kpt rfl rfl <| kmv rfl <| gmv rfl rfl rfl <| K.indexX rfl rfl SliceT.h (by omega) rfl (.taken rfl rfl) ?_); (refine K.fieldAddrX rfl rfl (.taken rfl rfl) ?_; refine K.loadX rfl hX rfl g2 (.taken rfl rfl) ?_; refine K.lenX rfl SliceT.h rfl (.taken rfl rfl) ?_; refine K.eql rfl rfl rfl (.taken rfl rfl) ?_; refine kpt rfl rfl <| kmv rfl <| gmv rfl rfl rfl <| K.indexX rfl rfl SliceT.h (by omega) rfl (.taken rfl rfl) ?_; refine K.fieldAddrX rfl rfl (.taken rfl rfl) ?_; refine K.loadX rfl hX rfl g2 (.taken rfl rfl) ?_; refine K.indexX rfl rfl SliceT.h (by show (0 : Int) ≤ 0 ∧ (0 : Int) < ((1 : Nat) : Int); omega) rfl (.taken rfl rfl) ?_; refine K.loadXagg rfl hVX (by kernel_rfl) hVsz hVc (.taken rfl rfl) ?_; refine gca rfl rfl o9 rfl rfl <| K.aggEq rfl rfl rfl rfl (by kernel_rfl) (eqQ 9 9 true rfl) (.inl ⟨rfl, rfl⟩) (.taken rfl rfl) ?_; refine kpt rfl rfl <| kas rfl <| RunK.nil <| And.intro (by kernel_rfl) ?_; refine LWP.ret ?_))
  exact ⟨[_], ⟨rfl, trivial⟩, rfl⟩
end Go.Proofs.YtnomcmklhbjfjaaGreatDoor
end
section
namespace Go.Proofs.YtnomcmklhbjfjaaGreatDoor
open Go Go.Lg Go.Lg.Fld
set_option maxRecDepth 100000
variable (X : Nat → Option Obj)
theorem psame_two {S : Nat → Option (Option Box)} {k k2 : Nat} {ps : List Pt} {e e2 : TypeId} {cc cc2 : List CV} (hpb : ps.length < 4611686018427387904) (hnb : ∀ p ∈ ps, p.val.length < 4611686018427387904) (hk : S k = some (some ⟨e, cc, .res (ptR ps)⟩)) (hk2 : S k2 = some (some ⟨e2, cc2, .res (ptR ps)⟩)) :
    ∀ (Y : Nat → Option Obj) (us : List Value), (∀ b o, X b = some o → Y b = some o) → LentLs S Y [.sv (.one (.slc k 0 ps.length 2)), .sv (.one (.slc k2 0 ps.length 2))] us → PSpec Tryz.prog Y 19 (us.map toLV) (Lb true) := by
  intro Y us _ hL
  obtain ⟨u2, us2, rfl, ⟨bb, blk, cap2, m, hk', rfl, hc, hfit, hB⟩, u1, us1, rfl, ⟨bb', blk', cap2', m', hk2', rfl, hc', hfit', hB'⟩, rfl⟩ := hL
  rw [hk] at hk'
  rw [hk2] at hk2'
  simp only [Option.some.injEq] at hk' hk2'
  subst hk' hk2'
  obtain ⟨H, hR, hHY⟩ := hB
  obtain ⟨H', hR', hHY'⟩ := hB'
  exact psame_spec Y (some ⟨blk, 0, none⟩) (some ⟨blk', 0, none⟩) cap2 cap2' ps (hR.2.mono hHY) (hR'.2.mono hHY') hpb hnb
set_option maxHeartbeats 12800000 in
theorem ScodeParts_spec (s : Sc) (ad pad : Option Addr) (cap pcap : Nat) (ps : List Pt) (l : List UInt8) (hin : CompsIn X ad s.cs) (hps : PartsIn X pad ps) :
    PSpec Tryz.prog X 4 [Sx s.ver ad s.cs.length cap, Lx pad ps.length pcap, Ls l] (Lb true) := by
  have hW := awake8_spec X
  have hG := great8_spec X s.ver ad cap s.cs hin (greatB8 s.cs) rfl
  refine PSpec.intro Tryz.func4 rfl (by kernel_rfl) rfl rfl ?_
  intro C
  have hlen : (⟨l.toArray⟩ : ByteArray).size = l.length := rfl
  cases hg : greatB8 s.cs with
  | true =>
    rw [hg] at hG
    (refine LWP.seq <| LWP.region (by kernel_rfl) <| K.box rfl rfl rfl .plain <| kas rfl <| RunK.nil <| LWP.seq <| LWP.seq <| LWP.region (by kernel_rfl) <| kca rfl rfl (hW) <| K.not rfl rfl .plain <| RunK.nil <| LWP.condF rfl ?_; refine LWP.skip ?_; refine LWP.seq <| LWP.seq <| LWP.region (by kernel_rfl) <| K.loadAll rfl rfl rfl .plain ?_; refine kca rfl rfl hG <| kmv rfl <| RunK.passed rfl rfl rfl <| RunK.passed rfl rfl rfl <| RunK.passed rfl rfl rfl <| kpt rfl rfl <| kmv rfl <| RunK.passed rfl rfl rfl <| RunK.passed rfl rfl rfl <| RunK.passed rfl rfl rfl <| kpt rfl rfl <| RunK.nil <| LWP.condT rfl ?_; refine LWP.seq <| LWP.region (by kernel_rfl) <| kas rfl <| RunK.nil <| LWP.ret ?_)
    exact ⟨[_], ⟨rfl, trivial⟩, rfl⟩
  | false =>
  rw [hg] at hG
  have hS := greatB8_small hg
  by_cases hlb : 12 < ps.length
  · (refine LWP.seq <| LWP.region (by kernel_rfl) <| K.box rfl rfl rfl .plain <| kas rfl <| RunK.nil <| LWP.seq <| LWP.seq <| LWP.region (by kernel_rfl) <| kca rfl rfl (hW) <| K.not rfl rfl .plain <| RunK.nil <| LWP.condF rfl ?_; refine LWP.skip ?_; refine LWP.seq <| LWP.seq <| LWP.region (by kernel_rfl) <| K.loadAll rfl rfl rfl .plain ?_; refine kca rfl rfl hG <| kmv rfl <| gmv rfl rfl rfl <| K.lenX rfl SliceT.h rfl (.taken rfl rfl) ?_; refine K.gtr rfl rfl (decide_eq_true (by omega)) (.taken rfl rfl) ?_; refine kpf rfl rfl <| kmv rfl <| RunK.passed rfl rfl rfl <| RunK.passed rfl rfl rfl <| RunK.passed rfl rfl rfl <| kpt rfl rfl <| RunK.nil <| LWP.condT rfl ?_; refine LWP.seq <| LWP.region (by kernel_rfl) <| kas rfl <| RunK.nil <| LWP.ret ?_)
    exact ⟨[_], ⟨rfl, trivial⟩, rfl⟩
  by_cases hbb : 4096 < l.length
  · (refine LWP.seq <| LWP.region (by kernel_rfl) <| K.box rfl rfl rfl .plain <| kas rfl <| RunK.nil <| LWP.seq <| LWP.seq <| LWP.region (by kernel_rfl) <| kca rfl rfl (hW) <| K.not rfl rfl .plain <| RunK.nil <| LWP.condF rfl ?_; refine LWP.skip ?_; refine LWP.seq <| LWP.seq <| LWP.region (by kernel_rfl) <| K.loadAll rfl rfl rfl .plain ?_; refine kca rfl rfl hG <| kmv rfl <| gmv rfl rfl rfl <| K.lenX rfl SliceT.h rfl (.taken rfl rfl) ?_; refine K.gtr rfl rfl (decide_eq_false (by omega)) (.taken rfl rfl) ?_; refine kpf rfl rfl <| kmv rfl <| gmv rfl rfl rfl <| K.lenStr rfl (.taken rfl rfl) ?_; refine K.gtr rfl rfl (decide_eq_true (by rw [hlen]; omega)) (.taken rfl rfl) ?_; refine kpf rfl rfl <| RunK.nil <| LWP.condT rfl ?_; refine LWP.seq <| LWP.region (by kernel_rfl) <| kas rfl <| RunK.nil <| LWP.ret ?_)
    exact ⟨[_], ⟨rfl, trivial⟩, rfl⟩
  have hbig : s.cs.length < 4611686018427387904 := by have := hS.1; omega
  have hfs : ∀ c ∈ s.cs, c.fs.length < 4611686018427387904 := fun c hc => by have := (hS.2 c hc).1; omega
  (refine LWP.seq <| LWP.region (by kernel_rfl) <| K.box rfl rfl rfl .plain <| kas rfl <| RunK.nil <| LWP.seq <| LWP.seq <| LWP.region (by kernel_rfl) <| kca rfl rfl (hW) <| K.not rfl rfl .plain <| RunK.nil <| LWP.condF rfl ?_; refine LWP.skip ?_; refine LWP.seq <| LWP.seq <| LWP.region (by kernel_rfl) <| K.loadAll rfl rfl rfl .plain ?_; refine kca rfl rfl hG <| kmv rfl <| gmv rfl rfl rfl <| K.lenX rfl SliceT.h rfl (.taken rfl rfl) ?_; refine K.gtr rfl rfl (decide_eq_false (by omega)) (.taken rfl rfl) ?_; refine kpf rfl rfl <| kmv rfl <| gmv rfl rfl rfl <| K.lenStr rfl (.taken rfl rfl) ?_; refine K.gtr rfl rfl (decide_eq_false (by rw [hlen]; omega)) (.taken rfl rfl) ?_; refine kpf rfl rfl <| RunK.nil <| LWP.condF rfl ?_; refine LWP.skip ?_; refine LWP.seq <| LWP.seq <| LWP.region (by kernel_rfl) <| kas rfl <| RunK.nil <| LWP.block ?_)
  refine LWP.loop (fun m σ => ∃ i : Nat, i ≤ ps.length ∧ m = ps.length - i ∧ (∀ (j : Nat) (p : Pt), j < i → ps[j]? = some p → p.val.length ≤ 100) ∧ σ = ⟨[(1, Lx pad ps.length pcap), (2, Ls l), (3, Lp 3), (7, Ln .i64 (i : Nat))], [sxB 3 s.ver ad s.cs.length cap], X⟩) ps.length
    ⟨_, Le.of (by exact ⟨rfl, rfl, rfl, rfl, trivial⟩) (by exact ⟨rfl, trivial⟩) (by exact rfl) (by exact rfl) (by repeat' (first | refine all_cons_true ?_ ?_ | rfl | exact bytes_inUse | exact vals_inUse | exact mid_inUse rfl)), 0, by omega, by omega, fun j p hj => absurd hj (by omega), rfl⟩ ?_
  rintro m σ ⟨i, hi, rfl, hpre, rfl⟩
  by_cases hlt : i < ps.length
  · obtain ⟨p, hp⟩ : ∃ p, ps[i]? = some p := ⟨_, List.getElem?_eq_getElem hlt⟩
    obtain ⟨blk, off, arr, el, fr, vad, vcap, rfl, hX, hsz, hcs, g1, g2, hN⟩ := hps.get hp
    have hio : off + Int.toNat (i : Int) * 2 = off + i * 2 := by simp
    by_cases hbigv : 100 < p.val.length
    · (refine LWP.seq <| LWP.seq <| LWP.region (by kernel_rfl) <| kmv rfl <| kmv rfl <| K.lenX rfl SliceT.h rfl .plain ?_; refine klt rfl rfl (decide_eq_true (by omega)) <| RunK.nil <| LWP.condT rfl ?_; refine LWP.skip ?_; refine LWP.seq <| LWP.block <| LWP.seq <| LWP.region (by kernel_rfl) <| kmv rfl <| kmv rfl <| K.indexX rfl rfl SliceT.h (by omega) hio .plain <| K.fieldAddrX rfl rfl .plain ?_; refine K.loadX rfl hX rfl g2 .plain <| K.lenX rfl SliceT.h rfl .plain ?_; refine K.gtr rfl rfl (decide_eq_true (by omega)) .plain <| RunK.nil <| LWP.condT rfl ?_; refine LWP.seq <| LWP.region (by kernel_rfl) <| kas rfl <| RunK.nil <| LWP.ret ?_)
      exact ⟨[_], ⟨rfl, trivial⟩, rfl⟩
    · (refine LWP.seq <| LWP.seq <| LWP.region (by kernel_rfl) <| kmv rfl <| kmv rfl <| K.lenX rfl SliceT.h rfl .plain ?_; refine klt rfl rfl (decide_eq_true (by omega)) <| RunK.nil <| LWP.condT rfl ?_; refine LWP.skip ?_; refine LWP.seq <| LWP.block <| LWP.seq <| LWP.region (by kernel_rfl) <| kmv rfl <| kmv rfl <| K.indexX rfl rfl SliceT.h (by omega) hio .plain <| K.fieldAddrX rfl rfl .plain ?_; refine K.loadX rfl hX rfl g2 .plain <| K.lenX rfl SliceT.h rfl .plain ?_; refine K.gtr rfl rfl (decide_eq_false (by omega)) .plain <| RunK.nil <| LWP.condF rfl ?_; refine LWP.skip ?_; refine LWP.region (by kernel_rfl) <| kmv rfl <| kad rfl rfl (wrap_i64 (by omega)) <| kas rfl <| RunK.nil ?_)
      exact ⟨_, _, by omega, Le.of (by exact ⟨rfl, rfl, rfl, rfl, trivial⟩) (by exact ⟨rfl, trivial⟩) (by exact rfl) (by exact rfl) (by repeat' (first | refine all_cons_true ?_ ?_ | rfl | exact bytes_inUse | exact vals_inUse | exact mid_inUse rfl)), i + 1, by omega, rfl, (fun j y hj hy => by
        by_cases e : j = i
        · subst e; rw [hp] at hy; cases hy; omega
        · exact hpre j y (by omega) hy), rfl⟩
  · have hnb : ∀ p ∈ ps, p.val.length < 4611686018427387904 := fun p hp => by
      obtain ⟨j, hj⟩ := List.mem_iff_getElem?.1 hp
      have := hpre j p (by have := (List.getElem?_eq_some_iff.1 hj).1; omega) hj
      omega
    have e1 := cEncP X s ad pad cap pcap ps hin hS hps (by omega)
    have e2 := sPartsEnc_spec X s ad pad cap pcap ps hin hbig hfs hps (by omega) hnb
    have c1 := sCheck_spec X s ad cap hin hbig hfs
    generalize pTx s ps = tx at *
    generalize pErr s ps = te at *
    have hn1 : (te != te) = false := by simp
    (refine LWP.seq <| LWP.seq <| LWP.region (by kernel_rfl) <| kmv rfl <| kmv rfl <| K.lenX rfl SliceT.h rfl .plain ?_; refine klt rfl rfl (decide_eq_false (by omega)) <| RunK.nil <| LWP.condF rfl ?_; refine LWP.exit <| LWP.seq <| LWP.region (by kernel_rfl) <| K.loadAll rfl rfl rfl .plain ?_; refine kmv rfl <| kca rfl rfl e1 <| kmv rfl <| kex rfl rfl <| kex rfl rfl <| kas rfl <| kas rfl <| RunK.nil <| LWP.seq <| LWP.region (by kernel_rfl) <| K.loadAll rfl rfl rfl .plain ?_; refine kmv rfl <| kca rfl rfl e2 <| kmv rfl <| kex rfl rfl <| kex rfl rfl <| kas rfl <| kas rfl <| RunK.nil <| LWP.seq <| LWP.seq <| LWP.region (by kernel_rfl) <| kmv rfl <| kmv rfl <| K.strNe rfl rfl (strs_ne (r := false) (by simp)) .plain ?_; refine kmv rfl <| gmv rfl rfl rfl <| gmv rfl rfl rfl <| K.neq rfl rfl hn1 (.taken rfl rfl) ?_; refine kpf rfl rfl <| RunK.nil <| LWP.condF rfl ?_; refine LWP.skip ?_; refine LWP.seq ?_)
    refine LWP.le (σ' := ⟨[(1, Lx pad ps.length pcap), (2, Ls l), (3, Lp 3)], [sxB 3 s.ver ad s.cs.length cap], X⟩) (Le.of (by exact ⟨rfl, rfl, rfl, trivial⟩) (by exact ⟨rfl, trivial⟩) (by exact rfl) (by exact rfl) (by repeat' (first | refine all_cons_true ?_ ?_ | rfl | exact bytes_inUse | exact vals_inUse | exact mid_inUse rfl))) ?_
    by_cases h0 : ¬(chkE s = 0)
    · have d1 := cDecP_chk X s ad cap l hin hS (by omega) h0
      have hne : (chkE s != 0) = true := by rw [bne_iff_ne]; exact h0
      have heq : (chkE s == chkE s) = true := by simp
      generalize chkE s = ce at *
      (refine LWP.region (by kernel_rfl) <| K.loadAll rfl rfl rfl .plain ?_; refine kmv rfl <| K.callM [] [] (d1) rfl rfl (by exact trivial) rfl rfl rfl rfl rfl (by exact .nil) .plain <| kmv rfl <| kex rfl rfl <| kex rfl rfl <| kas rfl <| kas rfl <| RunK.nil <| LWP.seq <| LWP.seq <| LWP.region (by kernel_rfl) <| K.loadAll rfl rfl rfl .plain ?_; refine kca rfl rfl c1 <| kas rfl <| RunK.nil <| LWP.seq <| LWP.region (by kernel_rfl) <| kmv rfl <| kne rfl rfl hne <| RunK.nil <| LWP.condT rfl ?_; refine LWP.seq <| LWP.region (by kernel_rfl) <| kmv rfl <| kmv rfl <| keq rfl rfl heq <| kmv rfl <| gmv rfl rfl rfl <| K.lenX rfl SliceT.h rfl (.taken rfl rfl) ?_; refine K.eql rfl rfl (r := true) rfl (.taken rfl rfl) ?_; refine kpt rfl rfl <| kas rfl <| RunK.nil <| LWP.ret ?_)
      exact ⟨[_], ⟨rfl, trivial⟩, rfl⟩
    replace h0 := Decidable.not_not.1 h0
    have r1 := sReadParts_spec X s ad cap l hin hbig hfs (by omega) h0
    have hrd := decP_rd s.cs l
    rw [h0] at c1
    cases hq : rdP s.cs l with
    | none =>
      rw [hq] at hrd
      have d1 := cDecP_no X s ad cap l hin hS (by omega) h0 hrd
      obtain ⟨q1, q2⟩ := rd_none hq
      rw [q1, q2] at r1
      (refine LWP.region (by kernel_rfl) <| K.loadAll rfl rfl rfl .plain ?_; refine kmv rfl <| K.callM [] [] (d1) rfl rfl (by exact trivial) rfl rfl rfl rfl rfl (by exact .nil) .plain <| kmv rfl <| kex rfl rfl <| kex rfl rfl <| kas rfl <| kas rfl <| RunK.nil <| LWP.seq <| LWP.seq <| LWP.region (by kernel_rfl) <| K.loadAll rfl rfl rfl .plain ?_; refine kca rfl rfl c1 <| kas rfl <| RunK.nil <| LWP.seq <| LWP.region (by kernel_rfl) <| kmv rfl <| kne rfl rfl (r := false) (by decide) <| RunK.nil <| LWP.condF rfl ?_; refine LWP.skip ?_; refine LWP.seq <| LWP.region (by kernel_rfl) <| K.loadAll rfl rfl rfl .plain ?_; refine kmv rfl <| K.callM [] [] (r1) rfl rfl (by exact trivial) rfl rfl rfl rfl rfl (by exact .nil) .plain <| kmv rfl <| kex rfl rfl <| kex rfl rfl <| kas rfl <| kas rfl <| RunK.nil <| LWP.seq <| LWP.seq <| LWP.region (by kernel_rfl) <| kmv rfl <| K.not rfl rfl .plain <| RunK.nil ?_; refine LWP.condT rfl ?_; refine LWP.seq <| LWP.region (by kernel_rfl) <| kmv rfl <| keq rfl rfl (r := true) rfl <| kmv rfl <| gmv rfl rfl rfl <| K.lenX rfl SliceT.h rfl (.taken rfl rfl) ?_; refine K.eql rfl rfl (r := true) rfl (.taken rfl rfl) ?_; refine kpt rfl rfl <| kas rfl <| RunK.nil <| LWP.ret ?_)
      exact ⟨[_], ⟨rfl, trivial⟩, rfl⟩
    | some x =>
      obtain ⟨qs, rb⟩ := x
      obtain ⟨q1, q2⟩ := rd_some hq
      rw [q1, q2] at r1
      rw [hq] at hrd
      cases rb with
      | false =>
        have d1 := cDecP_no X s ad cap l hin hS (by omega) h0 hrd
        (refine LWP.region (by kernel_rfl) <| K.loadAll rfl rfl rfl .plain ?_; refine kmv rfl <| K.callM [] [] (d1) rfl rfl (by exact trivial) rfl rfl rfl rfl rfl (by exact .nil) .plain <| kmv rfl <| kex rfl rfl <| kex rfl rfl <| kas rfl <| kas rfl <| RunK.nil <| LWP.seq <| LWP.seq <| LWP.region (by kernel_rfl) <| K.loadAll rfl rfl rfl .plain ?_; refine kca rfl rfl c1 <| kas rfl <| RunK.nil <| LWP.seq <| LWP.region (by kernel_rfl) <| kmv rfl <| kne rfl rfl (r := false) (by decide) <| RunK.nil <| LWP.condF rfl ?_; refine LWP.skip ?_; refine LWP.seq <| LWP.region (by kernel_rfl) <| K.loadAll rfl rfl rfl .plain ?_; refine kmv rfl <| K.callMp [(1000001, 701)] (.tup [.one (.slc 701 0 qs.length 2), Sb false]) [ptB 701 qs] (r1) rfl rfl (by exact trivial) rfl rfl rfl rfl rfl (by exact (.box rfl rfl .nil)) .plain <| kmv rfl <| kex rfl rfl <| kex rfl rfl <| kas rfl <| kas rfl <| RunK.nil <| LWP.seq <| LWP.seq <| LWP.region (by kernel_rfl) <| kmv rfl <| K.not rfl rfl .plain <| RunK.nil ?_; refine LWP.condT rfl ?_; refine LWP.seq <| LWP.region (by kernel_rfl) <| kmv rfl <| keq rfl rfl (r := true) rfl <| kmv rfl <| gmv rfl rfl rfl <| K.lenX rfl SliceT.h rfl (.taken rfl rfl) ?_; refine K.eql rfl rfl (r := true) rfl (.taken rfl rfl) ?_; refine kpt rfl rfl <| kas rfl <| RunK.nil <| LWP.ret ?_)
        exact ⟨[_], ⟨rfl, trivial⟩, rfl⟩
      | true =>
        simp only at hrd
        have d1 := cDecP_ok X s ad cap l qs hin hS (by omega) h0 hrd
        obtain ⟨_, h256, _, hok⟩ := enc_parts hrd
        have hfew := parts_few hok
        have hsm := fun (S : Nat → Option (Option Box)) (e e2 : TypeId) (cc cc2 : List CV) => psame_two X (S := S) (k := 700) (k2 := 701) (e := e) (e2 := e2) (cc := cc) (cc2 := cc2) (ps := qs) (by omega) (fun p hp => by have := hfew p hp; omega)
        (refine LWP.region (by kernel_rfl) <| K.loadAll rfl rfl rfl .plain ?_; refine kmv rfl <| K.callMp [(1000001, 700)] (.tup [.one (.slc 700 0 qs.length 2), Sn .i64 0]) [ptB 700 qs] (d1) rfl rfl (by exact trivial) rfl rfl rfl rfl rfl (by exact (.box rfl rfl .nil)) .plain <| kmv rfl <| kex rfl rfl <| kex rfl rfl <| kas rfl <| kas rfl <| RunK.nil <| LWP.seq <| LWP.seq <| LWP.region (by kernel_rfl) <| K.loadAll rfl rfl rfl .plain ?_; refine kca rfl rfl c1 <| kas rfl <| RunK.nil <| LWP.seq <| LWP.region (by kernel_rfl) <| kmv rfl <| kne rfl rfl (r := false) (by decide) <| RunK.nil <| LWP.condF rfl ?_; refine LWP.skip ?_; refine LWP.seq <| LWP.region (by kernel_rfl) <| K.loadAll rfl rfl rfl .plain ?_; refine kmv rfl <| K.callMp [(1000001, 701)] (.tup [.one (.slc 701 0 qs.length 2), Sb true]) [ptB 701 qs] (r1) rfl rfl (by exact trivial) rfl rfl rfl rfl rfl (by exact (.box rfl rfl .nil)) .plain <| kmv rfl <| kex rfl rfl <| kex rfl rfl <| kas rfl <| kas rfl <| RunK.nil <| LWP.seq <| LWP.seq <| LWP.region (by kernel_rfl) <| kmv rfl <| K.not rfl rfl .plain <| RunK.nil ?_; refine LWP.condF rfl ?_; refine LWP.skip ?_; refine LWP.seq <| LWP.region (by kernel_rfl) <| kmv rfl <| keq rfl rfl (r := true) rfl <| kmv rfl <| gmv rfl rfl rfl <| gmv rfl rfl rfl <| K.callL [700, 701] rfl rfl rfl (hsm _ _ _ _ _ rfl rfl) (.taken rfl rfl) ?_; refine kpt rfl rfl <| kas rfl <| RunK.nil <| LWP.ret ?_)
        exact ⟨[_], ⟨rfl, trivial⟩, rfl⟩
end Go.Proofs.YtnomcmklhbjfjaaGreatDoor
end
