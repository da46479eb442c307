/-
  A step of the walk, the part named Bza. No theorem of the row.
-/
import Derived.Test.YtmkkibaacclhnaaGreatDoorBmy
import Derived.Deep.CutBlock
namespace Go.Proofs.YtmkkibaacclhnaaGreatDoor
open Go.RowKit
set_option maxRecDepth 100000
set_option maxHeartbeats 16000000
theorem zero_slice (k:Nat) (h:k<10):(ByteArray.mk #[48,49,50,51,52,53,54,55,56,57]).extract k (k+1)=ofL [UInt8.ofNat (48+k)]:=by
 have:k=0∨k=1∨k=2∨k=3∨k=4∨k=5∨k=6∨k=7∨k=8∨k=9:=by omega
 rcases this with rfl|rfl|rfl|rfl|rfl|rfl|rfl|rfl|rfl|rfl<;>rfl
theorem first_any (m:Nat) (w:World) (hm:m<9218868437227405312) (hlo:TenLe m (-342)) (hhi:¬TenLe m 682):
 Calls Tryz.prog 176 #[.int .u64 (m:Int)] w fun r w'=>(∃(x:Int) (l:List UInt8),-342≤x∧x≤682∧TenLe m x∧¬TenLe m (x+1)∧DInv m l 17 (x-16)∧r=.returned (.tuple #[.string (ofL l),.int .i64 (x-16)]))∧Fr (fun _=>False) w w':=by
 have HM:=hid hm;obtain⟨n,hn⟩:∃n,(manE m).1=n:=⟨_,rfl⟩;obtain⟨E,hE⟩:∃E,(manE m).2=E:=⟨_,rfl⟩;have hb:=man_less m hm;rw[hn,hE]at hb;have HNE:=hid (And.intro hn hE);clear hn hE hm;go_enter Tryz.func176,Tryz.ntmps176
 go_wp2_with fail
 refine(parts_man m _ (by have:=HM.out;omega)).mono ?_;rintro e w1 ⟨rfl,rfl⟩;rw[HNE.out.1,HNE.out.2]
 go_upto_block 0 with fail
 have hst:=hid (show FInvB m (-342) 512 from⟨hlo,by rw[if_neg (by omega)];exact hhi⟩);clear hlo hhi
 go_cut [6] (fun xv wc=>∃x:Int,xv=.int .i64 x∧ -342≤x∧x≤682∧Hid (TenLe m x)∧Hid (TenLe m (x+1)↔False)∧Hid (Fr (fun _=>False) w1 wc))
 case first=>
  go_wp2
  go_loopw [6,7] (fun xv sv wr=>∃(x:Int) (s:Nat),xv=.int .i64 x∧sv=.int .i64 (s:Int)∧Step s∧ -342≤x∧x+2*(s:Int)≤682∧Hid (FInvB m x s)∧Hid (Fr (fun _=>False) w1 wr)) (fun _ sv _=>(intOf sv).toNat)
  case atStart=>exact⟨-342,512,rfl,rfl,by unfold Step;omega,by omega,by omega,hst,hid (Fr.refl _ _)⟩
  case round=>
   clear hst;obtain⟨x,s,rfl,rfl,hs,hx1,hx2,hI,hF⟩:=hrel;by_cases h0:s=0
   ·subst h0
    obtain⟨hT1,hT2⟩:=hI.out;rw[if_pos rfl]at hT2;have HT1:=hid hT1;have HT2:=hid (iff_false_intro hT2);have hx3:x≤682:=by omega
    clear hT1 hT2 hI hs hx2;go_wp2;go_meet;exact⟨x,rfl,hx1,hx3,HT1,HT2,hF⟩
   ·have hpos:0<s:=by omega
    have hsb:s≤512:=by unfold Step at hs;omega
    have HS:=hid hs;have HI:=hid (hI.out.next hs h0);clear hs h0 hI
    go_wp2_with fail
    refine(of_any false [49] (x+s) _ (by decide) (by intro c hc;simp at hc;subst hc;decide) (by omega) (by omega)).mono ?_;rintro e w2 ⟨fv,rfl,hfr,hF2⟩;obtain⟨va,vb,xs,ys,rfl,c1,c2,c3,c4,c5,c6⟩:=hfr;have HFR:=hid (show FracAt w2 (.agg #[va,vb]) (num (dv [49])*p10 (x+s).toNat) (p10 (-(x+s)).toNat) 9000000 from⟨va,vb,xs,ys,rfl,c1,c2,c3,c4,c5,c6⟩);obtain⟨pa,qa,rfl⟩:=big_shape c1;obtain⟨pb,qb,rfl⟩:=big_shape c2;have HF2:=hid (hF.out.trans hF2);clear hF2 hF c1 c2 c3 c4 c5 c6
    go_wp2_with fail
    refine(fag_V _ _ _ 9000000 m n E _ _ _ HM.out HNE.out.1 HNE.out.2 rfl rfl (by omega) (HFR.out.fr ((Fr.refl _ _).alloc _))).mono ?_;rintro e w3 ⟨rfl,hF3⟩;have HF3:=hid ((HF2.out.alloc _).trans hF3);obtain⟨cc,hcc⟩:∃cc,bcmp (num (dv [49])*p10 (x+s).toNat*p2 1074) (p10 (-(x+s)).toNat*V m)=cc:=⟨_,rfl⟩
    have hle:cc≤0↔TenLe m (x+s):=by
     rw[←hcc,bcmp_le];unfold TenLe;rw[show num (dv [49])=1 from rfl,Nat.one_mul]
    rw[hcc];have HLE:=hid hle;clear hcc hle hF3 HFR;by_cases hc:cc≤0
    ·have HN:=hid (HI.out.1 (HLE.out.1 hc))
     go_wp2;go_roundw
     case rel=>exact⟨x+s,s/2,by go_num,by go_num,HS.out.half,by omega,by omega,HN,HF3⟩
     case measure=>simp[intOf];omega
    ·have HN:=hid (HI.out.2 (fun h=>hc (HLE.out.2 h)))
     go_wp2;go_roundw
     case rel=>exact⟨x,s/2,rfl,by go_num,HS.out.half,by omega,by omega,HN,HF3⟩
     case measure=>simp[intOf];omega
 case rest=>
  obtain⟨x,rfl,hx1,hx3,HT1,HT2,hF⟩:=hcut;have hst2:=hid (DInv.start HT2.out.1);clear hst;go_wp2
  go_loopw [10,11] (fun dvv iv wq=>∃(l:List UInt8) (i:Nat),dvv=.string (ofL l)∧iv=.int .i64 (i:Int)∧i≤17∧Hid (DInv m l i (x-(i:Int)+1))∧Hid (Fr (fun _=>False) w1 wq)) (fun _ iv _=>17-(intOf iv).toNat)
  case atStart=>exact⟨[],0,rfl,rfl,by omega,hst2,hF⟩
  case round=>
   clear hst2 hF;obtain⟨l,i,rfl,rfl,hi,hD,hF⟩:=hrel;by_cases hi17:i<17
   ·have HL:=hid hD.out.2.1
    have hA:=hid hD.out.1;have hD3:=hid hD.out.2.2.1;have hD4:=hid (iff_false_intro hD.out.2.2.2);clear hD;have hst3:=hid ((CLe.shift m (num (dv l)) (x-(i:Int))).1 hD3.out);have hdi:decide ((i:Int)<17)=true:=decide_eq_true (by omega);have HI17:=hid hi17;clear hi17 hi
    go_upto_block 4 with fail
    go_cut [12] (fun kv wc=>∃k:Nat,kv=.int .i64 (k:Int)∧k≤9∧Hid (CLe m (10*num (dv l)+k) (x-(i:Int)))∧Hid (CLe m (10*num (dv l)+k+1) (x-(i:Int))↔False)∧Hid (Fr (fun _=>False) w1 wc))
    case first=>
     go_wp2
     go_loopw [12] (fun kv wq=>∃k:Nat,kv=.int .i64 (k:Int)∧k≤9∧Hid (CLe m (10*num (dv l)+k) (x-(i:Int)))∧Hid (Fr (fun _=>False) w1 wq)) (fun kv _=>9-(intOf kv).toNat)
     case atStart=>exact⟨0,rfl,Nat.zero_le _,hst3,hF⟩
     case round=>
      clear hF hst3;obtain⟨k,rfl,hk,hK,hF⟩:=hrel;by_cases hk9:k<9
      ·have hsl:=one_slice k hk9
       have hz1:=ofL_size l;have HA1:=hid (allD_dig hA.out (k+1) (by omega));have HND:=hid (num_dig l (k+1) (by omega));generalize hcb:UInt8.ofNat (48+(k+1))=cb at*;clear hcb;have hz2:(ofL [cb]).size=1:=rfl;have hap:=ofL_append l [cb];have hll:l.length≤17:=by have:=HL.out;have:=HI17.out;omega
       have HLEN:=hid (show(l++[cb]).length≤4000000 by simp;omega);generalize hl':l++[cb]=l' at*;clear hl';have hi1:(i:Int)≤16:=by have:=HI17.out;omega
       have hi0:0≤(i:Int):=by omega
       go_wp2_with fail
       refine(of_any false l' (x-i) _ HLEN.out HA1.out (by omega) (by omega)).mono ?_;rintro e w2 ⟨fv,rfl,hfr,hF2⟩;obtain⟨va,vb,xs,ys,rfl,c1,c2,c3,c4,c5,c6⟩:=hfr;have HFR:=hid (show FracAt w2 (.agg #[va,vb]) (num (dv l')*p10 (x-i).toNat) (p10 (-(x-i)).toNat) 9000000 from⟨va,vb,xs,ys,rfl,c1,c2,c3,c4,c5,c6⟩);obtain⟨pa,qa,rfl⟩:=big_shape c1;obtain⟨pb,qb,rfl⟩:=big_shape c2;have HF2:=hid (hF.out.trans hF2);clear hF2 hF c1 c2 c3 c4 c5 c6
       go_wp2_with fail
       refine(fag_V _ _ _ 9000000 m n E _ _ _ HM.out HNE.out.1 HNE.out.2 rfl rfl (by omega) (HFR.out.fr ((Fr.refl _ _).alloc _))).mono ?_;rintro e w3 ⟨rfl,hF3⟩;have HF3:=hid ((HF2.out.alloc _).trans hF3);obtain⟨cc,hcc⟩:∃cc,bcmp (num (dv l')*p10 (x-i).toNat*p2 1074) (p10 (-(x-i)).toNat*V m)=cc:=⟨_,rfl⟩
       have hle:cc≤0↔CLe m (10*num (dv l)+k+1) (x-i):=by
        rw[←hcc,bcmp_le];unfold CLe;rw[HND.out,show 10*num (dv l)+k+1=num (dv l)*10+(k+1) by omega]
       rw[hcc];have HLE:=hid hle;clear hcc hle hF3 HFR;by_cases hc:0<cc
       ·have HN:=hid (show CLe m (10*num (dv l)+k+1) (x-(i:Int))↔False from iff_false_intro fun h=>by have:=HLE.out.2 h;omega)
        go_wp2;go_meet;exact⟨k,rfl,by omega,hK,HN,HF3⟩
       ·have HN:=hid (HLE.out.1 (by omega))
        go_wp2;go_roundw
        case rel=>exact⟨k+1,by go_num,by omega,HN,HF3⟩
        case measure=>simp[intOf];omega
      ·obtain rfl:k=9:=by omega
       have HK2:=hid (show CLe m (10*num (dv l)+9+1) (x-(i:Int))↔False from iff_false_intro fun h=>hD4.out.1 ((CLe.shift m (num (dv l)+1) (x-(i:Int))).2 (by rw[show 10*(num (dv l)+1)=10*num (dv l)+9+1 by omega];exact h)));go_wp2;go_meet;exact⟨9,rfl,Nat.le_refl _,hK,HK2,hF⟩
    case rest=>
     obtain⟨k,rfl,hk,hK1,hK2,hF'⟩:=hcut;have HF:=hF';clear hst3 hF hF';have hsl:=zero_slice k (by omega);have hz1:=ofL_size l;have hll:l.length≤17:=by have:=HL.out;have:=HI17.out;omega
     have hi1:(i:Int)≤16:=by have:=HI17.out;omega
     have HD':=hid (show DInv m (l++[UInt8.ofNat (48+k)]) (i+1) (x-((i+1:Nat):Int)+1)from
      ⟨allD_dig hA.out k (by omega),by have:=HL.out;simp;omega,by
       rw[num_dig l k (by omega),show x-((i+1:Nat):Int)+1=x-(i:Int) by omega,Nat.mul_comm];exact hK1.out,by
       rw[num_dig l k (by omega),show x-((i+1:Nat):Int)+1=x-(i:Int) by omega,Nat.mul_comm];exact hK2.out.1⟩)
     generalize hcb:UInt8.ofNat (48+k)=cb at*;clear hcb;have hz2:(ofL [cb]).size=1:=rfl;have hap:=ofL_append l [cb];generalize hl':l++[cb]=l' at*;clear hl';go_wp2;go_roundw
     case rel=>exact⟨l',i+1,rfl,by go_num,by have:=HI17.out;omega,HD',HF⟩
     case measure=>have:=HI17.out;simp[intOf];omega
   ·obtain rfl:i=17:=by omega
    have HD:=hD;clear hD;go_wp2;go_ret2;exact⟨⟨x,l,hx1,hx3,HT1.out,HT2.out.1,by have:=HD.out;rwa[show x-((17:Nat):Int)+1=x-16 by omega]at this,rfl⟩,hF.out⟩
theorem ins_iff (K m c:Nat) (X:Int) (hm:m≠0) (hK: -(K:Int)≤X):insV (c*p10 X.toNat) (p10 (-X).toNat) m=true↔InV (p10 K*V m) (p10 K*gapL m) (p10 K*gapH m) (m % 2=0) (c*TK K X):=by
 rw[insV_iff _ _ _ hm,←rnd_In _ _ _ hm,←rnd_T K c X m hK];unfold RndAt pP;rw[Nat.mul_assoc]
def nearN (m c:Nat) (X:Int):Int:= -(bcmp ((c*p10 X.toNat*p10 (-X).toNat+(c+1)*p10 X.toNat*p10 (-X).toNat)*2^(-(((manE m).2:Int)-1074)).toNat) (p10 (-X).toNat*p10 (-X).toNat*(2*(manE m).1)*2^(((manE m).2:Int)-1074).toNat))
theorem nearN_eq (K m c:Nat) (X:Int) (hK: -(K:Int)≤X):nearN m c X= -(bcmp (2*(c*TK K X)+TK K X) (2*(p10 K*V m))):=by
 unfold nearN;refine congrArg Neg.neg ?_;rw[bcmp_two _ _ (manE m).2 1074 (((manE m).2:Int)-1074) (by omega)];have e1:p10 (X+K).toNat=p10 X.toNat*p10 (K-(-X).toNat):=by rw[←p10_add];congr 1;omega
 have e2:p10 K=p10 (-X).toNat*p10 (K-(-X).toNat):=by rw[←p10_add];congr 1;omega
 have hz:=p10_pos (K-(-X).toNat);have hB:=p10_pos (-X).toNat;unfold TK;rw[e1,e2,manE_V m];generalize p10 (K-(-X).toNat)=z at*;generalize p10 X.toNat=p at*;generalize p10 (-X).toNat=b at*;generalize p2 1074=s;generalize (manE m).1=n;generalize p2 (manE m).2=t
 have l1:(c*p*b+(c+1)*p*b)*s=(2*(c*(p*s))+p*s)*b:=by
  have a1:c*p*b*s=c*(p*s)*b:=by simp only[Nat.mul_left_comm,Nat.mul_comm]
  have a2:(c+1)*p*b*s=c*(p*s)*b+p*s*b:=by
   have:(c+1)*p*b*s=(c+1)*(p*s)*b:=by generalize c+1=d;simp only[Nat.mul_left_comm,Nat.mul_comm]
   rw[this,Nat.add_mul,Nat.one_mul,Nat.add_mul]
  rw[Nat.add_mul,a1,a2,Nat.add_mul,Nat.mul_assoc 2];omega
 have l2:b*b*(2*n)*t=2*(b*(n*t))*b:=by simp only[Nat.mul_assoc,Nat.mul_left_comm,Nat.mul_comm]
 have l3:(2*(c*(p*s))+p*s)*z=2*(c*(p*z*s))+p*z*s:=by
  have a1:p*z*s=p*s*z:=Nat.mul_right_comm ..;rw[a1,Nat.add_mul,Nat.mul_assoc 2,Nat.mul_assoc c]
 have l4:2*(b*(n*t))*z=2*(b*z*(n*t)):=by
  have a1:b*z*(n*t)=b*(n*t)*z:=Nat.mul_right_comm ..;rw[a1,Nat.mul_assoc 2]
 rw[l1,l2,bcmp_scale _ _ b hB,←bcmp_scale _ _ z hz,l3,l4]
theorem nearN_low (K m c:Nat) (X:Int) (hK: -(K:Int)≤X):(nearN m c X<0∨(nearN m c X=0∧c % 2=0))↔LowV (p10 K*V m) c (TK K X):=by
 rw[nearN_eq K m c X hK];unfold LowV;have h1:=bcmp_gt (2*(c*TK K X)+TK K X) (2*(p10 K*V m));have h2:=bcmp_eq (2*(c*TK K X)+TK K X) (2*(p10 K*V m));constructor
 ·rintro(h|⟨h,e⟩)
  ·left;exact h1.1 (by omega)
  ·right;exact⟨(h2.1 (by omega)).symm,e⟩
 ·rintro(h|⟨h,e⟩)
  ·left;have:=h1.2 h;omega
  ·right;exact⟨by have:=h2.2 h.symm;omega,e⟩
structure RefS (m D:Nat) (pw x:Int) (l:List UInt8):Prop where
 s:Short m D pw
 m0:m≠0
 pw1: -5000≤pw
 x1: -342≤x
 x2:x≤682
 lo:TenLe m x
 hi:¬TenLe m (x+1)
 d:DInv m l 17 (x-16)
def cN (l:List UInt8) (i:Nat):Nat:=num (dv (l.take i))
def RIn (m c:Nat) (X:Int):Prop:=InV (p10 6000*V m) (p10 6000*gapL m) (p10 6000*gapH m) (m % 2=0) (c*TK 6000 X)
def RNone (m:Nat) (x:Int) (l:List UInt8) (i:Nat):Prop:=∀j:Nat,1≤j→j<i→¬RIn m (cN l j) (x+1-j)∧¬RIn m (cN l j+1) (x+1-j)
theorem RefS.h1 {m D:Nat} {pw x:Int} {l:List UInt8} (h:RefS m D pw x l):TK 6000 x≤p10 6000*V m:=by
 have:=(cle_TK 6000 m 1 x (by have:=h.x1;omega)).1 ((ten_CLe m x).1 h.lo);rwa[Nat.one_mul]at this
theorem RefS.h2 {m D:Nat} {pw x:Int} {l:List UInt8} (h:RefS m D pw x l):p10 6000*V m<10*TK 6000 x:=by
 have hk:=h.hi;rw[ten_CLe,cle_TK 6000 m 1 (x+1) (by have:=h.x1;omega),Nat.one_mul,TK_succ 6000 x (by have:=h.x1;omega)]at hk;omega
theorem RefS.hc {m D:Nat} {pw x:Int} {l:List UInt8} (h:RefS m D pw x l) (j:Nat) (h1:1≤j) (h2:j≤17):
 cN l j*TK 6000 (x+1-j)≤p10 6000*V m∧p10 6000*V m<cN l j*TK 6000 (x+1-j)+TK 6000 (x+1-j):=
 h.d.take 6000 (by have:=h.x1;omega) j h1 h2
theorem RefS.head {m D:Nat} {pw x:Int} {l:List UInt8} (h:RefS m D pw x l):l.head? ≠some 48:=by
 intro hh;have hl:=h.d.2.1;have h1:=h.h1;have h2:=(h.hc 1 (by omega) (by omega)).2;rw[show x+1-((1:Nat):Int)=x by omega]at h2
 have hc:cN l 1=0:=by
  unfold cN;cases l with
  |nil=>rfl
  |cons c r=>
   have:c=48:=by simpa using hh
   subst this;rfl
 rw[hc,Nat.zero_mul,Nat.zero_add]at h2;omega
theorem RefS.dgs {m D:Nat} {pw x:Int} {l:List UInt8} (h:RefS m D pw x l) (i:Nat) (h1:1≤i) (h2:i≤17):l.take i=dgs (cN l i):=by
 have hl:=h.d.2.1;refine dgs_of (h.d.1.take i) ?_ ?_
 ·intro e
  have:=congrArg List.length e;rw[List.length_take,hl,List.length_nil]at this;omega
 ·have:=h.head
  cases l with
  |nil=>simp at hl
  |cons c r=>
   cases i with
   |zero=>omega
   |succ i=>simpa using this
theorem RefS.end {m D:Nat} {pw x:Int} {l:List UInt8} (h:RefS m D pw x l) (i:Nat) (h1:1≤i) (h2:i≤17) (hno:RNone m x l i):
 (RIn m (cN l i) (x+1-i)→(¬RIn m (cN l i+1) (x+1-i)∨LowV (p10 6000*V m) (cN l i) (TK 6000 (x+1-i)))→cN l i=D∧x+1-i=pw)∧
 (RIn m (cN l i+1) (x+1-i)→(¬RIn m (cN l i) (x+1-i)∨¬LowV (p10 6000*V m) (cN l i) (TK 6000 (x+1-i)))→(cN l i+1=D∧x+1-i=pw)∨(i=1∧cN l i=9∧D=1∧pw=x+1))∧
 (i=17→(LowV (p10 6000*V m) (cN l i) (TK 6000 (x-16))→cN l i=D∧x-16=pw)∧(¬LowV (p10 6000*V m) (cN l i) (TK 6000 (x-16))→cN l i+1=D∧x-16=pw)):=by
 have hx:=h.x1;have hp:=h.pw1
 have key:=h.s.ref (K:=6000) (c:=cN l) (x:=x) (i:=i) h.m0 (by omega) (by omega) (by omega) h.h1 h.h2 h.hc h1 h2 (fun j a b=>by
  have:=hno j a b;unfold RIn at this
  rwa[←succ_t]at this)
 unfold RIn;rw[←succ_t];exact key
theorem lean_dgs {D:Nat} (h:D % 10≠0):strip (drop0 (dgs D))=dgs D∧((drop0 (dgs D)).length:Int)=((dgs D).length:Int):=by
 rw[drop0_dgs D (by omega)];exact⟨strip_last (dgs_last D h),rfl⟩
theorem lean_ten:strip (drop0 (dgs 10))=dgs 1∧(drop0 (dgs 10)).length=2:=by
 rw[drop0_dgs 10 (by omega),dgs_ge (by omega),dgs_lt (by omega)];exact⟨rfl,rfl⟩
end Go.Proofs.YtmkkibaacclhnaaGreatDoor
