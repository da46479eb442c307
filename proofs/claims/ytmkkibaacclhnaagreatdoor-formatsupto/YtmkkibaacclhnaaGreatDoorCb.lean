/-
  Part Cb.
-/
import Derived.Test.YtmkkibaacclhnaaGreatDoorBmy
import Derived.Deep.CutBlock
namespace Go.Proofs.YtmkkibaacclhnaaGreatDoor
open Go.RowKit
set_option maxRecDepth 100000
set_option maxHeartbeats 16000000
theorem D8s (k:Nat) (h:k<10):(ByteArray.mk #[48,49,50,51,52,53,54,55,56,57]).extract k (k+1)=ofL [UInt8.ofNat (48+k)]:=by
 have:k=0\/k=1\/k=2\/k=3\/k=4\/k=5\/k=6\/k=7\/k=8\/k=9:=by omega
 rcases this with rfl|rfl|rfl|rfl|rfl|rfl|rfl|rfl|rfl|rfl<;>rfl
theorem E5q (m:Nat) (w:World) (hm:m<9218868437227405312) (Z:A8u m (-342)) (Y:¬A8u m 682):
 Calls Tryz.prog 176 #[.int .u64 (m:Int)] w λr w'=>(∃(x:Int) (l:LU8),-342<=x/\x<=682/\A8u m x/\¬A8u m (x+1)/\F1t m l 17 (x-16)/\r=.returned (.tuple #[.string (ofL l),.int .i64 (x-16)]))/\Fr (λ_=>False) w w':=by
 have HM:=hid hm;obtain⟨n,hn⟩:∃n,(A0w m).1=n:=⟨_,rfl⟩;obtain⟨E,hE⟩:∃E,(A0w m).2=E:=⟨_,rfl⟩;have hb:=B5c m hm;rw[hn,hE]at hb;have f:=hid (And.intro hn hE);clear hn hE hm;go_enter Tryz.func176,Tryz.ntmps176
 go_wp2_with fail
 refine(B1z m _ (by have:=HM.out;omega)).mono ?_;rintro e w1 ⟨rfl,rfl⟩;rw[f.1,f.2]
 go_upto_block 0 with fail
 have M:=hid (show D8p m (-342) 512 from⟨Z,by rw[if_neg (by omega)];exact Y⟩);clear Z Y
 go_cut [6] (λxv wc=>∃x:Int,xv=.int .i64 x/\ -342<=x/\x<=682/\Hid (A8u m x)/\Hid (A8u m (x+1)↔False)/\Hid (Fr (λ_=>False) w1 wc))
 case first=>
  go_wp2
  go_loopw [6,7] (λxv sv wr=>∃(x:Int) (s:Nat),xv=.int .i64 x/\sv=.int .i64 (s:Int)/\F1u s/\ -342<=x/\x+2*(s:Int)<=682/\Hid (D8p m x s)/\Hid (Fr (λ_=>False) w1 wr)) (λ_ sv _=>(intOf sv).toNat)
  case atStart=>exact⟨-342,512,rfl,rfl,by unfold F1u;omega,by omega,by omega,M,hid (Fr.refl _ _)⟩
  case round=>
   clear M;obtain⟨x,s,rfl,rfl,hs,N,b3,hI,b⟩:=hrel;by_cases h0:s=0
   ·subst h0
    obtain⟨X,I⟩:=hI.out;rw[if_pos rfl]at I;have D:=hid X;have v:=hid (iff_false_intro I);have O:x<=682:=by omega
    clear X I hI hs b3;go_wp2;go_meet;exact⟨x,rfl,N,O,D,v,b⟩
   ·have b6:0<s:=by omega
    have b9:s<=512:=by unfold F1u at hs;omega
    have HS:=hid hs;have HI:=hid (hI.next hs h0);clear hs h0 hI
    go_wp2_with fail
    refine(E5f false [49] (x+s) _ (by decide) (by intro c P;simp at P;subst P;decide) (by omega) (by omega)).mono ?_;rintro e w2 ⟨fv,rfl,K,p⟩;obtain⟨va,vb,xs,ys,rfl,F,G,R,S,T,U⟩:=K;have j:=hid (show A7b w2 (.agg #[va,vb]) (num (dv [49])*p10 (x+s).toNat) (p10 (-(x+s)).toNat) 9000000 from⟨va,vb,xs,ys,rfl,F,G,R,S,T,U⟩);obtain⟨pa,qa,rfl⟩:=A1e F;obtain⟨pb,qb,rfl⟩:=A1e G;have B:=hid (b.trans p);clear p b F G R S T U
    go_wp2_with fail
    refine(F7y _ _ _ 9000000 m n E _ _ _ HM.out f.1 f.2 rfl rfl (by omega) (j.fr ((Fr.refl _ _).alloc _))).mono ?_;rintro e w3 ⟨rfl,q⟩;have g:=hid ((B.alloc _).trans q);obtain⟨y,d⟩:∃y,A6d (num (dv [49])*p10 (x+s).toNat*p2 1074) (p10 (-(x+s)).toNat*V m)=y:=⟨_,rfl⟩
    have t:y<=0↔A8u m (x+s):=by
     rw[<-d,E5h];unfold A8u;rw[show num (dv [49])=1 from rfl,Nat.one_mul]
    rw[d];have o:=hid t;clear d t q j;by_cases P:y<=0
    ·have C:=hid (HI.1 (o.1 P))
     go_wp2;go_roundw
     case rel=>exact⟨x+s,s/2,by go_num,by go_num,HS.half,by omega,by omega,C,g⟩
     case measure=>simp[intOf];omega
    ·have C:=hid (HI.2 (λh=>P (o.2 h)))
     go_wp2;go_roundw
     case rel=>exact⟨x,s/2,rfl,by go_num,HS.half,by omega,by omega,C,g⟩
     case measure=>simp[intOf];omega
 case rest=>
  obtain⟨x,rfl,N,O,D,v,b⟩:=hcut;have A:=hid (F1t.start v.1);clear M;go_wp2
  go_loopw [10,11] (λdvv iv wq=>∃(l:LU8) (i:Nat),dvv=.string (ofL l)/\iv=.int .i64 (i:Int)/\i<=17/\Hid (F1t m l i (x-(i:Int)+1))/\Hid (Fr (λ_=>False) w1 wq)) (λ_ iv _=>17-(intOf iv).toNat)
  case atStart=>exact⟨[],0,rfl,rfl,by omega,A,b⟩
  case round=>
   clear A b;obtain⟨l,i,rfl,rfl,hi,H,b⟩:=hrel;by_cases z:i<17
   ·have HL:=hid H.2.1
    have hA:=hid H.1;have a4:=hid H.2.2.1;have a5:=hid (iff_false_intro H.2.2.2);clear H;have u:=hid ((CLe.shift m (num (dv l)) (x-(i:Int))).1 a4.out);have b7:decide ((i:Int)<17)=true:=dcT (by omega);have a:=hid z;clear z hi
    go_upto_block 4 with fail
    go_cut [12] (λkv wc=>∃k:Nat,kv=.int .i64 (k:Int)/\k<=9/\Hid (CLe m (10*num (dv l)+k) (x-(i:Int)))/\Hid (CLe m (10*num (dv l)+k+1) (x-(i:Int))↔False)/\Hid (Fr (λ_=>False) w1 wc))
    case first=>
     go_wp2
     go_loopw [12] (λkv wq=>∃k:Nat,kv=.int .i64 (k:Int)/\k<=9/\Hid (CLe m (10*num (dv l)+k) (x-(i:Int)))/\Hid (Fr (λ_=>False) w1 wq)) (λkv _=>9-(intOf kv).toNat)
     case atStart=>exact⟨0,rfl,Nat.zero_le _,u,b⟩
     case round=>
      clear b u;obtain⟨k,rfl,hk,hK,b⟩:=hrel;by_cases b0:k<9
      ·have b2:=E5i k b0
       have b4:=A0c l;have a0:=hid (D5f hA.out (k+1) (by omega));have a3:=hid (D2t l (k+1) (by omega));generalize J:UInt8.ofNat (48+(k+1))=cb at*;clear J;have b5:(ofL [cb]).size=1:=rfl;have a8:=A0j l [cb];have b1:l.length<=17:=by have:=HL.out;have:=a.out;omega
       have Q:=hid (show(l++[cb]).length<=4000000 by simp;omega);generalize L:l++[cb]=l' at*;clear L;have a9:(i:Int)<=16:=by have:=a.out;omega
       have b8:0<=(i:Int):=by omega
       go_wp2_with fail
       refine(E5f false l' (x-i) _ Q.out a0.out (by omega) (by omega)).mono ?_;rintro e w2 ⟨fv,rfl,K,p⟩;obtain⟨va,vb,xs,ys,rfl,F,G,R,S,T,U⟩:=K;have j:=hid (show A7b w2 (.agg #[va,vb]) (num (dv l')*p10 (x-i).toNat) (p10 (-(x-i)).toNat) 9000000 from⟨va,vb,xs,ys,rfl,F,G,R,S,T,U⟩);obtain⟨pa,qa,rfl⟩:=A1e F;obtain⟨pb,qb,rfl⟩:=A1e G;have B:=hid (b.trans p);clear p b F G R S T U
       go_wp2_with fail
       refine(F7y _ _ _ 9000000 m n E _ _ _ HM.out f.1 f.2 rfl rfl (by omega) (j.fr ((Fr.refl _ _).alloc _))).mono ?_;rintro e w3 ⟨rfl,q⟩;have g:=hid ((B.alloc _).trans q);obtain⟨y,d⟩:∃y,A6d (num (dv l')*p10 (x-i).toNat*p2 1074) (p10 (-(x-i)).toNat*V m)=y:=⟨_,rfl⟩
       have t:y<=0↔CLe m (10*num (dv l)+k+1) (x-i):=by
        rw[<-d,E5h];unfold CLe;rw[a3.out,show 10*num (dv l)+k+1=num (dv l)*10+(k+1) by omega]
       rw[d];have o:=hid t;clear d t q j;by_cases P:0<y
       ·have C:=hid (show CLe m (10*num (dv l)+k+1) (x-(i:Int))↔False from iff_false_intro λh=>by have:=o.2 h;omega)
        go_wp2;go_meet;exact⟨k,rfl,by omega,hK,C,g⟩
       ·have C:=hid (o.1 (by omega))
        go_wp2;go_roundw
        case rel=>exact⟨k+1,by go_num,by omega,C,g⟩
        case measure=>simp[intOf];omega
      ·obtain rfl:k=9:=by omega
       have a2:=hid (show CLe m (10*num (dv l)+9+1) (x-(i:Int))↔False from iff_false_intro λh=>a5.1 ((CLe.shift m (num (dv l)+1) (x-(i:Int))).2 (by rw[show 10*(num (dv l)+1)=10*num (dv l)+9+1 by omega];exact h)));go_wp2;go_meet;exact⟨9,rfl,Nat.le_refl _,hK,a2,b⟩
    case rest=>
     obtain⟨k,rfl,hk,a6,a7,W⟩:=hcut;have HF:=W;clear u b W;have b2:=D8s k (by omega);have b4:=A0c l;have b1:l.length<=17:=by have:=HL.out;have:=a.out;omega
     have a9:(i:Int)<=16:=by have:=a.out;omega
     have a1:=hid (show F1t m (l++[UInt8.ofNat (48+k)]) (i+1) (x-((i+1:Nat):Int)+1)from
      ⟨D5f hA.out k (by omega),by have:=HL.out;simp;omega,by
       rw[D2t l k (by omega),show x-((i+1:Nat):Int)+1=x-(i:Int) by omega,Nat.mul_comm];exact a6.out,by
       rw[D2t l k (by omega),show x-((i+1:Nat):Int)+1=x-(i:Int) by omega,Nat.mul_comm];exact a7.1⟩)
     generalize J:UInt8.ofNat (48+k)=cb at*;clear J;have b5:(ofL [cb]).size=1:=rfl;have a8:=A0j l [cb];generalize L:l++[cb]=l' at*;clear L;go_wp2;go_roundw
     case rel=>exact⟨l',i+1,rfl,by go_num,by have:=a.out;omega,a1,HF⟩
     case measure=>have:=a.out;simp[intOf];omega
   ·obtain rfl:i=17:=by omega
    have HD:=H;clear H;go_wp2;go_ret2;exact⟨⟨x,l,N,O,D.out,v.1,by have:=HD.out;rwa[show x-((17:Nat):Int)+1=x-16 by omega]at this,rfl⟩,b.out⟩
theorem E5r (K m c:Nat) (X:Int) (a:m≠0) (b: -(K:Int)<=X):F5j (c*p10 X.toNat) (p10 (-X).toNat) m=true↔InV (p10 K*V m) (p10 K*A7j m) (p10 K*A7d m) (m % 2=0) (c*TK K X):=by
 rw[F1s _ _ _ a,<-D5g _ _ _ a,<-F1w K c X m b];unfold A3u pP;rw[Nat.mul_assoc]
def C2a (m c:Nat) (X:Int):Int:= -(A6d ((c*p10 X.toNat*p10 (-X).toNat+(c+1)*p10 X.toNat*p10 (-X).toNat)*2^(-(((A0w m).2:Int)-1074)).toNat) (p10 (-X).toNat*p10 (-X).toNat*(2*(A0w m).1)*2^(((A0w m).2:Int)-1074).toNat))
theorem F1x (K m c:Nat) (X:Int) (q: -(K:Int)<=X):C2a m c X= -(A6d (2*(c*TK K X)+TK K X) (2*(p10 K*V m))):=by
 unfold C2a;refine congrArg Neg.neg ?_;rw[B2p _ _ (A0w m).2 1074 (((A0w m).2:Int)-1074) (by omega)];have f:p10 (X+K).toNat=p10 X.toNat*p10 (K-(-X).toNat):=by rw[<-A1h];congr 1;omega
 have g:p10 K=p10 (-X).toNat*p10 (K-(-X).toNat):=by rw[<-A1h];congr 1;omega
 have i:=A0v (K-(-X).toNat);have h:=A0v (-X).toNat;unfold TK;rw[f,g,B1a m];generalize p10 (K-(-X).toNat)=z at*;generalize p10 X.toNat=p at*;generalize p10 (-X).toNat=b at*;generalize p2 1074=s;generalize (A0w m).1=n;generalize p2 (A0w m).2=t
 have j:(c*p*b+(c+1)*p*b)*s=(2*(c*(p*s))+p*s)*b:=by
  have a:c*p*b*s=c*(p*s)*b:=by simp only[Nat.mul_left_comm,Nat.mul_comm]
  have e:(c+1)*p*b*s=c*(p*s)*b+p*s*b:=by
   have:(c+1)*p*b*s=(c+1)*(p*s)*b:=by generalize c+1=d;simp only[Nat.mul_left_comm,Nat.mul_comm]
   rw[this,Nat.add_mul,Nat.one_mul,Nat.add_mul]
  rw[Nat.add_mul,a,e,Nat.add_mul,Nat.mul_assoc 2];omega
 have k:b*b*(2*n)*t=2*(b*(n*t))*b:=by simp only[Nat.mul_assoc,Nat.mul_left_comm,Nat.mul_comm]
 have l:(2*(c*(p*s))+p*s)*z=2*(c*(p*z*s))+p*z*s:=by
  have a:p*z*s=p*s*z:=Nat.mul_right_comm ..;rw[a,Nat.add_mul,Nat.mul_assoc 2,Nat.mul_assoc c]
 have o:2*(b*(n*t))*z=2*(b*z*(n*t)):=by
  have a:b*z*(n*t)=b*(n*t)*z:=Nat.mul_right_comm ..;rw[a,Nat.mul_assoc 2]
 rw[j,k,B0f _ _ b h,<-B0f _ _ z i,l,o]
theorem C9r (K m c:Nat) (X:Int) (d: -(K:Int)<=X):(C2a m c X<0\/(C2a m c X=0/\c % 2=0))↔C1z (p10 K*V m) c (TK K X):=by
 rw[F1x K m c X d];unfold C1z;have a:=C6j (2*(c*TK K X)+TK K X) (2*(p10 K*V m));have b:=D2q (2*(c*TK K X)+TK K X) (2*(p10 K*V m));constructor
 ·rintro(h|⟨h,e⟩)
  ·left;exact a.1 (by omega)
  ·right;exact⟨(b.1 (by omega)).symm,e⟩
 ·rintro(h|⟨h,e⟩)
  ·left;have:=a.2 h;omega
  ·right;exact⟨by have:=b.2 h.symm;omega,e⟩
structure RefS (m D:Nat) (pw x:Int) (l:LU8):Prop where
 s:B1e m D pw
 m0:m≠0
 pw1: -5000<=pw
 x1: -342<=x
 x2:x<=682
 lo:A8u m x
 hi:¬A8u m (x+1)
 d:F1t m l 17 (x-16)
def cN (l:LU8) (i:Nat):Nat:=num (dv (l.take i))
def RIn (m c:Nat) (X:Int):Prop:=InV (p10 6000*V m) (p10 6000*A7j m) (p10 6000*A7d m) (m % 2=0) (c*TK 6000 X)
def F8a (m:Nat) (x:Int) (l:LU8) (i:Nat):Prop:=∀j:Nat,1<=j->j<i->¬RIn m (cN l j) (x+1-j)/\¬RIn m (cN l j+1) (x+1-j)
theorem RefS.h1 {m D:Nat} {a x:Int} {l:LU8} (h:RefS m D a x l):TK 6000 x<=p10 6000*V m:=by
 have:=(E5m 6000 m 1 x (by have:=h.x1;omega)).1 ((D2s m x).1 h.lo);rwa[Nat.one_mul]at this
theorem RefS.h2 {m D:Nat} {b x:Int} {l:LU8} (h:RefS m D b x l):p10 6000*V m<10*TK 6000 x:=by
 have a:=h.hi;rw[D2s,E5m 6000 m 1 (x+1) (by have:=h.x1;omega),Nat.one_mul,B6k 6000 x (by have:=h.x1;omega)]at a;omega
theorem RefS.hc {m D:Nat} {c x:Int} {l:LU8} (h:RefS m D c x l) (j:Nat) (a:1<=j) (b:j<=17):
 cN l j*TK 6000 (x+1-j)<=p10 6000*V m/\p10 6000*V m<cN l j*TK 6000 (x+1-j)+TK 6000 (x+1-j):=
 h.d.take 6000 (by have:=h.x1;omega) j a b
theorem RefS.head {m D:Nat} {f x:Int} {l:LU8} (h:RefS m D f x l):l.head? ≠some 48:=by
 intro e;have i:=h.d.2.1;have g:=h.h1;have a:=(h.hc 1 (by omega) (by omega)).2;rw[show x+1-((1:Nat):Int)=x by omega]at a
 have b:cN l 1=0:=by
  unfold cN;cases l with
  |nil=>rfl
  |cons c r=>
   have:c=48:=by simpa using e
   subst this;rfl
 rw[b,Nat.zero_mul,Nat.zero_add]at a;omega
theorem RefS.dgs {m D:Nat} {b x:Int} {l:LU8} (h:RefS m D b x l) (i:Nat) (f:1<=i) (g:i<=17):l.take i=dgs (cN l i):=by
 have a:=h.d.2.1;refine G2c (h.d.1.take i) ?_ ?_
 ·intro e
  have:=congrArg List.length e;rw[List.length_take,a,List.length_nil]at this;omega
 ·have:=h.head
  cases l with
  |nil=>simp at a
  |cons c r=>
   cases i with
   |zero=>omega
   |succ i=>simpa using this
theorem RefS.end {m D:Nat} {d x:Int} {l:LU8} (h:RefS m D d x l) (i:Nat) (g:1<=i) (k:i<=17) (e:F8a m x l i):
 (RIn m (cN l i) (x+1-i)->(¬RIn m (cN l i+1) (x+1-i)\/C1z (p10 6000*V m) (cN l i) (TK 6000 (x+1-i)))->cN l i=D/\x+1-i=d)/\
 (RIn m (cN l i+1) (x+1-i)->(¬RIn m (cN l i) (x+1-i)\/¬C1z (p10 6000*V m) (cN l i) (TK 6000 (x+1-i)))->(cN l i+1=D/\x+1-i=d)\/(i=1/\cN l i=9/\D=1/\d=x+1))/\
 (i=17->(C1z (p10 6000*V m) (cN l i) (TK 6000 (x-16))->cN l i=D/\x-16=d)/\(¬C1z (p10 6000*V m) (cN l i) (TK 6000 (x-16))->cN l i+1=D/\x-16=d)):=by
 have o:=h.x1;have n:=h.pw1
 have f:=h.s.ref (K:=6000) (c:=cN l) (x:=x) (i:=i) h.m0 (by omega) (by omega) (by omega) h.h1 h.h2 h.hc g k (λj a b=>by
  have:=e j a b;unfold RIn at this
  rwa[<-C9p]at this)
 unfold RIn;rw[<-C9p];exact f
theorem B8h {D:Nat} (h:D % 10≠0):A2e (A1g (dgs D))=dgs D/\((A1g (dgs D)).length:Int)=((dgs D).length:Int):=by
 rw[C9q D (by omega)];exact⟨D8r (F1v D h),rfl⟩
theorem F1y:A2e (A1g (dgs 10))=dgs 1/\(A1g (dgs 10)).length=2:=by
 rw[C9q 10 (by omega),A9h (by omega),A6a (by omega)];exact⟨rfl,rfl⟩
theorem D8t (l:LU8) (i:Nat):(ofL l).extract 0 i=ofL (l.take i):=by
 apply ByteArray.ext;simp[ofL]
def A6e (w:World) (b:Nat) (x y z:Value):Prop:=w.heap[b]? =some (.cells #[x,y,z] 194 (0,0))
def E0t (w:World) (b:Nat) (x y:Value):Prop:=w.heap[b]? =some (.cells #[x,y] 228 (0,0))
theorem A6e.fr {w w':World} {b:Nat} {x y z:Value} (h:A6e w b x y z) (a:Fr (λ_=>False) w w'):A6e w' b x y z:=a.heap h id
theorem E0t.fr {w w':World} {b:Nat} {x y:Value} (h:E0t w b x y) (a:Fr (λ_=>False) w w'):E0t w' b x y:=a.heap h id
theorem A6e.new (w:World) (x y z:Value):A6e (w.alloc (.cells #[x,y,z] 194)) w.heap.size x y z:=heap_alloc_new w _
theorem E0t.new (w:World) (x y:Value):E0t (w.alloc (.cells #[x,y] 228)) w.heap.size x y:=heap_alloc_new w _
theorem A6e.c {w:World} {b:Nat} {x y z:Value} (h:A6e w b x y z):w.cell? ⟨b,0,none⟩=some x/\w.cell? ⟨b,1,none⟩=some y/\w.cell? ⟨b,2,none⟩=some z:=⟨A1b h,A0t h,A1c h⟩
theorem E0t.c {w:World} {b:Nat} {x y:Value} (h:E0t w b x y):w.cell? ⟨b,0,none⟩=some x/\w.cell? ⟨b,1,none⟩=some y:=⟨A4r h,A4s h⟩
theorem D5h {l:LU8} {i c:Nat} (f:A4h l) (a:i-1<l.length) (g:1<=i) (b:num (dv (l.take i))=c):∃d:Nat,((ofL l)[i-1]'(by rw[A0c];exact a)).toNat=48+d/\d<=9/\d % 2=c % 2:=by
 obtain⟨j,rfl⟩:∃j,i=j+1:=⟨i-1,by omega⟩;rw[Nat.add_sub_cancel]at a;have e:=f l[j] (List.getElem_mem a);unfold isD at e;simp at e;refine⟨l[j].toNat-48,?_,by omega,?_⟩
 ·show l[j].toNat=_
  omega
 ·rw[List.take_succ_eq_append_getElem a,A4d]at b
  have:num (dv (l.take j)++[l[j].toNat-48])=c:=b;rw[A4x]at this;omega
theorem C3s (m D:Nat) (U:Int) (w:World) (hS:B1e m D U) (g7:m≠0) (hm:m<9218868437227405312) (c0: -5000<=U) (g6:A8u m (-342)) (g4:¬A8u m 682):
 Calls Tryz.prog 132 #[.int .u64 (m:Int)] w λe w'=>e=.returned (.tuple #[.string (ofL (dgs D)),.int .i64 U])/\Fr (λ_=>False) w w':=by
 have HM:=hid hm;have A:=hid g7;have HS:=hid hS;have e6:=hid (λw=>E5q m w hm g6 g4);have g8:=hid c0;clear hm g7 hS g6 g4 c0;go_enter Tryz.func132,Tryz.ntmps132
 go_wp2_with fail
 refine(e6.out w).mono ?_;rintro e w1 ⟨⟨x,l,i2,i3,g1,g2,hD,rfl⟩,g0⟩;have Z:=hid (show RefS m D U x l from⟨HS.out,A.out,g8.out,i2,i3,g1,g2,hD⟩);have a8:l.length=17:=hD.2.1;have i8:(ofL l).size=17:=by rw[A0c];exact a8
 have HL:=hid a8;have e1:=hid g0;clear e6 g1 g2 hD g0 a8;go_wp2
 go_loopw [6] (λnv wr=>∃i:Nat,nv=.int .i64 (i:Int)/\1<=i/\i<=17/\Hid (F8a m x l i)/\Hid (Fr (λ_=>False) w wr)) (λnv _=>17-(intOf nv).toNat)
 case atStart=>exact⟨1,rfl,by omega,by omega,hid (λj a b=>absurd b (by omega)),e1⟩
 case round=>
  clear e1;obtain⟨i,rfl,d7,g5,hN,hF⟩:=hrel;by_cases i0:i<17
  ·have d4:=D8t l i
   have H:=Z.dgs i d7 g5;rw[H]at d4;have d3:(dgs (cN l i)).length=i:=by rw[<-H,List.length_take,HL.out];omega
   have i4:(ofL (dgs (cN l i))).size=i:=by rw[A0c];exact d3
   have T:=hid (λw=>C9m (dgs (cN l i)) w (by omega) (B2g _));have B:=hid d3;obtain⟨c,hc⟩:∃c,cN l i=c:=⟨_,rfl⟩;obtain⟨X,hX⟩:∃X:Int,x-16+17-(i:Int)=X:=⟨_,rfl⟩;have i5: -400<=X/\X<=700:=by omega
   have HX:=hid (show x+1-(i:Int)=X by omega);have HC:=hid hc;rw[hc]at d4 i4 T B;clear d3 H hc
   have d2:c<p10 17:=by
    have:=A7i _ (Z.d.1.take i).digs;rw[A3e,List.length_take,HL.out]at this;have e:=HC.out;unfold cN at e;rw[e]at this;exact Nat.lt_of_lt_of_le this (A3r _ _ (by omega))
   rw[F5k]at d2
   go_wp2_with fail
   refine(T.out _).mono ?_;rintro e P ⟨rfl,O⟩;rw[F5i]at*;have b2:(dgs (c+1)).length<=20:=A2b _ (by omega);have M:=hid b2;have T7:=hid ((A6e.new wr (.bool false) (.string (ofL (dgs c))) (.int .i64 X)).fr O);have a0:=hid ((hF.alloc _).trans O);have b7:wr.heap.size<P.heap.size:=lt_of_block T7.out;clear O T d4 b2;have I:=λo=>(T7.fr ((Fr.refl _ P).alloc o)).c.1
   have J:=λo=>(T7.fr ((Fr.refl _ P).alloc o)).c.2.1
   have W:=λo=>(T7.fr ((Fr.refl _ P).alloc o)).c.2.2
   go_wp2_with fail
   refine(C9j false (dgs c) X 2000 _ (by have:=B.out;omega) (B2g c) (by omega) (by omega) (by have:=B.out;omega)).mono ?_;rintro e w3 ⟨fv,rfl,d5,b4⟩;rw[C5h]at d5;have e7:=hid d5;obtain⟨va,vb,xs,ys,rfl,c1,c2,c3⟩:=d5;obtain⟨pa,qa,rfl⟩:=A1e c1;obtain⟨pb,qb,rfl⟩:=A1e c2;generalize xs.length=na at*;generalize ys.length=nb at*;have e9:=hid ((T7.fr ((Fr.refl _ P).alloc _)).fr b4);have a6:=hid ((A6e.new P (.bool false) (.string (ofL (dgs (c+1)))) (.int .i64 X)).fr b4);have e2:=hid ((a0.alloc _).trans b4);clear b4 a0 T7 I J W c1 c2 c3;have I:=λo=>(a6.fr ((Fr.refl _ w3).alloc o)).c.1
   have J:=λo=>(a6.fr ((Fr.refl _ w3).alloc o)).c.2.1
   have W:=λo=>(a6.fr ((Fr.refl _ w3).alloc o)).c.2.2
   go_wp2_with fail
   refine(C9j false (dgs (c+1)) X 2000 _ (by have:=M.out;omega) (B2g (c+1)) (by omega) (by omega) (by have:=M.out;omega)).mono ?_;rintro e w4 ⟨fv,rfl,d6,R⟩;rw[C5h]at d6;have e8:=hid d6;obtain⟨va,vb,xs,ys,rfl,c1,c2,c3⟩:=d6;obtain⟨pc,qc,rfl⟩:=A1e c1;obtain⟨pd,qd,rfl⟩:=A1e c2;generalize xs.length=nc at*;generalize ys.length=nd at*;have f3:=hid ((e9.fr ((Fr.refl _ w3).alloc _)).fr R);have f6:=hid ((a6.fr ((Fr.refl _ w3).alloc _)).fr R);have b3:=hid ((E0t.new w3 (.slice pa na qa) (.slice pb nb qb)).fr R);have a3:=hid ((e7.fr ((Fr.refl _ w3).alloc (.cells #[.slice pa na qa,.slice pb nb qb] 228))).fr R);have e3:=hid ((e2.alloc _).trans R);clear R e2 e9 a6 I J W e7 c1 c2 c3;have I:=λo=>(b3.fr ((Fr.refl _ w4).alloc o)).c.1
   have J:=λo=>(b3.fr ((Fr.refl _ w4).alloc o)).c.2
   go_wp2_with fail
   refine(C3q _ _ _ 2000 m _ (by omega) A.out HM.out (a3.fr ((Fr.refl _ w4).alloc _))).mono ?_;rintro e w5 ⟨rfl,F⟩;have f4:=hid ((f3.fr ((Fr.refl _ w4).alloc _)).fr F);have f7:=hid ((f6.fr ((Fr.refl _ w4).alloc _)).fr F);have f9:=hid ((b3.fr ((Fr.refl _ w4).alloc _)).fr F);have Q:=hid ((E0t.new w4 (.slice pc nc qc) (.slice pd nd qd)).fr F);have b6:=hid ((a3.fr ((Fr.refl _ w4).alloc (.cells #[.slice pc nc qc,.slice pd nd qd] 228))).fr F);have a4:=hid ((e8.fr ((Fr.refl _ w4).alloc (.cells #[.slice pc nc qc,.slice pd nd qd] 228))).fr F);have e4:=hid ((e3.alloc _).trans F);have IA:=hid (E5r 6000 m c X A.out (by omega));have IB:=hid (E5r 6000 m (c+1) X A.out (by omega));have NL:=hid (C9r 6000 m c X (by omega));clear F e3 f3 f6 b3 a3 e8 I J;have I:=Q.c.1;have J:=Q.c.2;generalize F5j (c*p10 X.toNat) (p10 (-X).toNat) m=ia at*
   go_wp2_with fail
   refine(C3q _ _ _ 2000 m _ (by omega) A.out HM.out a4.out).mono ?_;rintro e w6 ⟨rfl,G⟩;have f5:=hid (f4.fr G);have f8:=hid (f7.fr G);have c9:=hid (f9.fr G);have a5:=hid (Q.fr G);have b8:=hid (b6.fr G);have b9:=hid (a4.fr G);have e5:=hid (e4.trans G);clear G e4 f4 f7 f9 Q b6 a4 I J;have I:=a5.c.1;have J:=a5.c.2;have W:=c9.c.1;have q3:=c9.c.2;generalize F5j ((c+1)*p10 X.toNat) (p10 (-X).toNat) m=ib at*
   go_wp2_with fail
   refine(C3r _ _ _ _ _ _ 2000 m _ (by omega) HM.out b8.out b9.out).mono ?_;rintro e w7 ⟨rfl,b5⟩;have c7:=hid (f5.fr b5);have c8:=hid (f8.fr b5);have c4:=hid (e5.trans b5);clear b5 e5 f5 f8 c9 a5 b8 b9 I J W q3
   change Hid ((C2a m c X<0\/(C2a m c X=0/\c % 2=0))↔_)at NL
   obtain⟨v,e0⟩:∃v,C2a m c X=v:=⟨_,rfl⟩;have b1:=e0;unfold C2a at b1;rw[b1];rw[e0]at NL;clear e0 b1;have b0:=D5h Z.d.1 (by rw[HL.out];omega) d7 (by have:=HC.out;unfold cN at this;exact this)
   go_upto_region 13 with fail
   generalize (ofL l)[i-1].toNat=la at*;have a9:((la:Int)-48) % 2=((c % 2:Nat):Int):=by obtain⟨d,E,u,h3⟩:=b0;omega
   generalize ((la:Int)-48) % 2=lp at*;have L:=hid a9;clear a9 b0
   go_cut [84] (λb wc=>b=.bool (ia&&(!ib||decide (v<0\/(v=0/\c % 2=0))))/\wc=w7)
   case first=>
    have d1:c % 2=0\/c % 2=1:=by omega
    cases ia
    ·go_wp2
     go_meet;exact⟨by rw[Bool.false_and],rfl⟩
    ·cases ib
     ·go_wp2
      go_meet;exact⟨by rw[Bool.not_false,Bool.true_or,Bool.true_and],rfl⟩
     ·by_cases d9:v<0
      ·go_wp2
       go_meet;exact⟨by rw[dcT (.inl d9)];rfl,rfl⟩
      ·by_cases d8:v=0
       ·subst d8
        rcases d1 with u|u
        ·have hq:(lp==0)=true:=by have:=L.out;rw[beq_iff_eq];omega
         have H2:=hid u;clear u;go_wp2;go_meet;exact⟨by simp[H2.out],rfl⟩
        ·have hq:(lp==0)=false:=by have:=L.out;rw[beq_eq_false_iff_ne];omega
         have H2:=hid u;clear u;go_wp2;go_meet;exact⟨by have:=H2.out;rw[dcF (by omega)];rfl,rfl⟩
       ·go_wp2
        go_meet;exact⟨by rw[dcF (by omega)];rfl,rfl⟩
   case rest=>
    obtain⟨rfl,rfl⟩:=hcut;have HE:=hid (Z.end i d7 g5 hN.out);rw[HC.out,HX.out]at HE;unfold RIn at HE;have ha:=IA.out;have hb:=IB.out;have hl:=NL.out;obtain⟨E1,E2,_⟩:=HE.out
    have K:=hid (show(ia&&(!ib||decide (v<0\/(v=0/\c % 2=0))))=true->c=D/\X=U by
     intro hd;rw[Bool.and_eq_true,Bool.or_eq_true,Bool.not_eq_true',decide_eq_true_eq,hl]at hd;refine E1 (ha.1 hd.1) ?_;rcases hd.2 with h|h
     ·left;rw[<-hb,h];exact Bool.false_ne_true
     ·exact .inr h)
    have N:=hid (show(ia&&(!ib||decide (v<0\/(v=0/\c % 2=0))))=false->ib=true->(c+1=D/\X=U)\/(c=9/\D=1/\U=X+1) by
     intro hd g3
     have hh:¬InV (p10 6000*V m) (p10 6000*A7j m) (p10 6000*A7d m) (m % 2=0) (c*TK 6000 X)\/¬C1z (p10 6000*V m) c (TK 6000 X):=by
      rw[g3,Bool.and_eq_false_iff]at hd;rcases hd with h|h
      ·left;rw[<-ha,h];exact Bool.false_ne_true
      ·right
       rw[Bool.not_true,Bool.false_or,decide_eq_false_iff_not,hl]at h;exact h
     rcases E2 (hb.1 g3) hh with h|⟨E,u,h3,h4⟩
     ·exact .inl h
     ·right
      refine⟨u,h3,?_⟩;have:=HX.out
      omega)
    have c6:=hid (show ia=false->ib=false->F8a m x l (i+1) by
     intro E u j i1 i7;by_cases e:j=i
     ·subst e
      rw[HC.out,HX.out];unfold RIn;rw[<-ha,<-hb,E,u];exact⟨Bool.false_ne_true,Bool.false_ne_true⟩
     ·exact hN.out j i1 (by omega))
    have c5:=hid (show(ia&&(!ib||decide (v<0\/(v=0/\c % 2=0))))=false->ib=false->ia=false by
     intro E u;rw[u]at E
     simpa using E)
    clear ha hb hl E1 E2 IA IB NL HE L;have I:=c7.c.1;have J:=c7.c.2.1;have W:=c7.c.2.2;have r0:=c8.c.1;have r1:=c8.c.2.1;have r2:=c8.c.2.2;generalize (ia&&(!ib||decide (v<0\/(v=0/\c % 2=0))))=dn at*;cases dn
    ·cases ib
     ·have HZ:=hid (c6.out (c5.out rfl rfl) rfl)
      go_wp2;go_roundw
      case rel=>exact⟨i+1,by go_num,by omega,by omega,HZ,c4⟩
      case measure=>simp[intOf];omega
     ·have HU:=hid (N.out rfl rfl)
      clear N K c6 c5
      go_wp2_with fail
      refine(B5d false (dgs (c+1)) X _ (by have:=M.out;omega) (by omega) (by omega)).mono ?_;rintro e w8 ⟨rfl,t⟩;have z:=hid ((c4.trans t).alloc (.cells #[.bool false,.string (ofL (A2e (A1g (dgs (c+1))))),.int .i64 (X+((A1g (dgs (c+1))).length:Int)-((A2e (A1g (dgs (c+1)))).length:Int))] 194))
      have f:A2e (A1g (dgs (c+1)))=dgs D/\X+((A1g (dgs (c+1))).length:Int)-((A2e (A1g (dgs (c+1)))).length:Int)=U:=by
       rcases HU.out with⟨E,u⟩|⟨E,u,h3⟩
       ·obtain⟨a1,a2⟩:=B8h (Z.s.last A.out)
        rw[E,a1,a2];exact⟨rfl,by omega⟩
       ·obtain⟨a1,a2⟩:=F1y
        rw[E,u,a1,a2,show(dgs 1).length=1 from F1n 1 (by omega)];exact⟨rfl,by omega⟩
      rw[f.1]at z ⊢;rw[f.1]at f;rw[f.2]at z ⊢;clear t f I J W r0 r1 r2;go_wp2;go_region
      all_goals
       go_wp2;go_ret2;exact⟨rfl,by first|exact z.out|exact z.drew⟩
    ·have HU:=hid (K.out rfl)
     clear N K c6 c5
     go_wp2_with fail
     refine(B5d false (dgs c) X _ (by have:=B.out;omega) (by omega) (by omega)).mono ?_;rintro e w8 ⟨rfl,t⟩;have z:=hid ((c4.trans t).alloc (.cells #[.bool false,.string (ofL (A2e (A1g (dgs c)))),.int .i64 (X+((A1g (dgs c)).length:Int)-((A2e (A1g (dgs c))).length:Int))] 194))
     have f:A2e (A1g (dgs c))=dgs D/\X+((A1g (dgs c)).length:Int)-((A2e (A1g (dgs c))).length:Int)=U:=by
      obtain⟨E,u⟩:=HU.out;obtain⟨a1,a2⟩:=B8h (Z.s.last A.out);rw[E,a1,a2];exact⟨rfl,by omega⟩
     rw[f.1]at z ⊢;rw[f.1]at f;rw[f.2]at z ⊢;clear t f I J W r0 r1 r2;go_wp2;go_region
     all_goals
      go_wp2;go_ret2;exact⟨rfl,by first|exact z.out|exact z.drew⟩
  ·obtain rfl:i=17:=by omega
   obtain⟨c,hc⟩:∃c,cN l 17=c:=⟨_,rfl⟩;have H:=Z.dgs 17 (by omega) (by omega);have ht:l.take 17=l:=List.take_of_length_le (by rw[HL.out];omega);rw[ht,hc]at H;have HE:=hid ((Z.end 17 (by omega) (by omega) hN.out).2.2 rfl);rw[hc]at HE;have b0:=D5h Z.d.1 (i:=17) (by rw[HL.out];omega) (by omega) (show _=c from hc)
   have d2:c<p10 17:=by
    have:=A7i _ Z.d.1.digs;rw[A3e,HL.out]at this;rw[<-hc,cN,ht];exact this
   rw[F5k]at d2;have b2:(dgs (c+1)).length<=20:=A2b _ (by omega);obtain⟨Y,hY⟩:∃Y:Int,x-16=Y:=⟨_,rfl⟩;have i6: -400<=Y/\Y<=700:=by omega
   have T:=hid (λw=>C9m (dgs c) w (by rw[<-H,HL.out];omega) (B2g _));have B:=hid (show(dgs c).length=17 by rw[<-H];exact HL.out);have M:=hid b2;rw[hY]at HE ⊢;clear hY ht hc b2 i0;subst H
   go_wp2_with fail
   refine(T.out _).mono ?_;rintro e P ⟨rfl,O⟩;rw[F5i]at*;have T7:=hid ((A6e.new wr (.bool false) (.string (ofL (dgs c))) (.int .i64 Y)).fr O);have a0:=hid ((hF.alloc _).trans O);clear O T
   go_wp2_with fail
   have N7:=hid (T7.fr ((Fr.refl _ P).alloc (.cells #[.bool false,.string (ofL (dgs (c+1))),.int .i64 Y] 194)));have N8:=hid (A6e.new P (.bool false) (.string (ofL (dgs (c+1)))) (.int .i64 Y));have NF:=hid (a0.alloc (.cells #[.bool false,.string (ofL (dgs (c+1))),.int .i64 Y] 194));clear T7 a0;generalize P.alloc (.cells #[.bool false,.string (ofL (dgs (c+1))),.int .i64 Y] 194)=W0 at*;have HX:=hid (λwx=>C9j false (dgs c) Y 2000 wx (by have:=B.out;omega) (B2g c) (by omega) (by omega) (by have:=B.out;omega));have HY:=hid (λwx=>C9j false (dgs (c+1)) Y 2000 wx (by have:=M.out;omega) (B2g (c+1)) (by omega) (by omega) (by have:=M.out;omega));have h0:=N7.c.1;have h5:=N7.c.2.1;have h6:=N7.c.2.2;have h7:=N8.c.1;have h8:=N8.c.2.1;have h9:=N8.c.2.2
   go_cut [19] (λnv wc=>nv=.int .i64 (C2a m c Y)/\Hid (A6e wc wr.heap.size (.bool false) (.string (ofL (dgs c))) (.int .i64 Y))/\Hid (A6e wc P.heap.size (.bool false) (.string (ofL (dgs (c+1)))) (.int .i64 Y))/\Hid (Fr (λ_=>False) w wc))
   case first=>
    have k:=hid (N7.fr ((Fr.refl (λ_=>False) W0).drew));have n:=hid (N8.fr ((Fr.refl (λ_=>False) W0).drew));have y:=hid (NF.trans ((Fr.refl (λ_=>False) W0).drew))
    go_region_held3 (λw'=>w'.cell? ⟨wr.heap.size,0,none⟩=some (.bool false)/\w'.cell? ⟨wr.heap.size,1,none⟩=some (.string (ofL (dgs c)))/\w'.cell? ⟨wr.heap.size,2,none⟩=some (.int .i64 Y)/\w'.cell? ⟨P.heap.size,0,none⟩=some (.bool false)/\w'.cell? ⟨P.heap.size,1,none⟩=some (.string (ofL (dgs (c+1))))/\w'.cell? ⟨P.heap.size,2,none⟩=some (.int .i64 Y)) (first|go_keep|exact⟨k.c.1,k.c.2.1,k.c.2.2,n.c.1,n.c.2.1,n.c.2.2⟩) (first
     |(go_at_call_of 178 (Value.agg #[.bool false,.string (ofL (dgs c)),.int .i64 Y]);refine Calls.mono (HX.out _) ?_;rintro r wX ⟨vX,rfl,x1,x4⟩;rw[C5h]at x1;have X1:=hid x1;have M7:=hid (k.fr x4);have M8:=hid (n.fr x4);have MF:=hid (y.trans x4);clear k n y;have k:=M7;have n:=M8;have y:=MF;clear M7 M8 MF;have i9:=k.c.1;have j0:=k.c.2.1;have j1:=k.c.2.2;have j2:=n.c.1;have j3:=n.c.2.1;have j4:=n.c.2.2;clear x1 x4)
     |(go_at_call 178;refine Calls.mono (HY.out _) ?_;rintro r wY ⟨vY,rfl,y1,y4⟩;rw[C5h]at y1;have Y1:=hid y1;have X2:=hid (X1.fr y4);have M7:=hid (k.fr y4);have M8:=hid (n.fr y4);have MF:=hid (y.trans y4);clear k n y;have k:=M7;have n:=M8;have y:=MF;clear M7 M8 MF;have j5:=k.c.1;have j6:=k.c.2.1;have j7:=k.c.2.2;have j8:=n.c.1;have j9:=n.c.2.1;have k0:=n.c.2.2;clear y1 y4)
     |(go_at_call 180;refine Calls.mono (C3r _ _ _ _ _ _ 2000 m _ (by omega) HM.out X2.out Y1.out) ?_;rintro r wZ ⟨rfl,z4⟩;have M7:=hid (k.fr z4);have M8:=hid (n.fr z4);have MF:=hid (y.trans z4);clear k n y;have k:=M7;have n:=M8;have y:=MF;clear M7 M8 MF;have k1:=k.c.1;have k2:=k.c.2.1;have k3:=k.c.2.2;have k4:=n.c.1;have k5:=n.c.2.1;have k6:=n.c.2.2;clear z4))
    all_goals
     go_wp2;go_meet;exact⟨rfl,k,n,y⟩
   case rest=>
    obtain⟨rfl,S,a7,d0⟩:=hcut;clear N7 N8 NF HX HY h0 h5 h6 h7 h8 h9;have NL:=hid (C9r 6000 m c Y (by omega));generalize C2a m c Y=v at*;have I:=S.c.1;have J:=S.c.2.1;have W:=S.c.2.2;have r0:=a7.c.1;have r1:=a7.c.2.1;have r2:=a7.c.2.2
    go_upto_region 24 with fail
    generalize (ofL (dgs c))[16].toNat=la at*;have a9:((la:Int)-48) % 256 % 2=((c % 2:Nat):Int):=by obtain⟨d,E,u,h3⟩:=b0;omega
    generalize ((la:Int)-48) % 256 % 2=lp at*;have L:=hid a9;clear a9 b0;have B7:wr.heap.size<wc.heap.size:=lt_of_block S.out;have g:w.heap.size<=wc.heap.size:=d0.size;have B8:P.heap.size<wc.heap.size:=lt_of_block a7.out;have P7:=hid (S.fr ((Fr.refl _ wc).alloc (.cells #[.bool false,.string (ofL (dgs (c+1))),.int .i64 Y] 194)));have C:=hid (A6e.new wc (.bool false) (.string (ofL (dgs (c+1)))) (.int .i64 Y));have PF:=hid (d0.alloc (.cells #[.bool false,.string (ofL (dgs (c+1))),.int .i64 Y] 194));clear S a7 d0 I J W r0 r1 r2;generalize wc.alloc (.cells #[.bool false,.string (ofL (dgs (c+1))),.int .i64 Y] 194)=W1 at*;generalize wc.heap.size=B21 at*
    go_cut [125] (λb wd=>b=.bool (decide (v<0\/(v=0/\c % 2=0)))/\wd=W1)
    case first=>
     have d1:c % 2=0\/c % 2=1:=by omega
     by_cases d9:v<0
     ·go_wp2
      go_meet;exact⟨by rw[dcT (.inl d9)],rfl⟩
     ·by_cases d8:v=0
      ·subst d8
       rcases d1 with u|u
       ·have hq:(lp==0)=true:=by have:=L.out;rw[beq_iff_eq];omega
        have H2:=hid u;clear u;go_wp2;go_meet;exact⟨by simp[H2.out],rfl⟩
       ·have hq:(lp==0)=false:=by have:=L.out;rw[beq_eq_false_iff_ne];omega
        have H2:=hid u;clear u;go_wp2;go_meet;exact⟨by have:=H2.out;rw[dcF (by omega)],rfl⟩
      ·go_wp2
       go_meet;exact⟨by rw[dcF (by omega)],rfl⟩
    case rest=>
     obtain⟨rfl,rfl⟩:=hcut
     have K:=hid (show decide (v<0\/(v=0/\c % 2=0))=true->c=D/\Y=U by
      rw[decide_eq_true_eq,NL.out];exact HE.1)
     have N:=hid (show decide (v<0\/(v=0/\c % 2=0))=false->c+1=D/\Y=U by
      rw[decide_eq_false_iff_not,NL.out];exact HE.2)
     generalize decide (v<0\/(v=0/\c % 2=0))=dn at*;clear HE NL L;have I:=P7.c.1;have J:=P7.c.2.1;have W:=P7.c.2.2;have r0:=C.c.1;have r1:=C.c.2.1;have r2:=C.c.2.2;have f0:=A0u (j:=0) C.out;have f1:=A0u (j:=1) C.out;have f2:=A0u (j:=2) C.out;cases dn
     ·have HU:=hid (N.out rfl)
      clear N K
      go_wp2_with fail
      refine(B5d false (dgs (c+1)) Y _ (by have:=M.out;omega) (by omega) (by omega)).mono ?_;rintro e w8 ⟨rfl,t⟩
      have f:A2e (A1g (dgs (c+1)))=dgs D/\Y+((A1g (dgs (c+1))).length:Int)-((A2e (A1g (dgs (c+1)))).length:Int)=U:=by
       obtain⟨E,u⟩:=HU.out;obtain⟨a1,a2⟩:=B8h (Z.s.last A.out);rw[E,a1,a2];exact⟨rfl,by omega⟩
      rw[f.2,f.1];have q:=hid (C.fr t);have RF:=hid (PF.trans t);clear t f I J W r0 r1 r2 f0 f1 f2;have r0:=q.c.1;have r1:=q.c.2.1;have r2:=q.c.2.2;have f0:=A0u (j:=0) q.out;have f1:=A0u (j:=1) q.out;have f2:=A0u (j:=2) q.out;go_wp2;go_region
      all_goals
       go_wp2;go_ret2;refine⟨rfl,?_⟩
       first
        |exact(((RF.setCell (p:=⟨B21,0,none⟩) (.inr g) _).setCell (p:=⟨B21,1,none⟩) (.inr g) _).setCell (p:=⟨B21,2,none⟩) (.inr g) _).drew
        |exact((RF.setCell (p:=⟨B21,0,none⟩) (.inr g) _).setCell (p:=⟨B21,1,none⟩) (.inr g) _).setCell (p:=⟨B21,2,none⟩) (.inr g) _
     ·have HU:=hid (K.out rfl)
      clear N K;have g9:=hid (show A6e (((wc.setCell ⟨B21,0,none⟩ (.bool false)).setCell ⟨B21,1,none⟩ (.string (ofL (dgs c)))).setCell ⟨B21,2,none⟩ (.int .i64 Y)) B21 (.bool false) (.string (ofL (dgs c))) (.int .i64 Y)from A1y (A1s (A2u C.out)));have SF:=hid (((PF.setCell (p:=⟨B21,0,none⟩) (.inr g) (.bool false)).setCell (p:=⟨B21,1,none⟩) (.inr g) (.string (ofL (dgs c)))).setCell (p:=⟨B21,2,none⟩) (.inr g) (.int .i64 Y))
      go_wp2_with fail
      refine(B5d false (dgs c) Y _ (by have:=B.out;omega) (by omega) (by omega)).mono ?_;rintro e w8 ⟨rfl,t⟩
      have f:A2e (A1g (dgs c))=dgs D/\Y+((A1g (dgs c)).length:Int)-((A2e (A1g (dgs c))).length:Int)=U:=by
       obtain⟨E,u⟩:=HU.out;obtain⟨a1,a2⟩:=B8h (Z.s.last A.out);rw[E,a1,a2];exact⟨rfl,by omega⟩
      rw[f.2,f.1];have q:=hid (g9.fr t);have RF:=hid (SF.trans t);clear t f I J W r0 r1 r2 f0 f1 f2;have r0:=q.c.1;have r1:=q.c.2.1;have r2:=q.c.2.2;have f0:=A0u (j:=0) q.out;have f1:=A0u (j:=1) q.out;have f2:=A0u (j:=2) q.out;go_wp2;go_region
      all_goals
       go_wp2;go_ret2;refine⟨rfl,?_⟩
       first
        |exact(((RF.setCell (p:=⟨B21,0,none⟩) (.inr g) _).setCell (p:=⟨B21,1,none⟩) (.inr g) _).setCell (p:=⟨B21,2,none⟩) (.inr g) _).drew
        |exact((RF.setCell (p:=⟨B21,0,none⟩) (.inr g) _).setCell (p:=⟨B21,1,none⟩) (.inr g) _).setCell (p:=⟨B21,2,none⟩) (.inr g) _
end Go.Proofs.YtmkkibaacclhnaaGreatDoor
