/-
  Part Cb.
-/
import Derived.Test.YtmkkibaacclhnaaGreatDoorBmy
import Derived.Deep.CutBlock
namespace Go.Proofs.YtmkkibaacclhnaaGreatDoor
open Go.RowKit
set_option maxRecDepth 100000
set_option maxHeartbeats 16000000
theorem D8s (k:Nat) (h:k<10):(ByteArray.mk #[48,49,50,51,52,53,54,55,56,57]).extract k (k+1)=ofL [UInt8.ofNat (48+k)]:=by
 have:k=0\/k=1\/k=2\/k=3\/k=4\/k=5\/k=6\/k=7\/k=8\/k=9:=by omega
 rcases this with rfl|rfl|rfl|rfl|rfl|rfl|rfl|rfl|rfl|rfl<;>rfl
theorem E5q (m:Nat) (w:World) (hm:m<9218868437227405312) (Y:A8u m (-342)) (S:¬A8u m 682):
 Calls Tryz.prog 176 #[.int .u64 (m:Int)] w λr w'=>(∃(x:Int) (l:LU8),-342<=x/\x<=682/\A8u m x/\¬A8u m (x+1)/\F1t m l 17 (x-16)/\r=.returned (.tuple #[.string (ofL l),.int .i64 (x-16)]))/\Fr (λ_=>False) w w':=by
 have HM:=hid hm;obtain⟨n,hn⟩:∃n,(A0w m).1=n:=⟨_,rfl⟩;obtain⟨E,hE⟩:∃E,(A0w m).2=E:=⟨_,rfl⟩;have hb:=B5c m hm;rw[hn,hE]at hb;have f:=hid (And.intro hn hE);clear hn hE hm;go_enter Tryz.func176,Tryz.ntmps176
 go_wp2_with fail
 refine(B1z m _ (by have:=HM.out;omega)).mono ?_;rintro e w1 ⟨rfl,rfl⟩;rw[f.1,f.2]
 go_upto_block 0 with fail
 have N:=hid (show D8p m (-342) 512 from⟨Y,by rw[if_neg (by omega)];exact S⟩);clear Y S
 go_cut [6] (λxv wc=>∃x:Int,xv=.int .i64 x/\ -342<=x/\x<=682/\Hid (A8u m x)/\Hid (A8u m (x+1)↔False)/\Hid (Fr (λ_=>False) w1 wc))
 case first=>
  go_wp2
  go_loopw [6,7] (λxv sv wr=>∃(x:Int) (s:Nat),xv=.int .i64 x/\sv=.int .i64 (s:Int)/\F1u s/\ -342<=x/\x+2*(s:Int)<=682/\Hid (D8p m x s)/\Hid (Fr (λ_=>False) w1 wr)) (λ_ sv _=>(intOf sv).toNat)
  case atStart=>exact⟨-342,512,rfl,rfl,by unfold F1u;omega,by omega,by omega,N,hid (Fr.refl _ _)⟩
  case round=>
   clear N;obtain⟨x,s,rfl,rfl,R,M,a1,hI,b⟩:=hrel;by_cases h0:s=0
   ·subst h0
    obtain⟨Q,I⟩:=hI.out;rw[if_pos rfl]at I;have J:=hid Q;have y:=hid (iff_false_intro I);have B:x<=682:=by omega
    clear Q I hI R a1;go_wp2;go_meet;exact⟨x,rfl,M,B,J,y,b⟩
   ·have b6:0<s:=by omega
    have b8:s<=512:=by unfold F1u at R;omega
    have HS:=hid R;have HI:=hid (hI.next R h0);clear R h0 hI
    go_wp2_with fail
    refine(E5f false [49] (x+s) _ (by decide) (by intro c P;simp at P;subst P;decide) (by omega) (by omega)).mono ?_;rintro e w2 ⟨fv,rfl,C,u⟩;obtain⟨va,W,xs,ys,rfl,L,D,U,c4,T,c6⟩:=C;have o:=hid (show A7b w2 (.agg #[va,W]) (num (dv [49])*p10 (x+s).toNat) (p10 (-(x+s)).toNat) 9000000 from⟨va,W,xs,ys,rfl,L,D,U,c4,T,c6⟩);obtain⟨pa,qa,rfl⟩:=A1e L;obtain⟨pb,qb,rfl⟩:=A1e D;have H:=hid (b.trans u);clear u b L D U c4 T c6
    go_wp2_with fail
    refine(F7y _ _ _ 9000000 m n E _ _ _ HM.out f.1 f.2 rfl rfl (by omega) (o.fr ((Fr.refl _ _).alloc _))).mono ?_;rintro e w3 ⟨rfl,t⟩;have p:=hid ((H.alloc _).trans t);obtain⟨v,d⟩:∃v,A6d (num (dv [49])*p10 (x+s).toNat*p2 1074) (p10 (-(x+s)).toNat*V m)=v:=⟨_,rfl⟩
    have j:v<=0↔A8u m (x+s):=by
     rw[<-d,E5h];unfold A8u;rw[show num (dv [49])=1 from rfl,Nat.one_mul]
    rw[d];have q:=hid j;clear d j t o;by_cases P:v<=0
    ·have O:=hid (HI.1 (q.1 P))
     go_wp2;go_roundw
     case rel=>exact⟨x+s,s/2,by go_num,by go_num,HS.half,by omega,by omega,O,p⟩
     case measure=>simp[intOf];omega
    ·have O:=hid (HI.2 (λh=>P (q.2 h)))
     go_wp2;go_roundw
     case rel=>exact⟨x,s/2,rfl,by go_num,HS.half,by omega,by omega,O,p⟩
     case measure=>simp[intOf];omega
 case rest=>
  obtain⟨x,rfl,M,B,J,y,b⟩:=hcut;have z:=hid (F1t.start y.1);clear N;go_wp2
  go_loopw [10,11] (λdvv iv wq=>∃(l:LU8) (i:Nat),dvv=.string (ofL l)/\iv=.int .i64 (i:Int)/\i<=17/\Hid (F1t m l i (x-(i:Int)+1))/\Hid (Fr (λ_=>False) w1 wq)) (λ_ iv _=>17-(intOf iv).toNat)
  case atStart=>exact⟨[],0,rfl,rfl,by omega,z,b⟩
  case round=>
   clear z b;obtain⟨l,i,rfl,rfl,hi,F,b⟩:=hrel;by_cases A:i<17
   ·have HL:=hid F.2.1
    have hA:=hid F.1;have b2:=hid F.2.2.1;have b5:=hid (iff_false_intro F.2.2.2);clear F;have g:=hid ((CLe.shift m (num (dv l)) (x-(i:Int))).1 b2.out);have b9:decide ((i:Int)<17)=true:=dcT (by omega);have a:=hid A;clear A hi
    go_upto_block 4 with fail
    go_cut [12] (λkv wc=>∃k:Nat,kv=.int .i64 (k:Int)/\k<=9/\Hid (CLe m (10*num (dv l)+k) (x-(i:Int)))/\Hid (CLe m (10*num (dv l)+k+1) (x-(i:Int))↔False)/\Hid (Fr (λ_=>False) w1 wc))
    case first=>
     go_wp2
     go_loopw [12] (λkv wq=>∃k:Nat,kv=.int .i64 (k:Int)/\k<=9/\Hid (CLe m (10*num (dv l)+k) (x-(i:Int)))/\Hid (Fr (λ_=>False) w1 wq)) (λkv _=>9-(intOf kv).toNat)
     case atStart=>exact⟨0,rfl,Nat.zero_le _,g,b⟩
     case round=>
      clear b g;obtain⟨k,rfl,hk,hK,b⟩:=hrel;by_cases b0:k<9
      ·have a4:=E5i k b0
       have a2:=A0c l;have b1:=hid (D5f hA.out (k+1) (by omega));have b4:=hid (D2t l (k+1) (by omega));generalize G:UInt8.ofNat (48+(k+1))=cb at*;clear G;have a8:(ofL [cb]).size=1:=rfl;have a3:=A0j l [cb];have a5:l.length<=17:=by have:=HL.out;have:=a.out;omega
       have Z:=hid (show(l++[cb]).length<=4000000 by simp;omega);generalize K:l++[cb]=l' at*;clear K;have a9:(i:Int)<=16:=by have:=a.out;omega
       have b7:0<=(i:Int):=by omega
       go_wp2_with fail
       refine(E5f false l' (x-i) _ Z.out b1.out (by omega) (by omega)).mono ?_;rintro e w2 ⟨fv,rfl,C,u⟩;obtain⟨va,W,xs,ys,rfl,L,D,U,c4,T,c6⟩:=C;have o:=hid (show A7b w2 (.agg #[va,W]) (num (dv l')*p10 (x-i).toNat) (p10 (-(x-i)).toNat) 9000000 from⟨va,W,xs,ys,rfl,L,D,U,c4,T,c6⟩);obtain⟨pa,qa,rfl⟩:=A1e L;obtain⟨pb,qb,rfl⟩:=A1e D;have H:=hid (b.trans u);clear u b L D U c4 T c6
       go_wp2_with fail
       refine(F7y _ _ _ 9000000 m n E _ _ _ HM.out f.1 f.2 rfl rfl (by omega) (o.fr ((Fr.refl _ _).alloc _))).mono ?_;rintro e w3 ⟨rfl,t⟩;have p:=hid ((H.alloc _).trans t);obtain⟨v,d⟩:∃v,A6d (num (dv l')*p10 (x-i).toNat*p2 1074) (p10 (-(x-i)).toNat*V m)=v:=⟨_,rfl⟩
       have j:v<=0↔CLe m (10*num (dv l)+k+1) (x-i):=by
        rw[<-d,E5h];unfold CLe;rw[b4.out,show 10*num (dv l)+k+1=num (dv l)*10+(k+1) by omega]
       rw[d];have q:=hid j;clear d j t o;by_cases P:0<v
       ·have O:=hid (show CLe m (10*num (dv l)+k+1) (x-(i:Int))↔False from iff_false_intro λh=>by have:=q.2 h;omega)
        go_wp2;go_meet;exact⟨k,rfl,by omega,hK,O,p⟩
       ·have O:=hid (q.1 (by omega))
        go_wp2;go_roundw
        case rel=>exact⟨k+1,by go_num,by omega,O,p⟩
        case measure=>simp[intOf];omega
      ·obtain rfl:k=9:=by omega
       have a6:=hid (show CLe m (10*num (dv l)+9+1) (x-(i:Int))↔False from iff_false_intro λh=>b5.1 ((CLe.shift m (num (dv l)+1) (x-(i:Int))).2 (by rw[show 10*(num (dv l)+1)=10*num (dv l)+9+1 by omega];exact h)));go_wp2;go_meet;exact⟨9,rfl,Nat.le_refl _,hK,a6,b⟩
    case rest=>
     obtain⟨k,rfl,hk,a0,a7,X⟩:=hcut;have HF:=X;clear g b X;have a4:=D8s k (by omega);have a2:=A0c l;have a5:l.length<=17:=by have:=HL.out;have:=a.out;omega
     have a9:(i:Int)<=16:=by have:=a.out;omega
     have b3:=hid (show F1t m (l++[UInt8.ofNat (48+k)]) (i+1) (x-((i+1:Nat):Int)+1)from
      ⟨D5f hA.out k (by omega),by have:=HL.out;simp;omega,by
       rw[D2t l k (by omega),show x-((i+1:Nat):Int)+1=x-(i:Int) by omega,Nat.mul_comm];exact a0.out,by
       rw[D2t l k (by omega),show x-((i+1:Nat):Int)+1=x-(i:Int) by omega,Nat.mul_comm];exact a7.1⟩)
     generalize G:UInt8.ofNat (48+k)=cb at*;clear G;have a8:(ofL [cb]).size=1:=rfl;have a3:=A0j l [cb];generalize K:l++[cb]=l' at*;clear K;go_wp2;go_roundw
     case rel=>exact⟨l',i+1,rfl,by go_num,by have:=a.out;omega,b3,HF⟩
     case measure=>have:=a.out;simp[intOf];omega
   ·obtain rfl:i=17:=by omega
    have HD:=F;clear F;go_wp2;go_ret2;exact⟨⟨x,l,M,B,J.out,y.1,by have:=HD.out;rwa[show x-((17:Nat):Int)+1=x-16 by omega]at this,rfl⟩,b.out⟩
theorem E5r (K m c:Nat) (X:Int) (a:m≠0) (b: -(K:Int)<=X):F5j (c*p10 X.toNat) (p10 (-X).toNat) m=true↔InV (p10 K*V m) (p10 K*A7j m) (p10 K*A7d m) (m % 2=0) (c*TK K X):=by
 rw[F1s _ _ _ a,<-D5g _ _ _ a,<-F1w K c X m b];unfold A3u pP;rw[Nat.mul_assoc]
def C2a (m c:Nat) (X:Int):Int:= -(A6d ((c*p10 X.toNat*p10 (-X).toNat+(c+1)*p10 X.toNat*p10 (-X).toNat)*2^(-(((A0w m).2:Int)-1074)).toNat) (p10 (-X).toNat*p10 (-X).toNat*(2*(A0w m).1)*2^(((A0w m).2:Int)-1074).toNat))
theorem F1x (K m c:Nat) (X:Int) (q: -(K:Int)<=X):C2a m c X= -(A6d (2*(c*TK K X)+TK K X) (2*(p10 K*V m))):=by
 unfold C2a;refine congrArg Neg.neg ?_;rw[B2p _ _ (A0w m).2 1074 (((A0w m).2:Int)-1074) (by omega)];have j:p10 (X+K).toNat=p10 X.toNat*p10 (K-(-X).toNat):=by rw[<-A1h];congr 1;omega
 have f:p10 K=p10 (-X).toNat*p10 (K-(-X).toNat):=by rw[<-A1h];congr 1;omega
 have h:=A0v (K-(-X).toNat);have l:=A0v (-X).toNat;unfold TK;rw[j,f,B1a m];generalize p10 (K-(-X).toNat)=z at*;generalize p10 X.toNat=p at*;generalize p10 (-X).toNat=b at*;generalize p2 1074=s;generalize (A0w m).1=n;generalize p2 (A0w m).2=t
 have k:(c*p*b+(c+1)*p*b)*s=(2*(c*(p*s))+p*s)*b:=by
  have a:c*p*b*s=c*(p*s)*b:=by simp only[Nat.mul_left_comm,Nat.mul_comm]
  have o:(c+1)*p*b*s=c*(p*s)*b+p*s*b:=by
   have:(c+1)*p*b*s=(c+1)*(p*s)*b:=by generalize c+1=d;simp only[Nat.mul_left_comm,Nat.mul_comm]
   rw[this,Nat.add_mul,Nat.one_mul,Nat.add_mul]
  rw[Nat.add_mul,a,o,Nat.add_mul,Nat.mul_assoc 2];omega
 have i:b*b*(2*n)*t=2*(b*(n*t))*b:=by simp only[Nat.mul_assoc,Nat.mul_left_comm,Nat.mul_comm]
 have g:(2*(c*(p*s))+p*s)*z=2*(c*(p*z*s))+p*z*s:=by
  have a:p*z*s=p*s*z:=Nat.mul_right_comm ..;rw[a,Nat.add_mul,Nat.mul_assoc 2,Nat.mul_assoc c]
 have e:2*(b*(n*t))*z=2*(b*z*(n*t)):=by
  have a:b*z*(n*t)=b*(n*t)*z:=Nat.mul_right_comm ..;rw[a,Nat.mul_assoc 2]
 rw[k,i,B0f _ _ b l,<-B0f _ _ z h,g,e]
theorem C9r (K m c:Nat) (X:Int) (d: -(K:Int)<=X):(C2a m c X<0\/(C2a m c X=0/\c % 2=0))↔C1z (p10 K*V m) c (TK K X):=by
 rw[F1x K m c X d];unfold C1z;have a:=C6j (2*(c*TK K X)+TK K X) (2*(p10 K*V m));have b:=D2q (2*(c*TK K X)+TK K X) (2*(p10 K*V m));constructor
 ·rintro(h|⟨h,e⟩)
  ·left;exact a.1 (by omega)
  ·right;exact⟨(b.1 (by omega)).symm,e⟩
 ·rintro(h|⟨h,e⟩)
  ·left;have:=a.2 h;omega
  ·right;exact⟨by have:=b.2 h.symm;omega,e⟩
structure RefS (m D:Nat) (pw x:Int) (l:LU8):Prop where
 s:B1e m D pw
 m0:m≠0
 pw1: -5000<=pw
 x1: -342<=x
 x2:x<=682
 lo:A8u m x
 hi:¬A8u m (x+1)
 d:F1t m l 17 (x-16)
def cN (l:LU8) (i:Nat):Nat:=num (dv (l.take i))
def RIn (m c:Nat) (X:Int):Prop:=InV (p10 6000*V m) (p10 6000*A7j m) (p10 6000*A7d m) (m % 2=0) (c*TK 6000 X)
def F8a (m:Nat) (x:Int) (l:LU8) (i:Nat):Prop:=∀j:Nat,1<=j->j<i->¬RIn m (cN l j) (x+1-j)/\¬RIn m (cN l j+1) (x+1-j)
theorem RefS.h1 {m D:Nat} {a x:Int} {l:LU8} (h:RefS m D a x l):TK 6000 x<=p10 6000*V m:=by
 have:=(E5m 6000 m 1 x (by have:=h.x1;omega)).1 ((D2s m x).1 h.lo);rwa[Nat.one_mul]at this
theorem RefS.h2 {m D:Nat} {b x:Int} {l:LU8} (h:RefS m D b x l):p10 6000*V m<10*TK 6000 x:=by
 have a:=h.hi;rw[D2s,E5m 6000 m 1 (x+1) (by have:=h.x1;omega),Nat.one_mul,B6k 6000 x (by have:=h.x1;omega)]at a;omega
theorem RefS.hc {m D:Nat} {a x:Int} {l:LU8} (h:RefS m D a x l) (j:Nat) (b:1<=j) (c:j<=17):
 cN l j*TK 6000 (x+1-j)<=p10 6000*V m/\p10 6000*V m<cN l j*TK 6000 (x+1-j)+TK 6000 (x+1-j):=
 h.d.take 6000 (by have:=h.x1;omega) j b c
theorem RefS.head {m D:Nat} {f x:Int} {l:LU8} (h:RefS m D f x l):l.head? ≠some 48:=by
 intro e;have g:=h.d.2.1;have i:=h.h1;have a:=(h.hc 1 (by omega) (by omega)).2;rw[show x+1-((1:Nat):Int)=x by omega]at a
 have b:cN l 1=0:=by
  unfold cN;cases l with
  |nil=>rfl
  |cons c r=>
   have:c=48:=by simpa using e
   subst this;rfl
 rw[b,Nat.zero_mul,Nat.zero_add]at a;omega
theorem RefS.dgs {m D:Nat} {b x:Int} {l:LU8} (h:RefS m D b x l) (i:Nat) (f:1<=i) (g:i<=17):l.take i=dgs (cN l i):=by
 have a:=h.d.2.1;refine G2c (h.d.1.take i) ?_ ?_
 ·intro e
  have:=congrArg List.length e;rw[List.length_take,a,List.length_nil]at this;omega
 ·have:=h.head
  cases l with
  |nil=>simp at a
  |cons c r=>
   cases i with
   |zero=>omega
   |succ i=>simpa using this
theorem RefS.end {m D:Nat} {d x:Int} {l:LU8} (h:RefS m D d x l) (i:Nat) (g:1<=i) (k:i<=17) (f:F8a m x l i):
 (RIn m (cN l i) (x+1-i)->(¬RIn m (cN l i+1) (x+1-i)\/C1z (p10 6000*V m) (cN l i) (TK 6000 (x+1-i)))->cN l i=D/\x+1-i=d)/\
 (RIn m (cN l i+1) (x+1-i)->(¬RIn m (cN l i) (x+1-i)\/¬C1z (p10 6000*V m) (cN l i) (TK 6000 (x+1-i)))->(cN l i+1=D/\x+1-i=d)\/(i=1/\cN l i=9/\D=1/\d=x+1))/\
 (i=17->(C1z (p10 6000*V m) (cN l i) (TK 6000 (x-16))->cN l i=D/\x-16=d)/\(¬C1z (p10 6000*V m) (cN l i) (TK 6000 (x-16))->cN l i+1=D/\x-16=d)):=by
 have n:=h.x1;have o:=h.pw1
 have e:=h.s.ref (K:=6000) (c:=cN l) (x:=x) (i:=i) h.m0 (by omega) (by omega) (by omega) h.h1 h.h2 h.hc g k (λj a b=>by
  have:=f j a b;unfold RIn at this
  rwa[<-C9p]at this)
 unfold RIn;rw[<-C9p];exact e
theorem B8h {D:Nat} (h:D % 10≠0):A2e (A1g (dgs D))=dgs D/\((A1g (dgs D)).length:Int)=((dgs D).length:Int):=by
 rw[C9q D (by omega)];exact⟨D8r (F1v D h),rfl⟩
theorem F1y:A2e (A1g (dgs 10))=dgs 1/\(A1g (dgs 10)).length=2:=by
 rw[C9q 10 (by omega),A9h (by omega),A6a (by omega)];exact⟨rfl,rfl⟩
theorem D8t (l:LU8) (i:Nat):(ofL l).extract 0 i=ofL (l.take i):=by
 apply ByteArray.ext;simp[ofL]
def A6e (w:World) (b:Nat) (x y z:Value):Prop:=w.heap[b]? =some (.cells #[x,y,z] 194 (0,0))
def E0t (w:World) (b:Nat) (x y:Value):Prop:=w.heap[b]? =some (.cells #[x,y] 228 (0,0))
theorem A6e.fr {w w':World} {b:Nat} {x y z:Value} (h:A6e w b x y z) (a:Fr (λ_=>False) w w'):A6e w' b x y z:=a.heap h id
theorem E0t.fr {w w':World} {b:Nat} {x y:Value} (h:E0t w b x y) (a:Fr (λ_=>False) w w'):E0t w' b x y:=a.heap h id
theorem A6e.new (w:World) (x y z:Value):A6e (w.alloc (.cells #[x,y,z] 194)) w.heap.size x y z:=heap_alloc_new w _
theorem E0t.new (w:World) (x y:Value):E0t (w.alloc (.cells #[x,y] 228)) w.heap.size x y:=heap_alloc_new w _
theorem A6e.c {w:World} {b:Nat} {x y z:Value} (h:A6e w b x y z):w.cell? ⟨b,0,none⟩=some x/\w.cell? ⟨b,1,none⟩=some y/\w.cell? ⟨b,2,none⟩=some z:=⟨A1b h,A0t h,A1c h⟩
theorem E0t.c {w:World} {b:Nat} {x y:Value} (h:E0t w b x y):w.cell? ⟨b,0,none⟩=some x/\w.cell? ⟨b,1,none⟩=some y:=⟨A4r h,A4s h⟩
theorem D5h {l:LU8} {i c:Nat} (f:A4h l) (a:i-1<l.length) (g:1<=i) (b:num (dv (l.take i))=c):∃d:Nat,((ofL l)[i-1]'(by rw[A0c];exact a)).toNat=48+d/\d<=9/\d % 2=c % 2:=by
 obtain⟨j,rfl⟩:∃j,i=j+1:=⟨i-1,by omega⟩;rw[Nat.add_sub_cancel]at a;have e:=f l[j] (List.getElem_mem a);unfold isD at e;simp at e;refine⟨l[j].toNat-48,?_,by omega,?_⟩
 ·show l[j].toNat=_
  omega
 ·rw[List.take_succ_eq_append_getElem a,A4d]at b
  have:num (dv (l.take j)++[l[j].toNat-48])=c:=b;rw[A4x]at this;omega
theorem C3s (m D:Nat) (T:Int) (w:World) (hS:B1e m D T) (e4:m≠0) (hm:m<9218868437227405312) (b6: -5000<=T) (g2:A8u m (-342)) (e5:¬A8u m 682):
 Calls Tryz.prog 132 #[.int .u64 (m:Int)] w λe w'=>e=.returned (.tuple #[.string (ofL (dgs D)),.int .i64 T])/\Fr (λ_=>False) w w':=by
 have HM:=hid hm;have z:=hid e4;have HS:=hid hS;have f7:=hid (λw=>E5q m w hm g2 e5);have g9:=hid b6;clear hm e4 hS g2 e5 b6;go_enter Tryz.func132,Tryz.ntmps132
 go_wp2_with fail
 refine(f7.out w).mono ?_;rintro e w1 ⟨⟨x,l,i3,h5,e2,f4,hD,rfl⟩,f5⟩;have Z:=hid (show RefS m D T x l from⟨HS.out,z.out,g9.out,i3,h5,e2,f4,hD⟩);have a6:l.length=17:=hD.2.1;have j1:(ofL l).size=17:=by rw[A0c];exact a6
 have HL:=hid a6;have g4:=hid f5;clear f7 e2 f4 hD f5 a6;go_wp2
 go_loopw [6] (λnv wr=>∃i:Nat,nv=.int .i64 (i:Int)/\1<=i/\i<=17/\Hid (F8a m x l i)/\Hid (Fr (λ_=>False) w wr)) (λnv _=>17-(intOf nv).toNat)
 case atStart=>exact⟨1,rfl,by omega,by omega,hid (λj a b=>absurd b (by omega)),g4⟩
 case round=>
  clear g4;obtain⟨i,rfl,d8,e3,hN,hF⟩:=hrel;by_cases h9:i<17
  ·have d5:=D8t l i
   have B:=Z.dgs i d8 e3;rw[B]at d5;have d2:(dgs (cN l i)).length=i:=by rw[<-B,List.length_take,HL.out];omega
   have g8:(ofL (dgs (cN l i))).size=i:=by rw[A0c];exact d2
   have R:=hid (λw=>C9m (dgs (cN l i)) w (by omega) (B2g _));have C:=hid d2;obtain⟨c,hc⟩:∃c,cN l i=c:=⟨_,rfl⟩;obtain⟨X,hX⟩:∃X:Int,x-16+17-(i:Int)=X:=⟨_,rfl⟩;have k5: -400<=X/\X<=700:=by omega
   have HX:=hid (show x+1-(i:Int)=X by omega);have HC:=hid hc;rw[hc]at d5 g8 R C;clear d2 B hc
   have c9:c<p10 17:=by
    have:=A7i _ (Z.d.1.take i).digs;rw[A3e,List.length_take,HL.out]at this;have e:=HC.out;unfold cN at e;rw[e]at this;exact Nat.lt_of_lt_of_le this (A3r _ _ (by omega))
   rw[F5k]at c9
   go_wp2_with fail
   refine(R.out _).mono ?_;rintro e O ⟨rfl,P⟩;rw[F5i]at*;have a3:(dgs (c+1)).length<=20:=A2b _ (by omega);have M:=hid a3;have T7:=hid ((A6e.new wr (.bool false) (.string (ofL (dgs c))) (.int .i64 X)).fr P);have a8:=hid ((hF.alloc _).trans P);have b7:wr.heap.size<O.heap.size:=lt_of_block T7.out;clear P R d5 a3;have H:=λo=>(T7.fr ((Fr.refl _ O).alloc o)).c.1
   have I:=λo=>(T7.fr ((Fr.refl _ O).alloc o)).c.2.1
   have U:=λo=>(T7.fr ((Fr.refl _ O).alloc o)).c.2.2
   go_wp2_with fail
   refine(C9j false (dgs c) X 2000 _ (by have:=C.out;omega) (B2g c) (by omega) (by omega) (by have:=C.out;omega)).mono ?_;rintro e w3 ⟨fv,rfl,d0,b5⟩;rw[C5h]at d0;have e6:=hid d0;obtain⟨va,vb,xs,ys,rfl,c1,c2,c3⟩:=d0;obtain⟨pa,qa,rfl⟩:=A1e c1;obtain⟨pb,qb,rfl⟩:=A1e c2;generalize xs.length=na at*;generalize ys.length=nb at*;have g5:=hid ((T7.fr ((Fr.refl _ O).alloc _)).fr b5);have b1:=hid ((A6e.new O (.bool false) (.string (ofL (dgs (c+1)))) (.int .i64 X)).fr b5);have g0:=hid ((a8.alloc _).trans b5);clear b5 a8 T7 H I U c1 c2 c3;have H:=λo=>(b1.fr ((Fr.refl _ w3).alloc o)).c.1
   have I:=λo=>(b1.fr ((Fr.refl _ w3).alloc o)).c.2.1
   have U:=λo=>(b1.fr ((Fr.refl _ w3).alloc o)).c.2.2
   go_wp2_with fail
   refine(C9j false (dgs (c+1)) X 2000 _ (by have:=M.out;omega) (B2g (c+1)) (by omega) (by omega) (by have:=M.out;omega)).mono ?_;rintro e w4 ⟨fv,rfl,c6,W⟩;rw[C5h]at c6;have g3:=hid c6;obtain⟨va,vb,xs,ys,rfl,c1,c2,c3⟩:=c6;obtain⟨pc,qc,rfl⟩:=A1e c1;obtain⟨pd,qd,rfl⟩:=A1e c2;generalize xs.length=nc at*;generalize ys.length=nd at*;have f9:=hid ((g5.fr ((Fr.refl _ w3).alloc _)).fr W);have e8:=hid ((b1.fr ((Fr.refl _ w3).alloc _)).fr W);have b4:=hid ((E0t.new w3 (.slice pa na qa) (.slice pb nb qb)).fr W);have a0:=hid ((e6.fr ((Fr.refl _ w3).alloc (.cells #[.slice pa na qa,.slice pb nb qb] 228))).fr W);have e7:=hid ((g0.alloc _).trans W);clear W g0 g5 b1 H I U e6 c1 c2 c3;have H:=λo=>(b4.fr ((Fr.refl _ w4).alloc o)).c.1
   have I:=λo=>(b4.fr ((Fr.refl _ w4).alloc o)).c.2
   go_wp2_with fail
   refine(C3q _ _ _ 2000 m _ (by omega) z.out HM.out (a0.fr ((Fr.refl _ w4).alloc _))).mono ?_;rintro e w5 ⟨rfl,E⟩;have g6:=hid ((f9.fr ((Fr.refl _ w4).alloc _)).fr E);have e1:=hid ((e8.fr ((Fr.refl _ w4).alloc _)).fr E);have f3:=hid ((b4.fr ((Fr.refl _ w4).alloc _)).fr E);have Q:=hid ((E0t.new w4 (.slice pc nc qc) (.slice pd nd qd)).fr E);have b9:=hid ((a0.fr ((Fr.refl _ w4).alloc (.cells #[.slice pc nc qc,.slice pd nd qd] 228))).fr E);have b2:=hid ((g3.fr ((Fr.refl _ w4).alloc (.cells #[.slice pc nc qc,.slice pd nd qd] 228))).fr E);have f6:=hid ((e7.alloc _).trans E);have IA:=hid (E5r 6000 m c X z.out (by omega));have IB:=hid (E5r 6000 m (c+1) X z.out (by omega));have NL:=hid (C9r 6000 m c X (by omega));clear E e7 f9 e8 b4 a0 g3 H I;have H:=Q.c.1;have I:=Q.c.2;generalize F5j (c*p10 X.toNat) (p10 (-X).toNat) m=ia at*
   go_wp2_with fail
   refine(C3q _ _ _ 2000 m _ (by omega) z.out HM.out b2.out).mono ?_;rintro e w6 ⟨rfl,J⟩;have g1:=hid (g6.fr J);have f8:=hid (e1.fr J);have c7:=hid (f3.fr J);have a4:=hid (Q.fr J);have c0:=hid (b9.fr J);have b8:=hid (b2.fr J);have e9:=hid (f6.trans J);clear J f6 g6 e1 f3 Q b9 b2 H I;have H:=a4.c.1;have I:=a4.c.2;have U:=c7.c.1;have q3:=c7.c.2;generalize F5j ((c+1)*p10 X.toNat) (p10 (-X).toNat) m=ib at*
   go_wp2_with fail
   refine(C3r _ _ _ _ _ _ 2000 m _ (by omega) HM.out c0.out b8.out).mono ?_;rintro e w7 ⟨rfl,b3⟩;have d7:=hid (g1.fr b3);have d6:=hid (f8.fr b3);have d3:=hid (e9.trans b3);clear b3 e9 g1 f8 c7 a4 c0 b8 H I U q3
   change Hid ((C2a m c X<0\/(C2a m c X=0/\c % 2=0))↔_)at NL
   obtain⟨u,d9⟩:∃u,C2a m c X=u:=⟨_,rfl⟩;have b0:=d9;unfold C2a at b0;rw[b0];rw[d9]at NL;clear d9 b0;have a7:=D5h Z.d.1 (by rw[HL.out];omega) d8 (by have:=HC.out;unfold cN at this;exact this)
   go_upto_region 13 with fail
   generalize (ofL l)[i-1].toNat=la at*;have a9:((la:Int)-48) % 2=((c % 2:Nat):Int):=by obtain⟨d,F,v,h3⟩:=a7;omega
   generalize ((la:Int)-48) % 2=lp at*;have K:=hid a9;clear a9 a7
   go_cut [84] (λb wc=>b=.bool (ia&&(!ib||decide (u<0\/(u=0/\c % 2=0))))/\wc=w7)
   case first=>
    have c5:c % 2=0\/c % 2=1:=by omega
    cases ia
    ·go_wp2
     go_meet;exact⟨by rw[Bool.false_and],rfl⟩
    ·cases ib
     ·go_wp2
      go_meet;exact⟨by rw[Bool.not_false,Bool.true_or,Bool.true_and],rfl⟩
     ·by_cases c4:u<0
      ·go_wp2
       go_meet;exact⟨by rw[dcT (.inl c4)];rfl,rfl⟩
      ·by_cases d1:u=0
       ·subst d1
        rcases c5 with v|v
        ·have hq:(lp==0)=true:=by have:=K.out;rw[beq_iff_eq];omega
         have H2:=hid v;clear v;go_wp2;go_meet;exact⟨by simp[H2.out],rfl⟩
        ·have hq:(lp==0)=false:=by have:=K.out;rw[beq_eq_false_iff_ne];omega
         have H2:=hid v;clear v;go_wp2;go_meet;exact⟨by have:=H2.out;rw[dcF (by omega)];rfl,rfl⟩
       ·go_wp2
        go_meet;exact⟨by rw[dcF (by omega)];rfl,rfl⟩
   case rest=>
    obtain⟨rfl,rfl⟩:=hcut;have HE:=hid (Z.end i d8 e3 hN.out);rw[HC.out,HX.out]at HE;unfold RIn at HE;have ha:=IA.out;have hb:=IB.out;have hl:=NL.out;obtain⟨E1,E2,_⟩:=HE.out
    have N:=hid (show(ia&&(!ib||decide (u<0\/(u=0/\c % 2=0))))=true->c=D/\X=T by
     intro hd;rw[Bool.and_eq_true,Bool.or_eq_true,Bool.not_eq_true',decide_eq_true_eq,hl]at hd;refine E1 (ha.1 hd.1) ?_;rcases hd.2 with h|h
     ·left;rw[<-hb,h];exact Bool.false_ne_true
     ·exact .inr h)
    have L:=hid (show(ia&&(!ib||decide (u<0\/(u=0/\c % 2=0))))=false->ib=true->(c+1=D/\X=T)\/(c=9/\D=1/\T=X+1) by
     intro hd g7
     have hh:¬InV (p10 6000*V m) (p10 6000*A7j m) (p10 6000*A7d m) (m % 2=0) (c*TK 6000 X)\/¬C1z (p10 6000*V m) c (TK 6000 X):=by
      rw[g7,Bool.and_eq_false_iff]at hd;rcases hd with h|h
      ·left;rw[<-ha,h];exact Bool.false_ne_true
      ·right
       rw[Bool.not_true,Bool.false_or,decide_eq_false_iff_not,hl]at h;exact h
     rcases E2 (hb.1 g7) hh with h|⟨F,v,h3,h4⟩
     ·exact .inl h
     ·right
      refine⟨v,h3,?_⟩;have:=HX.out
      omega)
    have e0:=hid (show ia=false->ib=false->F8a m x l (i+1) by
     intro F v j i2 i6;by_cases e:j=i
     ·subst e
      rw[HC.out,HX.out];unfold RIn;rw[<-ha,<-hb,F,v];exact⟨Bool.false_ne_true,Bool.false_ne_true⟩
     ·exact hN.out j i2 (by omega))
    have c8:=hid (show(ia&&(!ib||decide (u<0\/(u=0/\c % 2=0))))=false->ib=false->ia=false by
     intro F v;rw[v]at F
     simpa using F)
    clear ha hb hl E1 E2 IA IB NL HE K;have H:=d7.c.1;have I:=d7.c.2.1;have U:=d7.c.2.2;have r0:=d6.c.1;have r1:=d6.c.2.1;have r2:=d6.c.2.2;generalize (ia&&(!ib||decide (u<0\/(u=0/\c % 2=0))))=dn at*;cases dn
    ·cases ib
     ·have HZ:=hid (e0.out (c8.out rfl rfl) rfl)
      go_wp2;go_roundw
      case rel=>exact⟨i+1,by go_num,by omega,by omega,HZ,d3⟩
      case measure=>simp[intOf];omega
     ·have HU:=hid (L.out rfl rfl)
      clear L N e0 c8
      go_wp2_with fail
      refine(B5d false (dgs (c+1)) X _ (by have:=M.out;omega) (by omega) (by omega)).mono ?_;rintro e w8 ⟨rfl,q⟩;have A:=hid ((d3.trans q).alloc (.cells #[.bool false,.string (ofL (A2e (A1g (dgs (c+1))))),.int .i64 (X+((A1g (dgs (c+1))).length:Int)-((A2e (A1g (dgs (c+1)))).length:Int))] 194))
      have f:A2e (A1g (dgs (c+1)))=dgs D/\X+((A1g (dgs (c+1))).length:Int)-((A2e (A1g (dgs (c+1)))).length:Int)=T:=by
       rcases HU.out with⟨F,v⟩|⟨F,v,h3⟩
       ·obtain⟨a1,a2⟩:=B8h (Z.s.last z.out)
        rw[F,a1,a2];exact⟨rfl,by omega⟩
       ·obtain⟨a1,a2⟩:=F1y
        rw[F,v,a1,a2,show(dgs 1).length=1 from F1n 1 (by omega)];exact⟨rfl,by omega⟩
      rw[f.1]at A ⊢;rw[f.1]at f;rw[f.2]at A ⊢;clear q f H I U r0 r1 r2;go_wp2;go_region
      all_goals
       go_wp2;go_ret2;exact⟨rfl,by first|exact A.out|exact A.drew⟩
    ·have HU:=hid (N.out rfl)
     clear L N e0 c8
     go_wp2_with fail
     refine(B5d false (dgs c) X _ (by have:=C.out;omega) (by omega) (by omega)).mono ?_;rintro e w8 ⟨rfl,q⟩;have A:=hid ((d3.trans q).alloc (.cells #[.bool false,.string (ofL (A2e (A1g (dgs c)))),.int .i64 (X+((A1g (dgs c)).length:Int)-((A2e (A1g (dgs c))).length:Int))] 194))
     have f:A2e (A1g (dgs c))=dgs D/\X+((A1g (dgs c)).length:Int)-((A2e (A1g (dgs c))).length:Int)=T:=by
      obtain⟨F,v⟩:=HU.out;obtain⟨a1,a2⟩:=B8h (Z.s.last z.out);rw[F,a1,a2];exact⟨rfl,by omega⟩
     rw[f.1]at A ⊢;rw[f.1]at f;rw[f.2]at A ⊢;clear q f H I U r0 r1 r2;go_wp2;go_region
     all_goals
      go_wp2;go_ret2;exact⟨rfl,by first|exact A.out|exact A.drew⟩
  ·obtain rfl:i=17:=by omega
   obtain⟨c,hc⟩:∃c,cN l 17=c:=⟨_,rfl⟩;have B:=Z.dgs 17 (by omega) (by omega);have ht:l.take 17=l:=List.take_of_length_le (by rw[HL.out];omega);rw[ht,hc]at B;have HE:=hid ((Z.end 17 (by omega) (by omega) hN.out).2.2 rfl);rw[hc]at HE;have a7:=D5h Z.d.1 (i:=17) (by rw[HL.out];omega) (by omega) (show _=c from hc)
   have c9:c<p10 17:=by
    have:=A7i _ Z.d.1.digs;rw[A3e,HL.out]at this;rw[<-hc,cN,ht];exact this
   rw[F5k]at c9;have a3:(dgs (c+1)).length<=20:=A2b _ (by omega);obtain⟨Y,hY⟩:∃Y:Int,x-16=Y:=⟨_,rfl⟩;have k3: -400<=Y/\Y<=700:=by omega
   have R:=hid (λw=>C9m (dgs c) w (by rw[<-B,HL.out];omega) (B2g _));have C:=hid (show(dgs c).length=17 by rw[<-B];exact HL.out);have M:=hid a3;rw[hY]at HE ⊢;clear hY ht hc a3 h9;subst B
   go_wp2_with fail
   refine(R.out _).mono ?_;rintro e O ⟨rfl,P⟩;rw[F5i]at*;have T7:=hid ((A6e.new wr (.bool false) (.string (ofL (dgs c))) (.int .i64 Y)).fr P);have a8:=hid ((hF.alloc _).trans P);clear P R
   go_wp2_with fail
   have N7:=hid (T7.fr ((Fr.refl _ O).alloc (.cells #[.bool false,.string (ofL (dgs (c+1))),.int .i64 Y] 194)));have N8:=hid (A6e.new O (.bool false) (.string (ofL (dgs (c+1)))) (.int .i64 Y));have NF:=hid (a8.alloc (.cells #[.bool false,.string (ofL (dgs (c+1))),.int .i64 Y] 194));clear T7 a8;generalize O.alloc (.cells #[.bool false,.string (ofL (dgs (c+1))),.int .i64 Y] 194)=W0 at*;have HX:=hid (λwx=>C9j false (dgs c) Y 2000 wx (by have:=C.out;omega) (B2g c) (by omega) (by omega) (by have:=C.out;omega));have HY:=hid (λwx=>C9j false (dgs (c+1)) Y 2000 wx (by have:=M.out;omega) (B2g (c+1)) (by omega) (by omega) (by have:=M.out;omega));have i4:=N7.c.1;have i0:=N7.c.2.1;have h7:=N7.c.2.2;have h6:=N8.c.1;have h8:=N8.c.2.1;have i1:=N8.c.2.2
   go_cut [19] (λnv wc=>nv=.int .i64 (C2a m c Y)/\Hid (A6e wc wr.heap.size (.bool false) (.string (ofL (dgs c))) (.int .i64 Y))/\Hid (A6e wc O.heap.size (.bool false) (.string (ofL (dgs (c+1)))) (.int .i64 Y))/\Hid (Fr (λ_=>False) w wc))
   case first=>
    have n:=hid (N7.fr ((Fr.refl (λ_=>False) W0).drew));have k:=hid (N8.fr ((Fr.refl (λ_=>False) W0).drew));have y:=hid (NF.trans ((Fr.refl (λ_=>False) W0).drew))
    go_region_held3 (λw'=>w'.cell? ⟨wr.heap.size,0,none⟩=some (.bool false)/\w'.cell? ⟨wr.heap.size,1,none⟩=some (.string (ofL (dgs c)))/\w'.cell? ⟨wr.heap.size,2,none⟩=some (.int .i64 Y)/\w'.cell? ⟨O.heap.size,0,none⟩=some (.bool false)/\w'.cell? ⟨O.heap.size,1,none⟩=some (.string (ofL (dgs (c+1))))/\w'.cell? ⟨O.heap.size,2,none⟩=some (.int .i64 Y)) (first|go_keep|exact⟨n.c.1,n.c.2.1,n.c.2.2,k.c.1,k.c.2.1,k.c.2.2⟩) (first
     |(go_at_call_of 178 (Value.agg #[.bool false,.string (ofL (dgs c)),.int .i64 Y]);refine Calls.mono (HX.out _) ?_;rintro r wX ⟨vX,rfl,x1,x4⟩;rw[C5h]at x1;have X1:=hid x1;have M7:=hid (n.fr x4);have M8:=hid (k.fr x4);have MF:=hid (y.trans x4);clear n k y;have n:=M7;have k:=M8;have y:=MF;clear M7 M8 MF;have j6:=n.c.1;have k4:=n.c.2.1;have i9:=n.c.2.2;have k6:=k.c.1;have j0:=k.c.2.1;have j3:=k.c.2.2;clear x1 x4)
     |(go_at_call 178;refine Calls.mono (HY.out _) ?_;rintro r wY ⟨vY,rfl,y1,y4⟩;rw[C5h]at y1;have Y1:=hid y1;have X2:=hid (X1.fr y4);have M7:=hid (n.fr y4);have M8:=hid (k.fr y4);have MF:=hid (y.trans y4);clear n k y;have n:=M7;have k:=M8;have y:=MF;clear M7 M8 MF;have j5:=n.c.1;have j8:=n.c.2.1;have j9:=n.c.2.2;have j7:=k.c.1;have k1:=k.c.2.1;have i8:=k.c.2.2;clear y1 y4)
     |(go_at_call 180;refine Calls.mono (C3r _ _ _ _ _ _ 2000 m _ (by omega) HM.out X2.out Y1.out) ?_;rintro r wZ ⟨rfl,z4⟩;have M7:=hid (n.fr z4);have M8:=hid (k.fr z4);have MF:=hid (y.trans z4);clear n k y;have n:=M7;have k:=M8;have y:=MF;clear M7 M8 MF;have j4:=n.c.1;have j2:=n.c.2.1;have k2:=n.c.2.2;have i7:=k.c.1;have i5:=k.c.2.1;have k0:=k.c.2.2;clear z4))
    all_goals
     go_wp2;go_meet;exact⟨rfl,n,k,y⟩
   case rest=>
    obtain⟨rfl,S,a5,d4⟩:=hcut;clear N7 N8 NF HX HY i4 i0 h7 h6 h8 i1;have NL:=hid (C9r 6000 m c Y (by omega));generalize C2a m c Y=u at*;have H:=S.c.1;have I:=S.c.2.1;have U:=S.c.2.2;have r0:=a5.c.1;have r1:=a5.c.2.1;have r2:=a5.c.2.2
    go_upto_region 24 with fail
    generalize (ofL (dgs c))[16].toNat=la at*;have a9:((la:Int)-48) % 256 % 2=((c % 2:Nat):Int):=by obtain⟨d,F,v,h3⟩:=a7;omega
    generalize ((la:Int)-48) % 256 % 2=lp at*;have K:=hid a9;clear a9 a7;have B7:wr.heap.size<wc.heap.size:=lt_of_block S.out;have g:w.heap.size<=wc.heap.size:=d4.size;have B8:O.heap.size<wc.heap.size:=lt_of_block a5.out;have P7:=hid (S.fr ((Fr.refl _ wc).alloc (.cells #[.bool false,.string (ofL (dgs (c+1))),.int .i64 Y] 194)));have G:=hid (A6e.new wc (.bool false) (.string (ofL (dgs (c+1)))) (.int .i64 Y));have PF:=hid (d4.alloc (.cells #[.bool false,.string (ofL (dgs (c+1))),.int .i64 Y] 194));clear S a5 d4 H I U r0 r1 r2;generalize wc.alloc (.cells #[.bool false,.string (ofL (dgs (c+1))),.int .i64 Y] 194)=W1 at*;generalize wc.heap.size=B21 at*
    go_cut [125] (λb wd=>b=.bool (decide (u<0\/(u=0/\c % 2=0)))/\wd=W1)
    case first=>
     have c5:c % 2=0\/c % 2=1:=by omega
     by_cases c4:u<0
     ·go_wp2
      go_meet;exact⟨by rw[dcT (.inl c4)],rfl⟩
     ·by_cases d1:u=0
      ·subst d1
       rcases c5 with v|v
       ·have hq:(lp==0)=true:=by have:=K.out;rw[beq_iff_eq];omega
        have H2:=hid v;clear v;go_wp2;go_meet;exact⟨by simp[H2.out],rfl⟩
       ·have hq:(lp==0)=false:=by have:=K.out;rw[beq_eq_false_iff_ne];omega
        have H2:=hid v;clear v;go_wp2;go_meet;exact⟨by have:=H2.out;rw[dcF (by omega)],rfl⟩
      ·go_wp2
       go_meet;exact⟨by rw[dcF (by omega)],rfl⟩
    case rest=>
     obtain⟨rfl,rfl⟩:=hcut
     have N:=hid (show decide (u<0\/(u=0/\c % 2=0))=true->c=D/\Y=T by
      rw[decide_eq_true_eq,NL.out];exact HE.1)
     have L:=hid (show decide (u<0\/(u=0/\c % 2=0))=false->c+1=D/\Y=T by
      rw[decide_eq_false_iff_not,NL.out];exact HE.2)
     generalize decide (u<0\/(u=0/\c % 2=0))=dn at*;clear HE NL K;have H:=P7.c.1;have I:=P7.c.2.1;have U:=P7.c.2.2;have r0:=G.c.1;have r1:=G.c.2.1;have r2:=G.c.2.2;have f0:=A0u (j:=0) G.out;have f1:=A0u (j:=1) G.out;have f2:=A0u (j:=2) G.out;cases dn
     ·have HU:=hid (L.out rfl)
      clear L N
      go_wp2_with fail
      refine(B5d false (dgs (c+1)) Y _ (by have:=M.out;omega) (by omega) (by omega)).mono ?_;rintro e w8 ⟨rfl,q⟩
      have f:A2e (A1g (dgs (c+1)))=dgs D/\Y+((A1g (dgs (c+1))).length:Int)-((A2e (A1g (dgs (c+1)))).length:Int)=T:=by
       obtain⟨F,v⟩:=HU.out;obtain⟨a1,a2⟩:=B8h (Z.s.last z.out);rw[F,a1,a2];exact⟨rfl,by omega⟩
      rw[f.2,f.1];have t:=hid (G.fr q);have RF:=hid (PF.trans q);clear q f H I U r0 r1 r2 f0 f1 f2;have r0:=t.c.1;have r1:=t.c.2.1;have r2:=t.c.2.2;have f0:=A0u (j:=0) t.out;have f1:=A0u (j:=1) t.out;have f2:=A0u (j:=2) t.out;go_wp2;go_region
      all_goals
       go_wp2;go_ret2;refine⟨rfl,?_⟩
       first
        |exact(((RF.setCell (p:=⟨B21,0,none⟩) (.inr g) _).setCell (p:=⟨B21,1,none⟩) (.inr g) _).setCell (p:=⟨B21,2,none⟩) (.inr g) _).drew
        |exact((RF.setCell (p:=⟨B21,0,none⟩) (.inr g) _).setCell (p:=⟨B21,1,none⟩) (.inr g) _).setCell (p:=⟨B21,2,none⟩) (.inr g) _
     ·have HU:=hid (N.out rfl)
      clear L N;have h0:=hid (show A6e (((wc.setCell ⟨B21,0,none⟩ (.bool false)).setCell ⟨B21,1,none⟩ (.string (ofL (dgs c)))).setCell ⟨B21,2,none⟩ (.int .i64 Y)) B21 (.bool false) (.string (ofL (dgs c))) (.int .i64 Y)from A1y (A1s (A2u G.out)));have SF:=hid (((PF.setCell (p:=⟨B21,0,none⟩) (.inr g) (.bool false)).setCell (p:=⟨B21,1,none⟩) (.inr g) (.string (ofL (dgs c)))).setCell (p:=⟨B21,2,none⟩) (.inr g) (.int .i64 Y))
      go_wp2_with fail
      refine(B5d false (dgs c) Y _ (by have:=C.out;omega) (by omega) (by omega)).mono ?_;rintro e w8 ⟨rfl,q⟩
      have f:A2e (A1g (dgs c))=dgs D/\Y+((A1g (dgs c)).length:Int)-((A2e (A1g (dgs c))).length:Int)=T:=by
       obtain⟨F,v⟩:=HU.out;obtain⟨a1,a2⟩:=B8h (Z.s.last z.out);rw[F,a1,a2];exact⟨rfl,by omega⟩
      rw[f.2,f.1];have t:=hid (h0.fr q);have RF:=hid (SF.trans q);clear q f H I U r0 r1 r2 f0 f1 f2;have r0:=t.c.1;have r1:=t.c.2.1;have r2:=t.c.2.2;have f0:=A0u (j:=0) t.out;have f1:=A0u (j:=1) t.out;have f2:=A0u (j:=2) t.out;go_wp2;go_region
      all_goals
       go_wp2;go_ret2;refine⟨rfl,?_⟩
       first
        |exact(((RF.setCell (p:=⟨B21,0,none⟩) (.inr g) _).setCell (p:=⟨B21,1,none⟩) (.inr g) _).setCell (p:=⟨B21,2,none⟩) (.inr g) _).drew
        |exact((RF.setCell (p:=⟨B21,0,none⟩) (.inr g) _).setCell (p:=⟨B21,1,none⟩) (.inr g) _).setCell (p:=⟨B21,2,none⟩) (.inr g) _
end Go.Proofs.YtmkkibaacclhnaaGreatDoor
