/-
  Part Pt.
-/
import Derived.Test.YtmkkibaacclhnaaGreatDoorSrb
import Derived.Test.YtmkkibaacclhnaaGreatDoorPop
namespace Go.Proofs.YtmkkibaacclhnaaGreatDoor
open Go.RowKit
inductive RO (α:Type) where
 |ok (a:α) (rest:LU8)
 |wrong (n:Nat) (rest:LU8)
 |ended
def A1i (t:Tr):LU8->RO (LU8)
 |[]=>.ended
 |c::r=>match A2q t c with
  |.error n=>.wrong n (c::r)
  |.ok (t',true)=>.ok t'.made r
  |.ok (t',false)=>A1i t' r
def Tx0 (out:LU8) (t:Tr):Prop:=t.st=0/\t.made=out/\t.high=0
def A1m (low:Bool):Nat->Nat->LU8->RO Nat
 |0,n,r=>.ok n r
 |_+1,_,[]=>.ended
 |k+1,n,c::r=>match B5v c with
  |none=>.wrong 3 (c::r)
  |some h=>
   if low=true/\((k=3/\16*n+h≠13)\/(k=2/\16*n+h<220))then .wrong 5 (c::r)
   else if low=false/\k=2/\220<=16*n+h/\16*n+h<224 then .wrong 5 (c::r)
   else A1m low k (16*n+h) r
def A5b (n:Nat):LU8->RO (LU8)
 |[]=>.ended
 |c1::q1=>if c1≠92 then .wrong 5 (c1::q1)else match q1 with
  |[]=>.ended
  |c2::q2=>if c2≠117 then .wrong 5 (c2::q2)else match A1m true 4 0 q2 with
   |.ok m q3=>.ok (A3z (65536+1024*(n-55296)+(m-56320))) q3
   |.wrong e q=>.wrong e q
   |.ended=>.ended
def A5f:LU8->RO (LU8)
 |[]=>.ended
 |c::r=>match C4r c with
  |some x=>.ok [x] r
  |none=>if c≠117 then .wrong 3 (c::r)else match A1m false 4 0 r with
   |.wrong e q=>.wrong e q
   |.ended=>.ended
   |.ok n q=>if n<55296\/56320<=n then .ok (A3z n) q else A5b n q
theorem A6u {t a:Tr} {c:UInt8} {r:LU8} (h:A2q t c=.ok (a,false)):A1i t (c::r)=A1i a r:=by
 rw[A1i,h]
theorem A5t {t:Tr} {c:UInt8} {r:LU8} {n:Nat} (h:A2q t c=.error n):A1i t (c::r)=.wrong n (c::r):=by
 rw[A1i,h]
theorem B4p:C4r 117=none:=by decide
theorem D4n (d:Bool) (k n:Nat) (r:LU8) (t:Tr) (K:k+t.dg=4) (o:t.st=3) (I:t.code=n) (s:d=decide (t.high≠0)) (y:d=true->k=3->n=13) (H:k≠0):
 match A1m d k n r with
 |.ok m q=>∃a b c,A1i t r=A1i (B9b ⟨3,t.made,a,b,c,4,m,t.high⟩) q
 |.wrong e q=>A1i t r=.wrong e q
 |.ended=>A1i t r=.ended:=by
 induction k generalizing n r t with
 |zero=>exact absurd rfl H
 |succ k ih=>
  cases r with
  |nil=>rfl
  |cons c r=>
   have w:A2q t c=(B7n t c).map (λt'=>(t',false)):=by
    unfold A2q;rw[if_neg (by omega),if_neg (by omega),if_pos o]
   rw[A1m];cases p:B5v c with
   |none=>
    simp only;exact A5t (by rw[w,B7n,p];rfl)
   |some h=>
    simp only;have j:t.code*16+h=16*n+h:=by rw[I];omega
    have u:k=2->d=true->16*n+h<224:=λhk2 l=>by
     have:=y l (by omega);have:=A6i p;omega
    by_cases A:d=true/\((k=3/\16*n+h≠13)\/(k=2/\16*n+h<220))
    ·rw[if_pos A]
     refine A5t ?_;rw[w,B7n,p];simp only;have g:t.high≠0:=of_decide_eq_true (s.symm.trans A.1);rcases A.2 with⟨G,E⟩|⟨G,E⟩
     ·rw[if_pos (show t.dg+1=1 by omega),if_pos ⟨g,by rw[j];exact E⟩];rfl
     ·rw[if_neg (show¬t.dg+1=1 by omega),if_pos (show t.dg+1=2 by omega),if_pos (by rw[j,dcT g,dcF (by omega)];decide)];rfl
    rw[if_neg A];by_cases C:d=false/\k=2/\220<=16*n+h/\16*n+h<224
    ·rw[if_pos C]
     refine A5t ?_;rw[w,B7n,p];simp only;have g:¬t.high≠0:=of_decide_eq_false (s.symm.trans C.1);rw[if_neg (show¬t.dg+1=1 by omega),if_pos (show t.dg+1=2 by omega),if_pos (by rw[j,dcF g,dcT (by omega)];decide)];rfl
    rw[if_neg C];by_cases v:k=0
    ·subst v
     rw[A1m];refine⟨t.lack,t.lo,t.hi,?_⟩
     have B:A2q t c=.ok (B9b ⟨3,t.made,t.lack,t.lo,t.hi,4,16*n+h,t.high⟩,false):=by
      rw[w,B7n,p];simp only;rw[if_neg (show¬t.dg+1=1 by omega),if_neg (show¬t.dg+1=2 by omega),if_pos (show t.dg+1=4 by omega)];unfold A8k;rw[j,o,show t.dg+1=4 by omega];rfl
     exact A6u B
    ·have B:A2q t c=.ok (⟨3,t.made,t.lack,t.lo,t.hi,t.dg+1,16*n+h,t.high⟩,false):=by
      rw[w,B7n,p];simp only;have f:A8k t h=⟨3,t.made,t.lack,t.lo,t.hi,t.dg+1,16*n+h,t.high⟩:=by unfold A8k;rw[j,o]
      by_cases J:k=3
      ·rw[if_pos (show t.dg+1=1 by omega),if_neg (by
        rintro⟨x,F⟩
        exact A ⟨s.trans (dcT x),.inl ⟨J,by rw[<-j];exact F⟩⟩),f]
       rfl
      rw[if_neg (show¬t.dg+1=1 by omega)];by_cases D:k=2
      ·rw[if_pos (show t.dg+1=2 by omega),if_neg (by
        rw[j,<-s];cases l:d with
        |true=>
         have x:¬16*n+h<220:=λb=>A ⟨l,.inr ⟨D,b⟩⟩
         have F:=u D l;rw[dcT (by omega)];simp
        |false=>
         have x:¬(220<=16*n+h/\16*n+h<224):=λb=>C ⟨l,D,b.1,b.2⟩
         rw[dcF x]
         simp),f]
       rfl
      rw[if_neg (show¬t.dg+1=2 by omega),if_neg (show¬t.dg+1=4 by omega),f];rfl
     rw[A6u B]
     have:=ih (16*n+h) r ⟨3,t.made,t.lack,t.lo,t.hi,t.dg+1,16*n+h,t.high⟩ (by simp only;omega) rfl rfl s (by
      intro l z;by_cases i:16*n+h=13
      ·exact i
      ·exact absurd ⟨l,.inl ⟨z,i⟩⟩ A) v
     exact this
theorem B3s {t:Tr} (h:t.st=0) (c:UInt8):A2q t c=A9f t c:=by
 unfold A2q;rw[if_neg (by omega),if_neg (by omega),if_neg (by omega)]
theorem B9s {t:Tr} (h:t.st=2) (c:UInt8):A2q t c=(B7m t c).map (λt'=>(t',false)):=by
 unfold A2q;rw[if_neg (by omega),if_pos h]
theorem E2z {t:Tr} (h:t.st=1) (c:UInt8):A2q t c=(E9k t c).map (λt'=>(t',false)):=by
 unfold A2q;rw[if_pos h]
theorem F5a {t:Tr} (h:t.st=0):A2q t 92=.ok (⟨2,t.made,t.lack,t.lo,t.hi,t.dg,t.code,t.high⟩,false):=by
 rw[B3s h,A9f,if_pos rfl]
theorem F0h (n:Nat) (j:LU8) (t:Tr) (i:t.st=0) (o:t.made=j) (l:t.high=n) (r:55296<=n) (q:LU8):
 match A5b n q with
 |.ok s q3=>∃t',Tx0 (j++s) t'/\A1i t q=A1i t' q3
 |.wrong e q'=>A1i t q=.wrong e q'
 |.ended=>A1i t q=.ended:=by
 cases q with
 |nil=>rfl
 |cons c1 q1=>
  rw[A5b.eq_def];simp only;by_cases f:c1≠92
  ·rw[if_pos f]
   refine A5t ?_;rw[B3s i,A9f,if_neg f,if_pos (by omega)]
  ·rw[if_neg f]
   have f:c1=92:=Classical.not_not.1 f;subst f;rw[A6u (F5a i)];cases q1 with
   |nil=>rfl
   |cons c2 q2=>
    simp only;by_cases g:c2≠117
    ·rw[if_pos g]
     refine A5t ?_;rw[B9s rfl,B7m,if_neg g,if_pos (by show t.high≠0;omega)];rfl
    ·rw[if_neg g]
     have g:c2=117:=Classical.not_not.1 g;subst g
     have p:A2q ⟨2,t.made,t.lack,t.lo,t.hi,t.dg,t.code,t.high⟩ 117=.ok (⟨3,t.made,t.lack,t.lo,t.hi,0,0,t.high⟩,false):=by
      rw[B9s rfl,B7m,if_pos rfl];rfl
     rw[A6u p];have d:=D4n true 4 0 q2 ⟨3,t.made,t.lack,t.lo,t.hi,0,0,t.high⟩ rfl rfl rfl (by show true=decide (t.high≠0);rw[dcT (by omega)]) (λ_ h=>by omega) (by omega);cases k:A1m true 4 0 q2 with
     |ok m q3=>
      rw[k]at d;obtain⟨a,b,c,d⟩:=d;simp only;refine⟨_,?_,d⟩;unfold B9b;rw[if_pos (by show t.high≠0;omega)];refine⟨rfl,?_,rfl⟩
      show t.made++A3z (65536+(t.high-55296)*1024+(m-56320))=_
      rw[o,l,Nat.mul_comm]
     |wrong e q'=>rw[k]at d;exact d
     |ended=>rw[k]at d;exact d
theorem E3a (g:LU8) (t:Tr) (h:Tx0 g t) (r:LU8):
 match A5f r with
 |.ok s q=>∃t',Tx0 (g++s) t'/\A1i t (92::r)=A1i t' q
 |.wrong e q=>A1i t (92::r)=.wrong e q
 |.ended=>A1i t (92::r)=.ended:=by
 obtain⟨k,j,m⟩:=h;rw[A6u (F5a k)];cases r with
 |nil=>rfl
 |cons c r=>
  rw[A5f];cases i:C4r c with
  |some x=>
   simp only;have f:c≠117:=λh=>by rw[h,B4p]at i;cases i
   refine⟨⟨0,t.made++[x],t.lack,t.lo,t.hi,t.dg,t.code,t.high⟩,⟨rfl,by show t.made++[x]=_;rw[j],m⟩,A6u ?_⟩;rw[B9s rfl,B7m,if_neg f,if_neg (by show¬t.high≠0;omega),i];rfl
  |none=>
   simp only;by_cases f:c≠117
   ·rw[if_pos f]
    refine A5t ?_;rw[B9s rfl,B7m,if_neg f,if_neg (by show¬t.high≠0;omega),i];rfl
   ·rw[if_neg f]
    have f:c=117:=Classical.not_not.1 f;subst f
    have u:A2q ⟨2,t.made,t.lack,t.lo,t.hi,t.dg,t.code,t.high⟩ 117=.ok (⟨3,t.made,t.lack,t.lo,t.hi,0,0,t.high⟩,false):=by
     rw[B9s rfl,B7m,if_pos rfl];rfl
    rw[A6u u];have d:=D4n false 4 0 r ⟨3,t.made,t.lack,t.lo,t.hi,0,0,t.high⟩ rfl rfl rfl (by show false=decide (t.high≠0);rw[dcF (by omega)]) (λh=>by cases h) (by omega);cases l:A1m false 4 0 r with
    |wrong e q'=>rw[l]at d;exact d
    |ended=>rw[l]at d;exact d
    |ok n q=>
     rw[l]at d;obtain⟨a,b,c,d⟩:=d;simp only;by_cases o:n<55296\/56320<=n
     ·rw[if_pos o]
      refine⟨_,?_,d⟩;unfold B9b;rw[if_neg (by show¬t.high≠0;omega),if_neg (by show¬(55296<=n/\n<56320);omega)];exact⟨rfl,by show t.made++A3z n=_;rw[j],m⟩
     ·rw[if_neg o]
      have p:B9b ⟨3,t.made,a,b,c,4,n,t.high⟩=⟨0,t.made,a,b,c,4,n,n⟩:=by
       unfold B9b;rw[if_neg (by show¬t.high≠0;omega),if_pos (by show 55296<=n/\n<56320;omega)]
      simp only at d;rw[p]at d;rw[d];exact F0h n g ⟨0,t.made,a,b,c,4,n,n⟩ rfl j rfl (by omega) q
def A4t:Nat->Nat->Nat->LU8->Option (Nat×Nat)
 |0,low,top,_=>some (low,top)
 |k+1,low,top,[]=>A4t k (64*low) (64*top+63) []
 |k+1,low,top,c::r=>if c.toNat<128\/191<c.toNat then none else A4t k (64*low+c.toNat-128) (64*top+c.toNat-128) r
def A2k (c:Nat):Nat:=if 192<=c/\c<224 then 2 else if 224<=c/\c<240 then 3 else if 240<=c/\c<248 then 4 else 0
def B1v (c:Nat):Nat:=if 192<=c/\c<224 then 192 else if 224<=c/\c<240 then 224 else 240
def A7r (k:Nat):Nat:=if k=2 then 128 else if k=3 then 2048 else 65536
def A4u (k low top:Nat):Nat:=if top<A7r k\/1114111<low\/(55296<=low/\top<=57343)then 0 else k
def B1w (c:Nat) (r:LU8):Nat:=if A2k c=0 then 0 else match A4t (A2k c-1) (c-B1v c) (c-B1v c) r with
 |none=>0
 |some (low,top)=>A4u (A2k c) low top
def A0n:LU8->Nat
 |[]=>0
 |c::r=>B1w c.toNat r
def A6c (p:LU8):LU8->RO (LU8)
 |[]=>.ended
 |c::r=>if A0n (p++[c])=0 then .wrong 2 (c::r)else if(p++[c]).length=A0n (p++[c])then .ok (p++[c]) r else A6c (p++[c]) r
theorem F7i {n:Nat} (h:192<=n/\n<224):A2k n=2/\B1v n=192:=by
 unfold A2k B1v;rw[if_pos h,if_pos h];exact⟨rfl,rfl⟩
theorem F7j {n:Nat} (h:224<=n/\n<240):A2k n=3/\B1v n=224:=by
 unfold A2k B1v;rw[if_neg (by omega),if_pos h,if_neg (by omega),if_pos h];exact⟨rfl,rfl⟩
theorem F7k {n:Nat} (h:240<=n/\n<248):A2k n=4/\B1v n=240:=by
 unfold A2k B1v;rw[if_neg (by omega),if_neg (by omega),if_pos h,if_neg (by omega),if_neg (by omega)];exact⟨rfl,rfl⟩
theorem G4c {n:Nat} (h:n<192\/248<=n):A2k n=0:=by
 unfold A2k;rw[if_neg (by omega),if_neg (by omega),if_neg (by omega)]
theorem G1d {n:Nat} (h:n<192\/248<=n) (r:LU8):B1w n r=0:=by
 unfold B1w;rw[G4c h];rfl
def C2z (k:Nat):Option (Nat×Nat)->Nat
 |none=>0
 |some (low,top)=>A4u k low top
theorem D1y {n:Nat} (h:192<=n/\n<224) (r:LU8):B1w n r=C2z 2 (A4t 1 (n-192) (n-192) r):=by
 unfold B1w;rw[(F7i h).1,(F7i h).2];cases A4t 1 (n-192) (n-192) r<;>rfl
theorem C5p {n:Nat} (h:224<=n/\n<240) (r:LU8):B1w n r=C2z 3 (A4t 2 (n-224) (n-224) r):=by
 unfold B1w;rw[(F7j h).1,(F7j h).2];cases A4t 2 (n-224) (n-224) r<;>rfl
theorem C1n {n:Nat} (h:240<=n/\n<248) (r:LU8):B1w n r=C2z 4 (A4t 3 (n-240) (n-240) r):=by
 unfold B1w;rw[(F7k h).1,(F7k h).2];cases A4t 3 (n-240) (n-240) r<;>rfl
theorem A2g {k a b:Nat} (h:¬(b<A7r k\/1114111<a\/(55296<=a/\b<=57343))):A4u k a b=k:=if_neg h
theorem A6v {k a b:Nat} (h:b<A7r k\/1114111<a\/(55296<=a/\b<=57343)):A4u k a b=0:=if_pos h
theorem B6z:A7r 2=128:=rfl
theorem B4q:A7r 3=2048:=rfl
theorem B1x:A7r 4=65536:=rfl
theorem A7s {k a b:Nat} {c:UInt8} {r:LU8} (h:c.toNat<128\/191<c.toNat):A4t (k+1) a b (c::r)=none:=by
 rw[A4t,if_pos h]
theorem A1v {k a b:Nat} {c:UInt8} {r:LU8} (h:¬(c.toNat<128\/191<c.toNat)):A4t (k+1) a b (c::r)=A4t k (64*a+c.toNat-128) (64*b+c.toNat-128) r:=by
 rw[A4t,if_neg h]
def loB (c:Nat):Nat:=if c=224 then 160 else if c=240 then 144 else 128
def hiB (c:Nat):Nat:=if c=237 then 159 else if c=244 then 143 else 191
def A8z (c:Nat):Nat:=if c<=223 then 1 else if c<=239 then 2 else 3
theorem E3b (n:Nat):(n=224->loB n=160)/\(n=240->loB n=144)/\(n≠224->n≠240->loB n=128):=by
 unfold loB;refine⟨λh=>if_pos h,λh=>?_,λh1 h2=>?_⟩
 ·rw[if_neg (by omega),if_pos h]
 ·rw[if_neg h1,if_neg h2]
theorem E3c (n:Nat):(n=237->hiB n=159)/\(n=244->hiB n=143)/\(n≠237->n≠244->hiB n=191):=by
 unfold hiB;refine⟨λh=>if_pos h,λh=>?_,λh1 h2=>?_⟩
 ·rw[if_neg (by omega),if_pos h]
 ·rw[if_neg h1,if_neg h2]
theorem E3d (n:Nat):(194<=n/\n<=244->B1w n []=A8z n+1)/\(¬(194<=n/\n<=244)->B1w n []=0):=by
 by_cases a:192<=n/\n<224
 ·rw[D1y a]
  show(_->A4u 2 (64*(n-192)) (64*(n-192)+63)=_)/\(_->A4u 2 (64*(n-192)) (64*(n-192)+63)=_)
  refine⟨λh=>?_,λh=>A6v (by rw[B6z];omega)⟩;rw[A2g (by rw[B6z];omega),A8z,if_pos (by omega)]
 by_cases b:224<=n/\n<240
 ·rw[C5p b]
  show(_->A4u 3 (64*(64*(n-224))) (64*(64*(n-224)+63)+63)=_)/\(_->A4u 3 (64*(64*(n-224))) (64*(64*(n-224)+63)+63)=_)
  refine⟨λh=>?_,λh=>by omega⟩;rw[A2g (by rw[B4q];omega),A8z,if_neg (by omega),if_pos (by omega)]
 by_cases c:240<=n/\n<248
 ·rw[C1n c]
  show(_->A4u 4 (64*(64*(64*(n-240)))) (64*(64*(64*(n-240)+63)+63)+63)=_)/\(_->A4u 4 (64*(64*(64*(n-240)))) (64*(64*(64*(n-240)+63)+63)+63)=_)
  refine⟨λh=>?_,λh=>A6v (by rw[B1x];omega)⟩;rw[A2g (by rw[B1x];omega),A8z,if_neg (by omega),if_neg (by omega)]
 ·rw[G1d (by omega)]
  exact⟨λh=>by omega,λ_=>rfl⟩
theorem D7p (n:Nat) (c:UInt8) (l:194<=n/\n<=244):(loB n<=c.toNat/\c.toNat<=hiB n->B1w n [c]=A8z n+1)/\(¬(loB n<=c.toNat/\c.toNat<=hiB n)->B1w n [c]=0):=by
 obtain⟨m,o,p⟩:=E3b n;obtain⟨i,j,k⟩:=E3c n;generalize loB n=a at*;generalize hiB n=b at*;by_cases d:c.toNat<128\/191<c.toNat
 ·have g:B1w n [c]=0:=by
   by_cases e:192<=n/\n<224
   ·rw[D1y e,A7s d];rfl
   by_cases f:224<=n/\n<240
   ·rw[C5p f,A7s d];rfl
   ·rw[C1n (by omega),A7s d];rfl
  exact⟨λh=>by omega,λ_=>g⟩
 by_cases e:192<=n/\n<224
 ·rw[D1y e,A1v d]
  show(_->A4u 2 (64*(n-192)+c.toNat-128) (64*(n-192)+c.toNat-128)=_)/\(_->A4u 2 (64*(n-192)+c.toNat-128) (64*(n-192)+c.toNat-128)=_)
  rw[A2g (by rw[B6z];omega),A8z,if_pos (by omega)];exact⟨λ_=>rfl,λh=>by omega⟩
 by_cases f:224<=n/\n<240
 ·rw[C5p f,A1v d]
  show(_->A4u 3 (64*(64*(n-224)+c.toNat-128)) (64*(64*(n-224)+c.toNat-128)+63)=_)/\(_->A4u 3 (64*(64*(n-224)+c.toNat-128)) (64*(64*(n-224)+c.toNat-128)+63)=_)
  refine⟨λh=>?_,λh=>A6v (by rw[B4q];omega)⟩;rw[A2g (by rw[B4q];omega),A8z,if_neg (by omega),if_pos (by omega)]
 ·rw[C1n (by omega),A1v d]
  show(_->A4u 4 (64*(64*(64*(n-240)+c.toNat-128))) (64*(64*(64*(n-240)+c.toNat-128)+63)+63)=_)/\(_->A4u 4 (64*(64*(64*(n-240)+c.toNat-128))) (64*(64*(64*(n-240)+c.toNat-128)+63)+63)=_)
  refine⟨λh=>?_,λh=>A6v (by rw[B1x];omega)⟩;rw[A2g (by rw[B1x];omega),A8z,if_neg (by omega),if_neg (by omega)]
theorem E3e (n:Nat) (c e:UInt8) (o:224<=n/\n<=244) (m:loB n<=c.toNat/\c.toNat<=hiB n):(128<=e.toNat/\e.toNat<=191->B1w n [c,e]=A8z n+1)/\(¬(128<=e.toNat/\e.toNat<=191)->B1w n [c,e]=0):=by
 obtain⟨p,q,r⟩:=E3b n;obtain⟨j,k,l⟩:=E3c n;generalize loB n=a at*;generalize hiB n=b at*;have d:¬(c.toNat<128\/191<c.toNat):=by omega
 by_cases f:e.toNat<128\/191<e.toNat
 ·have i:B1w n [c,e]=0:=by
   by_cases g:224<=n/\n<240
   ·rw[C5p g,A1v d,A7s f];rfl
   ·rw[C1n (by omega),A1v d,A7s f];rfl
  exact⟨λh=>by omega,λ_=>i⟩
 by_cases g:224<=n/\n<240
 ·rw[C5p g,A1v d,A1v f]
  show(_->A4u 3 (64*(64*(n-224)+c.toNat-128)+e.toNat-128) (64*(64*(n-224)+c.toNat-128)+e.toNat-128)=_)/\(_->A4u 3 (64*(64*(n-224)+c.toNat-128)+e.toNat-128) (64*(64*(n-224)+c.toNat-128)+e.toNat-128)=_)
  rw[A2g (by rw[B4q];omega),A8z,if_neg (by omega),if_pos (by omega)];exact⟨λ_=>rfl,λh=>by omega⟩
 ·rw[C1n (by omega),A1v d,A1v f]
  show(_->A4u 4 (64*(64*(64*(n-240)+c.toNat-128)+e.toNat-128)) (64*(64*(64*(n-240)+c.toNat-128)+e.toNat-128)+63)=_)/\(_->A4u 4 (64*(64*(64*(n-240)+c.toNat-128)+e.toNat-128)) (64*(64*(64*(n-240)+c.toNat-128)+e.toNat-128)+63)=_)
  rw[A2g (by rw[B1x];omega),A8z,if_neg (by omega),if_neg (by omega)];exact⟨λ_=>rfl,λh=>by omega⟩
theorem D7q (n:Nat) (c e f:UInt8) (p:240<=n/\n<=244) (m:loB n<=c.toNat/\c.toNat<=hiB n) (o:128<=e.toNat/\e.toNat<=191):(128<=f.toNat/\f.toNat<=191->B1w n [c,e,f]=4)/\(¬(128<=f.toNat/\f.toNat<=191)->B1w n [c,e,f]=0):=by
 obtain⟨q,r,s⟩:=E3b n;obtain⟨j,k,l⟩:=E3c n;generalize loB n=a at*;generalize hiB n=b at*;have d:¬(c.toNat<128\/191<c.toNat):=by omega
 have g:¬(e.toNat<128\/191<e.toNat):=by omega
 rw[C1n (by omega),A1v d,A1v g];by_cases i:f.toNat<128\/191<f.toNat
 ·rw[A7s i]
  exact⟨λh=>by omega,λ_=>rfl⟩
 ·rw[A1v i]
  show(_->A4u 4 (64*(64*(64*(n-240)+c.toNat-128)+e.toNat-128)+f.toNat-128) (64*(64*(64*(n-240)+c.toNat-128)+e.toNat-128)+f.toNat-128)=_)/\(_->A4u 4 (64*(64*(64*(n-240)+c.toNat-128)+e.toNat-128)+f.toNat-128) (64*(64*(64*(n-240)+c.toNat-128)+e.toNat-128)+f.toNat-128)=_)
  rw[A2g (by rw[B1x];omega)];exact⟨λ_=>rfl,λh=>by omega⟩
theorem C5q {t:Tr} {c:UInt8} {r:LU8} (a:t.st=1) (h:c.toNat<t.lo\/t.hi<c.toNat):A1i t (c::r)=.wrong 2 (c::r):=
 A5t (by rw[E2z a,E9k,if_pos h];rfl)
theorem F7m {t:Tr} {c:UInt8} {r:LU8} (a:t.st=1) (h:¬(c.toNat<t.lo\/t.hi<c.toNat)):A1i t (c::r)=A1i ⟨if t.lack-1=0 then 0 else t.st,t.made++[c],t.lack-1,128,191,t.dg,t.code,t.high⟩ r:=
 A6u (by rw[E2z a,E9k,if_neg h];rfl)
theorem F0i (n:Nat):(n<=223->A8z n=1)/\(224<=n->n<=239->A8z n=2)/\(240<=n->A8z n=3):=by
 unfold A8z;refine⟨λh=>if_pos h,λh1 h2=>?_,λh=>?_⟩
 ·rw[if_neg (by omega),if_pos h2]
 ·rw[if_neg (by omega),if_neg (by omega)]
theorem D4p {t:Tr} {c:UInt8} (a:t.st=0) (d:t.high=0) (b:128<=c.toNat):A2q t c=(C4s t c).map (λt'=>(t',false)):=by
 rw[B3s a,A9f,if_neg (by rintro rfl;exact absurd b (by decide)),if_neg (by omega),if_neg (by rintro rfl;exact absurd b (by decide)),if_neg (by omega),if_neg (by omega)]
theorem A5c (p:LU8) (c:UInt8) (r:LU8):A6c p (c::r)=if A0n (p++[c])=0 then .wrong 2 (c::r)else if(p++[c]).length=A0n (p++[c])then .ok (p++[c]) r else A6c (p++[c]) r:=by rw[A6c]
theorem D4q (j:LU8) (t:Tr) (h:Tx0 j t) (c:UInt8) (v:128<=c.toNat) (r:LU8):
 match A6c [] (c::r)with
 |.ok s q=>∃t',Tx0 (j++s) t'/\A1i t (c::r)=A1i t' q
 |.wrong e q=>A1i t (c::r)=.wrong e q
 |.ended=>A1i t (c::r)=.ended:=by
 obtain⟨i,m,b⟩:=h;obtain⟨z,A⟩:=E3d c.toNat;obtain⟨x,y,n⟩:=F0i c.toNat;rw[A5c,show A0n ([]++[c])=B1w c.toNat []from rfl];by_cases a:194<=c.toNat/\c.toNat<=244
 rotate_left
 ·rw[A a,if_pos rfl]
  refine A5t ?_;rw[D4p i b v,C4s,if_neg a];rfl
 rw[z a,if_neg (by omega),if_neg (by show¬1=_;omega)]
 have F:A2q t c=.ok (⟨1,t.made++[c],A8z c.toNat,loB c.toNat,hiB c.toNat,t.dg,t.code,t.high⟩,false):=by
  rw[D4p i b v,C4s,if_pos a];rfl
 rw[A6u F,List.nil_append];cases r with
 |nil=>rfl
 |cons d r=>
  obtain⟨B,C⟩:=D7p c.toNat d a;rw[A5c,show A0n ([c]++[d])=B1w c.toNat [d]from rfl];by_cases k:loB c.toNat<=d.toNat/\d.toNat<=hiB c.toNat
  rotate_left
  ·rw[C k,if_pos rfl]
   exact C5q rfl (by simp only;omega)
  rw[B k,if_neg (by omega),F7m rfl (by simp only;omega)];by_cases o:c.toNat<=223
  ·rw[if_pos (by show 2=_;rw[x o])]
   refine⟨_,⟨?_,?_,?_⟩,rfl⟩
   ·show(if A8z c.toNat-1=0 then 0 else 1)=0
    rw[x o];rfl
   ·show t.made++[c]++[d]=_
    rw[m,List.append_assoc]
   ·exact b
  rw[if_neg (by show¬2=_;omega)];cases r with
  |nil=>rfl
  |cons e r=>
   obtain⟨D,E⟩:=E3e c.toNat d e (by omega) k;have w:(if A8z c.toNat-1=0 then 0 else 1)=1:=if_neg (by omega);rw[A5c,show A0n ([c]++[d]++[e])=B1w c.toNat [d,e]from rfl];by_cases l:128<=e.toNat/\e.toNat<=191
   rotate_left
   ·rw[E l,if_pos rfl]
    exact C5q w (by simp only;omega)
   rw[D l,if_neg (by omega),F7m w (by simp only;omega)];by_cases p:c.toNat<=239
   ·rw[if_pos (by show 3=_;rw[y (by omega) p])]
    refine⟨_,⟨?_,?_,?_⟩,rfl⟩
    ·show(if A8z c.toNat-1-1=0 then 0 else _)=0
     rw[y (by omega) p];rfl
    ·show t.made++[c]++[d]++[e]=_
     rw[m];simp
    ·exact b
   rw[if_neg (by show¬3=_;rw[n (by omega)];omega)];cases r with
   |nil=>rfl
   |cons f r=>
    obtain⟨G,H⟩:=D7q c.toNat d e f (by omega) k l;have g:(if A8z c.toNat-1-1=0 then 0 else(if A8z c.toNat-1=0 then 0 else 1))=1:=by rw[n (by omega)];rfl
    rw[A5c,show A0n ([c]++[d]++[e]++[f])=B1w c.toNat [d,e,f]from rfl];by_cases u:128<=f.toNat/\f.toNat<=191
    rotate_left
    ·rw[H u,if_pos rfl]
     exact C5q g (by simp only;omega)
    rw[G u,if_neg (by omega),F7m g (by simp only;omega),if_pos (show([c]++[d]++[e]++[f]).length=4 from rfl)];refine⟨_,⟨?_,?_,?_⟩,rfl⟩
    ·show(if A8z c.toNat-1-1-1=0 then 0 else _)=0
     rw[n (by omega)];rfl
    ·show t.made++[c]++[d]++[e]++[f]=_
     rw[m];simp
    ·exact b
theorem F0j (a:List It) (c:List Nat) (i:Nat) (x:It) (h:a[i]? =some x):∃x',(bump a c)[i]? =some x'/\x'.n<=x.n+1/\x'.k=x.k:=by
 rcases List.eq_nil_or_concat c with rfl|⟨e,j,rfl⟩
 ·exact⟨x,h,by omega,rfl⟩
 ·rw[List.concat_eq_append,B4m,List.getElem?_modify,h]
  by_cases d:j=i
  ·exact⟨⟨x.k,x.n+1,x.b,x.s⟩,by simp[d],Nat.le_refl _,rfl⟩
  ·exact⟨x,by simp[d],by omega,rfl⟩
theorem F0k (a:List It) (b:List Nat):(bump a b).length=a.length:=by
 rcases List.eq_nil_or_concat b with rfl|⟨c,j,rfl⟩
 ·rfl
 ·rw[List.concat_eq_append,B4m,List.length_modify]
theorem TkOk.more {t:Tk} {k:Nat} (h:TkOk t k):TkOk t (k+1):=⟨h.st,h.digs,h.head,h.len,by have:=h.p1;omega,by have:=h.p2;omega,h.pw⟩
theorem G1e (k:Nat):TkOk t0 k:=by
 induction k with
 |zero=>exact E9g
 |succ k ih=>exact ih.more
theorem F7n (k:Nat):TrOk tr0 k:=by
 induction k with
 |zero=>exact F4u
 |succ k ih=>exact ih.more
theorem G1f:B3a t0:=λ_=>rfl
structure PsC (s:Ps) (m:Nat):Prop where
 dep1:1<=s.depth
 dep2:s.depth<=1000
 opn:∀i∈s.opn,∃x,s.items[i]? =some x/\x.n<=m
 oln:s.opn.length<=m
 iln:s.items.length<=m
 wln:s.word.length<=4
structure PsOk (s:Ps) (m k:Nat):Prop where
 c:PsC s m
 st:s.st<=9
 o13:s.st=1\/s.st=3->s.opn≠[]
 wrd:s.st=6->s.word≠[]
 tok:s.st≠7->s.tok=t0
 tk1:TkOk s.tok k
 tk2:B3a s.tok
 tx:s.st≠8->s.st≠9->s.tx=tr0
 txk:TrOk s.tx k
theorem PsC.up {s:Ps} {m c:Nat} (h:PsC s m) (d:m<=c):PsC s c:=
 ⟨h.dep1,h.dep2,λi hi=>by obtain⟨x,a,b⟩:=h.opn i hi;exact⟨x,a,by omega⟩,by have:=h.oln;omega,by have:=h.iln;omega,h.wln⟩
theorem PsC.ok {s:Ps} {m:Nat} (h:PsC s m) (c:m<=10000000):E2x s:=λi hi=>by obtain⟨x,a,b⟩:=h.opn i hi;exact⟨x,a,by omega⟩
theorem PsC.at {s:Ps} {m:Nat} (h:PsC s m) (k:Nat) (c:s.st=0\/s.st=2\/s.st=4\/s.st=5) (a:s.tok=t0) (b:s.tx=tr0):PsOk s m k:=
 ⟨h,by omega,λh=>by omega,λh=>by omega,λ_=>a,by rw[a];exact G1e k,by rw[a];exact G1f,λ_ _=>b,by rw[b];exact F7n k⟩
theorem PsC.endValue {s:Ps} {m:Nat} (h:PsC s m):PsC (A2h s) (m+1):=
 ⟨h.dep1,h.dep2,λi hi=>by
  obtain⟨x,a,b⟩:=h.opn i hi;obtain⟨d,c,e,_⟩:=F0j s.items s.opn i x a
  exact⟨d,c,by omega⟩,by have:=h.oln;show s.opn.length<=_;omega,by have:=h.iln;show(bump s.items s.opn).length<=_;rw[F0k];omega,h.wln⟩
theorem PsC.endInner {s:Ps} {m:Nat} (h:PsC s m):PsC (A5d s) (m+1):=
 PsC.endValue (s:=⟨s.depth,s.came,s.st,s.items,s.opn.dropLast,s.word,s.tok,s.tx⟩)
  ⟨h.dep1,h.dep2,λi hi=>h.opn i (List.dropLast_subset _ hi),by have:=h.oln;show s.opn.dropLast.length<=m;rw[List.length_dropLast];omega,h.iln,h.wln⟩
theorem PsC.item {s:Ps} {m:Nat} (h:PsC s m) (x:It) (st:Nat) (w:LU8) (e:w.length<=4) (t:Tk) (r:Tr):PsC ⟨s.depth,s.came,st,s.items++[x],s.opn,w,t,r⟩ (m+1):=by
 refine⟨h.dep1,h.dep2,?_,?_,?_,e⟩
 ·intro i d
  obtain⟨y,a,b⟩:=h.opn i d;refine⟨y,?_,by omega⟩
  show(s.items++[x])[i]? =some y
  rw[List.getElem?_append_left]
  ·exact a
  ·rcases Nat.lt_or_ge i s.items.length with c|c
   ·exact c
   ·rw[List.getElem?_eq_none c]at a;cases a
 ·have:=h.oln;show s.opn.length<=_;omega
 ·have:=h.iln;show(s.items++[x]).length<=_;simp;omega
theorem C8h {s g:Ps} {m k f st:Nat} (h:PsOk s m k) (o:s.st=0\/s.st=1) (j:st=1\/st=3) (e:A6b s f st=.ok g):PsOk g (m+1) k:=by
 unfold A6b at e;split at e
 ·cases e
 simp only[Except.ok.injEq]at e;subst e;have l:=h.tok (by omega);have n:=h.tx (by omega) (by omega);have a:=h.c.item ⟨f,0,0,[]⟩ st s.word h.c.wln s.tok s.tx;refine⟨⟨a.dep1,a.dep2,?_,?_,a.iln,a.wln⟩,by show st<=9;omega,λ_=>by simp,λ(h:st=6)=>by omega,λ_=>l,h.tk1,h.tk2,λ_ _=>n,h.txk⟩
 ·intro i d
  have d:i∈s.opn++[s.items.length]:=d;rcases List.mem_append.1 d with b|b
  ·exact a.opn i b
  ·simp at b
   subst b;exact⟨⟨f,0,0,[]⟩,by simp,Nat.zero_le _⟩
 ·have:=h.c.oln
  show(s.opn++[s.items.length]).length<=m+1
  simp;omega
theorem D7r {s l:Ps} {m k:Nat} {c:UInt8} (h:PsOk s m k) (f:s.st=0\/s.st=1) (e:A3c s c=.ok l):PsOk l (m+1) (k+1):=by
 have i:=h.tok (by omega);have j:=h.tx (by omega) (by omega)
 have b:∀kd rest,rest≠[]->rest.length<=4->PsOk (C2w s kd rest) (m+1) (k+1):=λkd rest hr hl=>
  ⟨h.c.item ⟨kd,0,0,[]⟩ 6 rest hl s.tok s.tx,by show 6<=9;omega,λ(h:6=1\/6=3)=>by omega,λ_=>hr,λ_=>i,h.tk1.more,h.tk2,λ_ _=>j,h.txk.more⟩
 have d:∀{s m},PsOk s m k->PsOk s m (k+1):=λh=>⟨h.c,h.st,h.o13,h.wrd,h.tok,h.tk1.more,h.tk2,h.tx,h.txk.more⟩
 unfold A3c at e;split at e
 ·simp only[Except.ok.injEq]at e;subst e;exact b _ _ (by simp) (by simp)
 split at e
 ·simp only[Except.ok.injEq]at e;subst e;exact b _ _ (by simp) (by simp)
 split at e
 ·simp only[Except.ok.injEq]at e;subst e;exact b _ _ (by simp) (by simp)
 split at e
 ·simp only[Except.ok.injEq]at e;subst e
  have a:=h.c.up (show m<=m+1 by omega);exact⟨⟨a.dep1,a.dep2,a.opn,a.oln,a.iln,a.wln⟩,by show 9<=9;omega,λ(h:9=1\/9=3)=>by omega,λ(h:9=6)=>by omega,λ_=>i,h.tk1.more,h.tk2,λ_ h=>absurd rfl h,h.txk.more⟩
 split at e
 ·exact d (C8h h f (.inl rfl) e)
 split at e
 ·exact d (C8h h f (.inr rfl) e)
 split at e
 ·cases e
 ·rename_i t hn
  simp only[Except.ok.injEq]at e;subst e;have g:=C7r h.tk1 h.tk2 hn;have a:=h.c.up (show m<=m+1 by omega);exact⟨⟨a.dep1,a.dep2,a.opn,a.oln,a.iln,a.wln⟩,by show 7<=9;omega,λ(h:7=1\/7=3)=>by omega,λ(h:7=6)=>by omega,λh=>absurd rfl h,g.1,g.2,λ_ _=>j,h.txk.more⟩
theorem D1z {s:Ps} {m k:Nat} (h:PsC s m) (st:Nat) (b:st=0\/st=2\/st=4\/st=5) (c:s.tok=t0) (d:s.tx=tr0):PsOk (C1m s st) (m+1) k:=
 PsC.at (s:=C1m s st) (by have a:=h.up (show m<=m+1 by omega);exact⟨a.dep1,a.dep2,a.opn,a.oln,a.iln,a.wln⟩) k b c d
theorem D2a {s d:Ps} {m k:Nat} {c:UInt8} (h:PsOk s m k) (f:s.st=5) (e:A4m s c=.ok d):PsOk d (m+1) (k+1):=by
 have a:=h.tok (by omega);have b:=h.tx (by omega) (by omega);unfold A4m at e;split at e
 ·simp only[Except.ok.injEq]at e;subst e;exact D1z h.c 0 (by omega) a b
 split at e
 ·simp only[Except.ok.injEq]at e;subst e;exact D1z h.c 2 (by omega) a b
 split at e
 ·simp only[Except.ok.injEq]at e;subst e;exact h.c.endInner.at (k+1) (.inr (.inr (.inr rfl))) a b
 ·cases e
theorem D4r {s f:Ps} {m k:Nat} {c:UInt8} (h:PsOk s m k) (g:s.st<=5) (e:B3p s c=.ok f):PsOk f (m+1) (k+1):=by
 have b:=h.tok (by omega);have d:=h.tx (by omega) (by omega);unfold B3p at e;split at e
 ·simp only[Except.ok.injEq]at e;subst e
  exact⟨h.c.up (by omega),h.st,h.o13,h.wrd,h.tok,h.tk1.more,h.tk2,h.tx,h.txk.more⟩
 unfold A3f at e;split at e
 ·simp only[Except.ok.injEq]at e;subst e;exact h.c.endInner.at (k+1) (.inr (.inr (.inr rfl))) b d
 split at e
 ·exact D7r h (by assumption) e
 split at e
 ·simp only[Except.ok.injEq]at e;subst e
  have a:=h.c.up (show m<=m+1 by omega);exact⟨⟨a.dep1,a.dep2,a.opn,a.oln,a.iln,a.wln⟩,by show 8<=9;omega,λ(h:8=1\/8=3)=>by omega,λ(h:8=6)=>by omega,λ_=>b,h.tk1.more,h.tk2,λh _=>absurd rfl h,h.txk.more⟩
 split at e
 ·simp only[Except.ok.injEq]at e;subst e;exact D1z h.c 0 (by omega) b d
 split at e
 ·rename_i h6
  exact D2a h h6.1 e
 ·cases e
theorem B9t {s a:Ps} {m k:Nat} (h:PsOk s m k) (f:s.st=7) (e:A2f s=.ok a):PsOk a (m+2) k/\a.st=5:=by
 have d:=h.tx (by omega) (by omega);unfold A2f at e;split at e
 ·cases e
 simp only[Except.ok.injEq]at e;subst e;have b:=(h.c.item ⟨3,0,(A3n s.tok).1,[]⟩ s.st s.word h.c.wln t0 s.tx).endValue;exact⟨b.at k (.inr (.inr (.inr rfl))) rfl d,rfl⟩
theorem C8i {s l:Ps} {m k:Nat} {c:UInt8} (h:PsOk s m k) (e:A1u s c=.ok l):PsOk l (m+3) (k+1):=by
 have b:∀{s m m'},PsOk s m (k+1)->m<=m'->PsOk s m' (k+1):=λh hm=>⟨h.c.up hm,h.st,h.o13,h.wrd,h.tok,h.tk1,h.tk2,h.tx,h.txk⟩
 unfold A1u at e;split at e
 ·
  rename_i h6
  have d:=h.tok (by omega);have i:=h.tx (by omega) (by omega);have f:=h.c.wln;unfold A6t at e;split at e
  ·cases e
  rename_i x r hw
  rw[hw]at f;simp at f;split at e
  ·cases e
  have a:PsC ⟨s.depth,s.came,s.st,s.items,s.opn,r,s.tok,s.tx⟩ m:=⟨h.c.dep1,h.c.dep2,h.c.opn,h.c.oln,h.c.iln,by show r.length<=4;omega⟩;split at e
  ·simp only[Except.ok.injEq]at e;subst e
   exact b (a.endValue.at (k+1) (.inr (.inr (.inr rfl))) d i) (by omega)
  ·rename_i hr
   simp only[Except.ok.injEq]at e;subst e;exact⟨a.up (by omega),h.st,λ(h:s.st=1\/s.st=3)=>by omega,λ_=>hr,λ_=>d,h.tk1.more,h.tk2,λ_ _=>i,h.txk.more⟩
 rename_i h6
 split at e
 ·
  rename_i h7
  have i:=h.tx (by omega) (by omega);unfold A6j at e;split at e
  ·rename_i t hn
   split at e
   ·cases e
   simp only[Except.ok.injEq]at e;subst e;have g:=C7r h.tk1 h.tk2 hn;have a:=h.c.up (show m<=m+3 by omega);exact⟨⟨a.dep1,a.dep2,a.opn,a.oln,a.iln,a.wln⟩,h.st,λ(h:s.st=1\/s.st=3)=>by omega,λ(h:s.st=6)=>by omega,λh=>absurd h7 h,g.1,g.2,λ_ _=>i,h.txk.more⟩
  ·split at e
   ·cases e
   ·rename_i s1 h1
    obtain⟨j,n⟩:=B9t h h7 h1;exact D4r j (by omega) e
 rename_i h7
 split at e
 ·
  rename_i h89
  have d:=h.tok h7;unfold A5r at e;split at e
  ·cases e
  ·rename_i t hn
   simp only[Except.ok.injEq]at e;subst e;have g:=C7s h.txk hn;have a:=h.c.up (show m<=m+3 by omega);exact⟨⟨a.dep1,a.dep2,a.opn,a.oln,a.iln,a.wln⟩,h.st,h.o13,h.wrd,h.tok,h.tk1.more,h.tk2,λ(h1:s.st≠8) (j:s.st≠9)=>by omega,g⟩
  ·rename_i t hn
   split at e
   ·simp only[Except.ok.injEq]at e;subst e
    exact b ((h.c.item ⟨4,0,0,t.made⟩ 4 s.word h.c.wln s.tok tr0).at (k+1) (.inr (.inr (.inl rfl))) d rfl) (by omega)
   ·simp only[Except.ok.injEq]at e;subst e
    exact b ((h.c.item ⟨4,0,0,t.made⟩ s.st s.word h.c.wln s.tok tr0).endValue.at (k+1) (.inr (.inr (.inr rfl))) d rfl) (by omega)
 ·rename_i h89
  have:=h.st;exact b (D4r h (by omega) e) (by omega)
theorem C8j {s:Ps} {m k:Nat} (h:PsOk s m k):PsOk (A9y s) m k:=⟨⟨h.c.dep1,h.c.dep2,h.c.opn,h.c.oln,h.c.iln,h.c.wln⟩,h.st,h.o13,h.wrd,h.tok,h.tk1,h.tk2,h.tx,h.txk⟩
theorem F5b (d:Nat) (a:1<=d) (b:d<=1000):PsOk (ps0 d) 0 0:=by
 refine PsC.at (s:=ps0 d) ⟨a,b,?_,?_,?_,?_⟩ 0 (.inl rfl) rfl rfl
 ·intro i c;cases c
 ·exact Nat.le_refl _
 ·exact Nat.le_refl _
 ·exact Nat.zero_le _
end Go.Proofs.YtmkkibaacclhnaaGreatDoor
