/-
  Part Xcd.
-/
import Derived.Test.YtmkkibaacclhnaaGreatDoorWt
import Derived.Test.YtmkkibaacclhnaaGreatDoorWm
import Derived.Lib.ValidLaws
import Derived.Test.YtmkkibaacclhnaaGreatDoorRc
import Derived.Test.YtmkkibaacclhnaaGreatDoorProg
import Derived.Ground.NamesProg
import Derived.WalkKit
import Derived.WalkMore
import Derived.Below
import Derived.Shelf.Lay
import Derived.Shelf.Unicode.ValidAny
import Derived.Test.YtmkkibaacclhnaaGreatDoorKep
import Derived.Laws.IdiomStrings
namespace Go.Proofs.YtmkkibaacclhnaaGreatDoor
open Go.RowKit Go.Shelf
set_option maxRecDepth 100000
set_option maxHeartbeats 16000000
theorem A3h {l r:LU8} {k:Nat} {j:Nat} {x:UInt8} (h:l.drop k=r) (b:r[j]? =some x):k+j<l.length/\(ofL l).get! (k+j)=x:=by
 rw[<-h,List.getElem?_drop]at b;obtain⟨a,c⟩:=List.getElem?_eq_some_iff.1 b;refine⟨a,?_⟩
 show(l.toArray)[k+j]! =x
 rw[getElem!_pos l.toArray (k+j) (by simpa using a)];simpa using c
theorem C1x {a:UInt8} {n:Nat} (h:a.toNat=n):UInt8.ofNat n=a:=by rw[<-h];simp
theorem C6c (l:LU8) (k:Nat) (c:UInt8) (r:LU8) (h:l.drop k=c::r) (b:c.toNat<128):Utf8.decode (ofL l) k=(c.toNat,1)/\A3z c.toNat=[c]:=by
 obtain⟨d,a⟩:=A3h (j:=0) h rfl;rw[Nat.add_zero]at a;refine⟨?_,?_⟩
 ·unfold Utf8.decode
  simp only[Nat.add_zero,a];rw[if_pos b]
 ·unfold A3z
  rw[if_pos b,C1x rfl]
theorem F1i (l:LU8) (k:Nat) (c d:UInt8) (r:LU8) (h:l.drop k=c::d::r) (i:192<=c.toNat/\c.toNat<224) (m:128<=d.toNat/\d.toNat<=191) (n:128<=64*(c.toNat-192)+d.toNat-128):
 Utf8.decode (ofL l) k=(64*(c.toNat-192)+d.toNat-128,2)/\A3z (64*(c.toNat-192)+d.toNat-128)=[c,d]:=by
 obtain⟨_,b⟩:=A3h (j:=0) h rfl;obtain⟨g,e⟩:=A3h (j:=1) h rfl;rw[Nat.add_zero]at b;have f:=A0c l;refine⟨?_,?_⟩
 ·unfold Utf8.decode
  simp only[Nat.add_zero,b,e,f];rw[if_neg (by omega),if_pos (by simp[g];omega),if_pos (by omega)];exact Prod.ext (by simp only;omega) rfl
 ·unfold A3z
  rw[if_neg (by omega),if_pos (by omega),C1x (a:=c) (by omega),C1x (a:=d) (by omega)]
theorem F1j (l:LU8) (k:Nat) (c d e:UInt8) (r:LU8) (h:l.drop k=c::d::e::r) (s:224<=c.toNat/\c.toNat<240) (t:128<=d.toNat/\d.toNat<=191) (u:128<=e.toNat/\e.toNat<=191) (n:Nat) (w:n=4096*(c.toNat-224)+64*(d.toNat-128)+(e.toNat-128)) (v:2048<=n) (x:n<55296\/(57344<=n/\n<=1114111)):
 Utf8.decode (ofL l) k=(n,3)/\A3z n=[c,d,e]:=by
 obtain⟨_,f⟩:=A3h (j:=0) h rfl;obtain⟨p,i⟩:=A3h (j:=1) h rfl;obtain⟨q,m⟩:=A3h (j:=2) h rfl;rw[Nat.add_zero]at f;have o:=A0c l;refine⟨?_,?_⟩
 ·unfold Utf8.decode
  simp only[Nat.add_zero,f,i,m,o];have g:c.toNat % 16*4096+d.toNat % 64*64+e.toNat % 64=n:=by omega
  have b:Utf8.valid (n:Int)=true:=by unfold Utf8.valid;simp;omega
  rw[if_neg (by omega),if_neg (by simp;omega),if_pos (by simp[p,q];omega),g,if_pos (by rw[b];simp;omega)]
 ·unfold A3z
  rw[if_neg (by omega),if_neg (by omega),if_pos (by omega),C1x (a:=c) (by omega),C1x (a:=d) (by omega),C1x (a:=e) (by omega)]
theorem F1k (l:LU8) (k:Nat) (c d e g:UInt8) (r:LU8) (h:l.drop k=c::d::e::g::r) (v:240<=c.toNat/\c.toNat<248) (w:128<=d.toNat/\d.toNat<=191) (x:128<=e.toNat/\e.toNat<=191) (y:128<=g.toNat/\g.toNat<=191) (n:Nat) (A:n=262144*(c.toNat-240)+4096*(d.toNat-128)+64*(e.toNat-128)+(g.toNat-128)) (z:65536<=n) (B:n<=1114111):
 Utf8.decode (ofL l) k=(n,4)/\A3z n=[c,d,e,g]:=by
 obtain⟨_,f⟩:=A3h (j:=0) h rfl;obtain⟨s,m⟩:=A3h (j:=1) h rfl;obtain⟨t,o⟩:=A3h (j:=2) h rfl;obtain⟨u,p⟩:=A3h (j:=3) h rfl;rw[Nat.add_zero]at f;have q:=A0c l;refine⟨?_,?_⟩
 ·unfold Utf8.decode
  simp only[Nat.add_zero,f,m,o,p,q];have i:c.toNat % 8*262144+d.toNat % 64*4096+e.toNat % 64*64+g.toNat % 64=n:=by omega
  have b:Utf8.valid (n:Int)=true:=by unfold Utf8.valid;simp;omega
  rw[if_neg (by omega),if_neg (by simp;omega),if_neg (by simp;omega),if_pos (by simp[s,t,u];omega),i,if_pos (by rw[b];simp;omega)]
 ·unfold A3z
  rw[if_neg (by omega),if_neg (by omega),if_neg (by omega),C1x (a:=c) (by omega),C1x (a:=d) (by omega),C1x (a:=e) (by omega),C1x (a:=g) (by omega)]
structure ChAt (l:LU8) (k n x:Nat):Prop where
 n1:1<=n
 le:k+n<=l.length
 de:Utf8.decode (ofL l) k=(x,n)
 en:A3z x=(l.drop k).take n
 va:x<55296\/(57344<=x/\x<=1114111)
 hi:128<=x->∀c,c∈(l.drop k).take n->128<=c.toNat
theorem G5j {c d:UInt8} (b:192<=c.toNat/\c.toNat<224) (h:A0n [c,d]≠0):(128<=d.toNat/\d.toNat<=191)/\128<=64*(c.toNat-192)+d.toNat-128:=by
 have h:B1w c.toNat [d]≠0:=h;rw[D1y b]at h;simp only[A4t]at h;split at h
 ·exact absurd rfl h
 ·have h:A4u 2 (64*(c.toNat-192)+d.toNat-128) (64*(c.toNat-192)+d.toNat-128)≠0:=h
  by_cases a:(64*(c.toNat-192)+d.toNat-128)<A7r 2\/1114111<(64*(c.toNat-192)+d.toNat-128)\/(55296<=(64*(c.toNat-192)+d.toNat-128)/\(64*(c.toNat-192)+d.toNat-128)<=57343)
  ·exact absurd (A6v a) h
  ·rw[B6z]at a
   omega
theorem G5k {c d e:UInt8} (b:224<=c.toNat/\c.toNat<240) (h:A0n [c,d,e]≠0):(128<=d.toNat/\d.toNat<=191)/\(128<=e.toNat/\e.toNat<=191)/\2048<=4096*(c.toNat-224)+64*(d.toNat-128)+(e.toNat-128)/\(4096*(c.toNat-224)+64*(d.toNat-128)+(e.toNat-128)<55296\/(57344<=4096*(c.toNat-224)+64*(d.toNat-128)+(e.toNat-128)/\4096*(c.toNat-224)+64*(d.toNat-128)+(e.toNat-128)<=1114111)):=by
 have h:B1w c.toNat [d,e]≠0:=h;rw[C5p b]at h;simp only[A4t]at h;split at h
 ·exact absurd rfl h
 ·split at h
  ·exact absurd rfl h
  ·have h:A4u 3 (64*(64*(c.toNat-224)+d.toNat-128)+e.toNat-128) (64*(64*(c.toNat-224)+d.toNat-128)+e.toNat-128)≠0:=h
   by_cases a:(64*(64*(c.toNat-224)+d.toNat-128)+e.toNat-128)<A7r 3\/1114111<(64*(64*(c.toNat-224)+d.toNat-128)+e.toNat-128)\/(55296<=(64*(64*(c.toNat-224)+d.toNat-128)+e.toNat-128)/\(64*(64*(c.toNat-224)+d.toNat-128)+e.toNat-128)<=57343)
   ·exact absurd (A6v a) h
   ·rw[B4q]at a
    omega
theorem G5m {c d e g:UInt8} (b:240<=c.toNat/\c.toNat<248) (h:A0n [c,d,e,g]≠0):(128<=d.toNat/\d.toNat<=191)/\(128<=e.toNat/\e.toNat<=191)/\(128<=g.toNat/\g.toNat<=191)/\65536<=262144*(c.toNat-240)+4096*(d.toNat-128)+64*(e.toNat-128)+(g.toNat-128)/\262144*(c.toNat-240)+4096*(d.toNat-128)+64*(e.toNat-128)+(g.toNat-128)<=1114111:=by
 have h:B1w c.toNat [d,e,g]≠0:=h;rw[C1n b]at h;simp only[A4t]at h;split at h
 ·exact absurd rfl h
 ·split at h
  ·exact absurd rfl h
  ·split at h
   ·exact absurd rfl h
   ·have h:A4u 4 (64*(64*(64*(c.toNat-240)+d.toNat-128)+e.toNat-128)+g.toNat-128) (64*(64*(64*(c.toNat-240)+d.toNat-128)+e.toNat-128)+g.toNat-128)≠0:=h
    by_cases a:(64*(64*(64*(c.toNat-240)+d.toNat-128)+e.toNat-128)+g.toNat-128)<A7r 4\/1114111<(64*(64*(64*(c.toNat-240)+d.toNat-128)+e.toNat-128)+g.toNat-128)\/(55296<=(64*(64*(64*(c.toNat-240)+d.toNat-128)+e.toNat-128)+g.toNat-128)/\(64*(64*(64*(c.toNat-240)+d.toNat-128)+e.toNat-128)+g.toNat-128)<=57343)
    ·exact absurd (A6v a) h
    ·rw[B1x]at a
     omega
theorem F5g (l:LU8) (k f:Nat) (c:UInt8) (r:LU8) (j:l.drop k=c::r) (o:uGo (f+1) (c::r)=true):∃n x,ChAt l k n x/\uGo f (l.drop (k+n))=true:=by
 have p:l.length=k+(r.length+1):=by
  have:=congrArg List.length j;simp at this;omega
 rw[uGo]at o;by_cases A:c.toNat<128
 ·rw[if_pos A]at o
  obtain⟨I,i⟩:=C6c l k c r j A;refine⟨1,c.toNat,⟨Nat.le_refl _,by omega,I,by rw[j,i];rfl,.inl (by omega),λh=>absurd h (by omega)⟩,?_⟩;rw[<-List.drop_drop,j];exact o
 ·rw[if_neg A]at o
  by_cases b:A0n [c]=0\/(c::r).length<A0n [c]
  ·rw[if_pos b]at o;cases o
  ·rw[if_neg b]at o
   by_cases i:A0n ((c::r).take (A0n [c]))=0
   ·rw[if_pos i]at o;cases o
   ·rw[if_neg i]at o
    have B:A0n [c]=A2k c.toNat:=by
     rcases A5v c []with h|h
     ·exact absurd (.inl h) b
     ·exact h
    rw[B]at b i o
    have u:A0n ((c::r).take (A2k c.toNat))=A2k c.toNat:=by
     have G:0<A2k c.toNat:=by omega
     obtain⟨m,H⟩:∃m,A2k c.toNat=m+1:=⟨A2k c.toNat-1,by omega⟩;rw[H]at i ⊢;rw[List.take_succ_cons]at i ⊢;rcases A5v c (r.take m)with h|h
     ·exact absurd h i
     ·rw[h];exact H
    rw[u]at o;have J:(c::r).drop (A2k c.toNat)=l.drop (k+A2k c.toNat):=by rw[<-j,List.drop_drop]
    rw[J]at o;simp only[List.length_cons]at b
    have G:(192<=c.toNat/\c.toNat<224)\/(224<=c.toNat/\c.toNat<240)\/(240<=c.toNat/\c.toNat<248):=by
     unfold A2k at b;by_cases C:192<=c.toNat/\c.toNat<224
     ·exact .inl C
     ·by_cases D:224<=c.toNat/\c.toNat<240
      ·exact .inr (.inl D)
      ·by_cases E:240<=c.toNat/\c.toNat<248
       ·exact .inr (.inr E)
       ·rw[if_neg C,if_neg D,if_neg E]at b
        simp at b
    rcases G with a|a|a
    ·have t:A2k c.toNat=2:=(F7i a).1
     rw[t]at o i b
     match r,j,i,b with
     |[],_,_,b=>simp at b
     |d::r,j,i,_=>
      obtain⟨q,s⟩:=G5j (d:=d) a i;obtain⟨v,w⟩:=F1i l k c d r j a q s;refine⟨2,_,⟨by omega,by simp at p;omega,v,by rw[j,w];rfl,.inl (by omega),λ_ x hx=>?_⟩,o⟩;rw[j]at hx;simp at hx;rcases hx with rfl|rfl<;>omega
    ·have t:A2k c.toNat=3:=(F7j a).1
     rw[t]at o i b
     match r,j,i,b with
     |[],_,_,b=>simp at b
     |[_],_,_,b=>simp at b
     |d::e::r,j,i,_=>
      obtain⟨q,s,z,y⟩:=G5k (d:=d) (e:=e) a i;obtain⟨v,w⟩:=F1j l k c d e r j a q s _ rfl z y;refine⟨3,_,⟨by omega,by simp at p;omega,v,by rw[j,w];rfl,y,λ_ x hx=>?_⟩,o⟩;rw[j]at hx;simp at hx;rcases hx with rfl|rfl|rfl<;>omega
    ·have t:A2k c.toNat=4:=(F7k a).1
     rw[t]at o i b
     match r,j,i,b with
     |[],_,_,b=>simp at b
     |[_],_,_,b=>simp at b
     |[_,_],_,_,b=>simp at b
     |d::e::g::r,j,i,_=>
      obtain⟨q,s,z,y,F⟩:=G5m (d:=d) (e:=e) (g:=g) a i;obtain⟨v,w⟩:=F1k l k c d e g r j a q s z _ rfl y F;refine⟨4,_,⟨by omega,by simp at p;omega,v,by rw[j,w];rfl,.inr ⟨by omega,F⟩,λ_ x hx=>?_⟩,o⟩;rw[j]at hx;simp at hx;rcases hx with rfl|rfl|rfl|rfl<;>omega
theorem D8i (s:LU8) (h:∀c,c∈s->128<=c.toNat):s.flatMap A4f=s:=by
 induction s with
 |nil=>rfl
 |cons c s ih=>
  have a:=h c (by simp);rw[List.flatMap_cons,ih (λx hx=>h x (by simp[hx]))];unfold A4f;rw[if_neg (by omega),if_neg (by omega),if_neg (by omega),if_neg (by omega),if_neg (by omega),if_neg (by omega),if_neg (by omega)];rfl
theorem ChAt.quote {l:LU8} {k n x:Nat} (h:ChAt l k n x):C3m x=((l.drop k).take n).flatMap A4f:=by
 by_cases b:128<=x
 ·rw[D8i _ (h.hi b),<-h.en]
  unfold C3m;rw[if_neg (by omega),if_neg (by omega),if_neg (by omega),if_neg (by omega),if_neg (by omega),if_neg (by omega),if_neg (by omega)]
 ·have a:A3z x=[UInt8.ofNat x]:=by unfold A3z;rw[if_pos (by omega)]
  rw[<-h.en,a,List.flatMap_singleton];unfold C3m A4f;rw[a,UInt8.toNat_ofNat_of_lt' (show x<256 by omega)]
theorem G1w {c d:UInt8} (a:192<=c.toNat/\c.toNat<224) (b:128<=d.toNat/\d.toNat<=191) (e:128<=64*(c.toNat-192)+d.toNat-128):A0n [c]=2/\A0n [c,d]=2:=by
 refine⟨?_,?_⟩
 ·show B1w c.toNat []=2
  rw[D1y a]
  show A4u 2 (64*(c.toNat-192)) (64*(c.toNat-192)+63)=2
  exact A2g (by rw[B6z];omega)
 ·show B1w c.toNat [d]=2
  rw[D1y a,A1v (by omega)];exact A2g (by rw[B6z];omega)
theorem G1x {c d e:UInt8} (a:224<=c.toNat/\c.toNat<240) (b:128<=d.toNat/\d.toNat<=191) (f:128<=e.toNat/\e.toNat<=191) (n:Nat) (h:n=4096*(c.toNat-224)+64*(d.toNat-128)+(e.toNat-128)) (g:2048<=n) (i:n<55296\/(57344<=n/\n<=1114111)):A0n [c]=3/\A0n [c,d,e]=3:=by
 refine⟨?_,?_⟩
 ·show B1w c.toNat []=3
  rw[C5p a]
  show A4u 3 (64*(64*(c.toNat-224))) (64*(64*(c.toNat-224)+63)+63)=3
  exact A2g (by rw[B4q];omega)
 ·show B1w c.toNat [d,e]=3
  rw[C5p a,A1v (by omega),A1v (by omega)];exact A2g (by rw[B4q];omega)
theorem G1y {c d e g:UInt8} (a:240<=c.toNat/\c.toNat<248) (b:128<=d.toNat/\d.toNat<=191) (f:128<=e.toNat/\e.toNat<=191) (h:128<=g.toNat/\g.toNat<=191) (n:Nat) (j:n=262144*(c.toNat-240)+4096*(d.toNat-128)+64*(e.toNat-128)+(g.toNat-128)) (i:65536<=n) (k:n<=1114111):A0n [c]=4/\A0n [c,d,e,g]=4:=by
 refine⟨?_,?_⟩
 ·show B1w c.toNat []=4
  rw[C1n a]
  show A4u 4 (64*(64*(64*(c.toNat-240)))) (64*(64*(64*(c.toNat-240)+63)+63)+63)=4
  exact A2g (by rw[B1x];omega)
 ·show B1w c.toNat [d,e,g]=4
  rw[C1n a,A1v (by omega),A1v (by omega),A1v (by omega)];exact A2g (by rw[B1x];omega)
theorem B8b {c:UInt8} {r:LU8} {k:Nat} (f:Nat) (e:128<=c.toNat) (d:0<k) (g:k<=r.length+1) (a:A0n [c]=k) (b:A0n ((c::r).take k)=k):uGo (f+1) (c::r)=uGo f ((c::r).drop k):=by
 rw[uGo,if_neg (by omega),a,b,if_neg (by simp;omega),if_neg (by omega)]
theorem G1z (f:Nat) (c:UInt8) (r:LU8) (h:¬((Lib.decodeL (c::r)).1=65533/\(Lib.decodeL (c::r)).2=1)):uGo (f+1) (c::r)=uGo f ((c::r).drop (Lib.decodeL (c::r)).2):=by
 obtain⟨D,a⟩:∃D,Lib.decodeL (c::r)=D:=⟨_,rfl⟩;rw[a]at h ⊢;have a:Utf8.decode (ofL (c::r)) 0=D:=a;have t:=A0c (c::r);have p:=(A3h (l:=c::r) (k:=0) (j:=0) (r:=c::r) rfl rfl).2;unfold Utf8.decode at a;rw[Nat.add_zero]at p;simp only[Nat.add_zero,t,p]at a;split at a
 ·rename_i hc
  subst a;rw[uGo,if_pos hc];rfl
 ·rename_i hc
  split at a
  ·rename_i h2
   match r,h2,a with
   |[],h2,_=>simp at h2
   |d::r,h2,a=>
    have n:=(A3h (l:=c::d::r) (k:=0) (j:=1) (r:=c::d::r) rfl rfl).2;simp only[n]at h2 a;simp at h2;split at a
    ·subst a
     obtain⟨i,m⟩:=G1w (c:=c) (d:=d) (by omega) (by omega) (by omega);exact B8b f (by omega) (by omega) (by simp) i m
    ·subst a;exact absurd ⟨rfl,rfl⟩ h
  ·split at a
   ·rename_i h3
    match r,h3,a with
    |[],h3,_=>simp at h3
    |[_],h3,_=>simp at h3
    |d::e::r,h3,a=>
     have n:=(A3h (l:=c::d::e::r) (k:=0) (j:=1) (r:=c::d::e::r) rfl rfl).2;have o:=(A3h (l:=c::d::e::r) (k:=0) (j:=2) (r:=c::d::e::r) rfl rfl).2;simp only[n,o]at h3 a;simp at h3;split at a
     ·rename_i hv
      subst a;simp[Utf8.valid]at hv;obtain⟨i,m⟩:=G1x (c:=c) (d:=d) (e:=e) (by omega) (by omega) (by omega) _ rfl (by omega) (by omega);exact B8b f (by omega) (by omega) (by simp) i m
     ·subst a;exact absurd ⟨rfl,rfl⟩ h
   ·split at a
    ·rename_i h4
     have b:3<r.length+1:=by
      simp only[Bool.and_eq_true,decide_eq_true_eq,List.length_cons]at h4;omega
     obtain⟨d,e,g,q,hr⟩:∃d e g q,r=d::e::g::q:=by
      rcases r with _|⟨d,_|⟨e,_|⟨g,r⟩⟩⟩
      ·simp at b
      ·simp at b
      ·simp at b
      ·exact⟨d,e,g,r,rfl⟩
     subst hr
     rename LU8=>r
     have n:=(A3h (l:=c::d::e::g::r) (k:=0) (j:=1) (r:=c::d::e::g::r) rfl rfl).2;have o:=(A3h (l:=c::d::e::g::r) (k:=0) (j:=2) (r:=c::d::e::g::r) rfl rfl).2;have s:=(A3h (l:=c::d::e::g::r) (k:=0) (j:=3) (r:=c::d::e::g::r) rfl rfl).2;simp only[n,o,s]at h4 a;simp at h4;split at a
     ·rename_i hv
      subst a;simp[Utf8.valid]at hv;obtain⟨i,m⟩:=G1y (c:=c) (d:=d) (e:=e) (g:=g) (by omega) (by omega) (by omega) (by omega) _ rfl (by omega) (by omega);exact B8b f (by omega) (by omega) (by simp) i m
     ·subst a;exact absurd ⟨rfl,rfl⟩ h
    ·subst a;exact absurd ⟨rfl,rfl⟩ h
theorem G2a (f:Nat) (c:UInt8) (r:LU8) (h:(Lib.decodeL (c::r)).1=65533/\(Lib.decodeL (c::r)).2=1):uGo (f+1) (c::r)=false:=by
 by_cases d:uGo (f+1) (c::r)=true
 ·obtain⟨n,x,b,-⟩:=F5g (c::r) 0 f c r rfl d
  have g:Utf8.decode (ofL (c::r)) 0=Lib.decodeL (c::r):=rfl;have a:=b.de;rw[g]at a;rw[a]at h;obtain⟨rfl,rfl⟩:=h;have e:=congrArg List.length b.en;simp[A3z]at e
 ·simpa using d
theorem E4s (l:LU8):Lib.validD l=isU l:=by
 have a:∀n:Nat,∀l:LU8,l.length<=n->Lib.validD l=uGo n l:=by
  intro n
  induction n with
  |zero=>
   intro l b;have:l=[]:=List.eq_nil_of_length_eq_zero (by omega);subst this;rfl
  |succ n ih=>
   intro l b;cases l with
   |nil=>rfl
   |cons c r=>
    rw[Lib.validD_step _ (by simp)];have d:=Lib.decodeL_width (c::r);by_cases h:(Lib.decodeL (c::r)).1=65533/\(Lib.decodeL (c::r)).2=1
    ·rw[if_pos h,G2a n c r h]
    ·rw[if_neg h,G1z n c r h]
     refine ih _ ?_;rw[List.length_drop];simp only[List.length_cons]at b ⊢;omega
 exact a l.length l (Nat.le_refl _)
theorem D8j (f:Nat) (a b:LU8) (q:uGo f a=true) (u:a.length<=f) (n:isU b=true):isU (a++b)=true:=by
 have e:∀f a g,uGo f a=true->a.length<=f->a.length+b.length<=g->uGo g (a++b)=true:=by
  intro f
  induction f with
  |zero=>
   intro a g _ l i;have:a=[]:=List.eq_nil_of_length_eq_zero (by omega);subst this;rw[List.nil_append,D5c g b.length b (by simpa using i) (Nat.le_refl _)];exact n
  |succ f ih=>
   intro a g d l i;cases a with
   |nil=>
    rw[List.nil_append,D5c g b.length b (by simpa using i) (Nat.le_refl _)];exact n
   |cons c r=>
    simp only[List.length_cons]at l i;obtain⟨g,rfl⟩:∃g',g=g'+1:=⟨g-1,by omega⟩;rw[uGo]at d;rw[List.cons_append,uGo];by_cases o:c.toNat<128
    ·rw[if_pos o]at d ⊢
     exact ih r g d (by omega) (by omega)
    ·rw[if_neg o]at d ⊢
     by_cases k:A0n [c]=0\/(c::r).length<A0n [c]
     ·rw[if_pos k]at d;cases d
     ·rw[if_neg k]at d
      simp only[List.length_cons]at k;have t:A0n [c]<=r.length+1:=by omega
      rw[if_neg (by simp only[List.length_cons,List.length_append];omega)]
      have w:(c::(r++b)).take (A0n [c])=(c::r).take (A0n [c]):=by
       rw[<-List.cons_append,List.take_append_of_le_length (by simpa using t)]
      rw[w];by_cases p:A0n ((c::r).take (A0n [c]))=0
      ·rw[if_pos p]at d;cases d
      ·rw[if_neg p]at d ⊢
       have j:A0n ((c::r).take (A0n [c]))<=r.length+1:=by
        obtain⟨m,v⟩:∃m,A0n [c]=m+1:=⟨A0n [c]-1,by omega⟩;rw[v,List.take_succ_cons];rcases A5v c (r.take m)with h|h
        ·omega
        ·rw[h]
         rcases A5v c []with h'|h'
         ·omega
         ·omega
       have s:(c::(r++b)).drop (A0n ((c::r).take (A0n [c])))=(c::r).drop (A0n ((c::r).take (A0n [c])))++b:=by
        rw[<-List.cons_append,List.drop_append_of_le_length (by simpa using j)]
       rw[s];refine ih _ g d ?_ ?_
       ·rw[List.length_drop,List.length_cons];omega
       ·rw[List.length_drop,List.length_cons];omega
 exact e f a (a++b).length q u (by simp)
theorem B6h {a b:LU8} (c:isU a=true) (d:isU b=true):isU (a++b)=true:=D8j a.length a b c (Nat.le_refl _) d
theorem D2j {c:UInt8} (h:c.toNat<128):isU [c]=true:=by
 show uGo 1 [c]=true
 rw[uGo,if_pos h];rfl
theorem B8c {c:UInt8} {r:LU8} (d:128<=c.toNat) (a:A0n [c]=r.length+1) (b:A0n (c::r)=r.length+1):isU (c::r)=true:=by
 have e:(c::r).take (r.length+1)=c::r:=List.take_of_length_le (by simp)
 show uGo (r.length+1) (c::r)=true
 rw[B8b (k:=r.length+1) r.length d (by omega) (Nat.le_refl _) a (by rw[e];exact b),List.drop_of_length_le (by simp)];cases r.length<;>rfl
theorem C1y {n:Nat} (h:n<256):(UInt8.ofNat n).toNat=n:=UInt8.toNat_ofNat_of_lt' h
theorem E4t {n:Nat} (h:n<55296\/(57344<=n/\n<=1114111)):isU (A3z n)=true:=by
 unfold A3z;split
 ·exact D2j (by rw[C1y (by omega)];assumption)
 ·split
  ·have f:=C1y (n:=192+n/64) (by omega)
   have i:=C1y (n:=128+n % 64) (by omega);obtain⟨a,b⟩:=G1w (c:=UInt8.ofNat (192+n/64)) (d:=UInt8.ofNat (128+n % 64)) (by omega) (by omega) (by omega);exact B8c (by omega) a b
  ·split
   ·have f:=C1y (n:=224+n/4096) (by omega)
    have i:=C1y (n:=128+n/64 % 64) (by omega);have j:=C1y (n:=128+n % 64) (by omega);obtain⟨a,b⟩:=G1x (c:=UInt8.ofNat (224+n/4096)) (d:=UInt8.ofNat (128+n/64 % 64)) (e:=UInt8.ofNat (128+n % 64)) (by omega) (by omega) (by omega) n (by omega) (by omega) (by omega);exact B8c (by omega) a b
   ·have f:=C1y (n:=240+n/262144) (by omega)
    have i:=C1y (n:=128+n/4096 % 64) (by omega);have j:=C1y (n:=128+n/64 % 64) (by omega);have k:=C1y (n:=128+n % 64) (by omega);obtain⟨a,b⟩:=G1y (c:=UInt8.ofNat (240+n/262144)) (d:=UInt8.ofNat (128+n/4096 % 64)) (e:=UInt8.ofNat (128+n/64 % 64)) (g:=UInt8.ofNat (128+n % 64)) (by omega) (by omega) (by omega) (by omega) n (by omega) (by omega) (by omega);exact B8c (by omega) a b
theorem E4u (p r s q:LU8) (h:A6c p r=.ok s q):∃x,x≠[]/\s=p++x/\r=x++q/\s.length=A0n s:=by
 induction r generalizing p with
 |nil=>cases h
 |cons c r ih=>
  rw[A5c]at h;split at h
  ·cases h
  ·split at h
   ·rename_i hl
    cases h;exact⟨[c],by simp,rfl,rfl,hl⟩
   ·obtain⟨x,e,a,b,d⟩:=ih _ h
    exact⟨c::x,by simp,by rw[a,List.append_assoc];rfl,by rw[b];rfl,d⟩
theorem E4v {c:UInt8} {r s q:LU8} (j:128<=c.toNat) (h:A6c [] (c::r)=.ok s q):isU s=true/\q.length<(c::r).length:=by
 have i:=h;obtain⟨x,k,f,g,a⟩:=E4u _ _ _ _ i;rw[List.nil_append]at f;subst f;rw[A5c]at h;cases s with
 |nil=>exact absurd rfl k
 |cons y s=>
  have l:y=c:=by injection g with e _;exact e.symm
  subst l;refine⟨?_,by rw[g];simp;omega⟩;split at h
  ·cases h
  ·rename_i hb
   have d:A0n [y]≠0:=hb;refine B8c j ?_ a.symm;rcases A5v y []with h1|h1
   ·exact absurd h1 d
   ·rw[h1]
    rcases A5v y s with b|b
    ·rw[b]at a;simp at a
    ·rw[<-b,<-a];rfl
theorem E4w (a:Bool) (k n:Nat) (r q:LU8) (m:Nat) (h:A1m a k n r=.ok m q):q.length<=r.length:=by
 induction k generalizing n r with
 |zero=>cases h;exact Nat.le_refl _
 |succ k ih=>
  cases r with
  |nil=>cases h
  |cons c r=>
   rw[A1m]at h;split at h
   ·cases h
   ·split at h
    ·cases h
    ·split at h
     ·cases h
     ·have:=ih _ _ h
      simp only[List.length_cons];omega
theorem D5e (c:Bool) (r q:LU8) (m:Nat) (h:A1m c 4 0 r=.ok m q):m<65536/\(c=false->¬(56320<=m/\m<57344))/\(c=true->56320<=m/\m<57344):=by
 match r,h with
 |[],h=>cases h
 |c1::r,h=>
  rw[A1m]at h;cases f:B5v c1 with
  |none=>rw[f]at h;cases h
  |some a=>
   rw[f]at h;simp only at h;have o:=A6i f;split at h
   ·cases h
   rename_i n1
   split at h
   ·cases h
   match r,h with
   |[],h=>cases h
   |c2::r,h=>
    rw[A1m]at h;cases g:B5v c2 with
    |none=>rw[g]at h;cases h
    |some b=>
     rw[g]at h;simp only at h;have p:=A6i g;split at h
     ·cases h
     rename_i n2
     split at h
     ·cases h
     rename_i n3
     match r,h with
     |[],h=>cases h
     |c3::r,h=>
      rw[A1m]at h;cases i:B5v c3 with
      |none=>rw[i]at h;cases h
      |some d=>
       rw[i]at h;simp only at h;have s:=A6i i;split at h
       ·cases h
       split at h
       ·cases h
       match r,h with
       |[],h=>cases h
       |c4::r,h=>
        rw[A1m]at h;cases j:B5v c4 with
        |none=>rw[j]at h;cases h
        |some e=>
         rw[j]at h;simp only at h;have t:=A6i j;split at h
         ·cases h
         split at h
         ·cases h
         rw[A1m]at h;cases h;refine⟨by omega,λhl=>?_,λhl=>?_⟩
         ·have:¬(220<=16*(16*0+a)+b/\16*(16*0+a)+b<224):=λhh=>n3 ⟨hl,trivial,hh⟩
          omega
         ·have k:=λhh=>n1 ⟨hl,.inl ⟨trivial,hh⟩⟩
          have l:¬(16*(16*0+a)+b<220):=λhh=>n2 ⟨hl,.inr ⟨trivial,hh⟩⟩
          simp only[Nat.mul_zero,Nat.zero_add]at k l ⊢;have n:a=13:=Classical.byContradiction λhne=>k hne
          subst n;omega
theorem F7v {c x:UInt8} (h:C4r c=some x):x.toNat<128:=by
 unfold C4r at h;split at h
 ·rename_i hc
  cases h;rcases hc with rfl|rfl|rfl<;>decide
 ·repeat (first|(split at h;·cases h;decide)|cases h)
theorem F1m {r s q:LU8} (h:A5f r=.ok s q):isU s=true/\q.length<r.length:=by
 cases r with
 |nil=>cases h
 |cons c r=>
  rw[A5f]at h;cases d:C4r c with
  |some x=>
   rw[d]at h;cases h;exact⟨D2j (F7v d),by simp⟩
  |none=>
   rw[d]at h;simp only at h;split at h
   ·cases h
   ·cases a:A1m false 4 0 r with
    |wrong e q=>rw[a]at h;cases h
    |ended=>rw[a]at h;cases h
    |ok n q1=>
     rw[a]at h;simp only at h;obtain⟨o,i,-⟩:=D5e _ _ _ _ a;have i:=i rfl;have k:=E4w _ _ _ _ _ _ a;split at h
     ·cases h
      exact⟨E4t (by omega),by simp only[List.length_cons];omega⟩
     ·rename_i hs
      cases q1 with
      |nil=>cases h
      |cons c1 q1=>
       unfold A5b at h;split at h
       ·cases h
       ·cases q1 with
        |nil=>cases h
        |cons c2 q2=>
         simp only at h;split at h
         ·cases h
         ·cases b:A1m true 4 0 q2 with
          |wrong e q=>rw[b]at h;cases h
          |ended=>rw[b]at h;cases h
          |ok m q3=>
           rw[b]at h;obtain⟨_,-,j⟩:=D5e _ _ _ _ b;simp only[RO.ok.injEq]at h;obtain⟨f,g⟩:=h;rw[<-f,<-g];clear f g;have j:=j rfl;have l:=E4w _ _ _ _ _ _ b;simp only[List.length_cons]at k ⊢;exact⟨E4t (by omega),by omega⟩
theorem E4x (n:Nat):∀(r:LU8) (a:LU8) (t:Tr) (s q:LU8),r.length<=n->Tx0 a t->isU a=true->A1i t r=.ok s q->isU s=true:=by
 induction n with
 |zero=>
  intro r a t s q w _ _ h;have:r=[]:=List.eq_nil_of_length_eq_zero (by omega);subst this;cases h
 |succ n ih=>
  intro r a t s q w m k h;cases r with
  |nil=>cases h
  |cons c r=>
   simp only[List.length_cons]at w;by_cases i:c=92
   ·subst i
    have hr:=E3a a t m r;cases b:A5f r with
    |wrong e p=>rw[b]at hr;simp only at hr;rw[hr]at h;cases h
    |ended=>rw[b]at hr;simp only at hr;rw[hr]at h;cases h
    |ok s' q'=>
     rw[b]at hr;simp only at hr;obtain⟨o,d,e⟩:=hr;obtain⟨l,u⟩:=F1m b;rw[e]at h;exact ih q' _ o s q (by omega) d (B6h k l) h
   ·by_cases v:128<=c.toNat
    ·have hr:=D4q a t m c v r
     cases b:A6c [] (c::r)with
     |wrong e p=>rw[b]at hr;simp only at hr;rw[hr]at h;cases h
     |ended=>rw[b]at hr;simp only at hr;rw[hr]at h;cases h
     |ok s' q'=>
      rw[b]at hr;simp only at hr;obtain⟨o,d,e⟩:=hr;obtain⟨l,u⟩:=E4v v b;rw[e]at h;simp only[List.length_cons]at u;exact ih q' _ o s q (by omega) d (B6h k l) h
    ·obtain⟨j,x,y⟩:=m
     rw[A1i,B3s j,A9f,if_neg i,if_neg (by omega)]at h;by_cases g:c=34
     ·rw[if_pos g]at h
      cases h;rw[x];exact k
     ·rw[if_neg g]at h
      by_cases f:c.toNat<32
      ·rw[if_pos f]at h;cases h
      ·rw[if_neg f,if_pos (by omega)]at h
       simp only at h;exact ih r (a++[c]) ⟨t.st,t.made++[c],t.lack,t.lo,t.hi,t.dg,t.code,t.high⟩ s q (by omega) ⟨j,by show t.made++[c]=_;rw[x],y⟩ (B6h k (D2j (by omega))) h
theorem C9e {r s q:LU8} (h:A1i tr0 r=.ok s q):isU s=true:=E4x r.length r [] tr0 s q (Nat.le_refl _) ⟨rfl,rfl,rfl⟩ rfl h
shelf_lay Lays.n196 Nm 196 at Tryz as Tryz.laysValid
def C0f (w:World):Prop:=Lib.Utf8Tabs (Tryz.laysValid_ren.g 3) (Tryz.laysValid_ren.g 4) w
theorem E4y (s:ByteArray) (w:World) (b:s.size<=9223372036854775807) (a:C0f w):
 Calls Tryz.prog 123 #[.string s] w λe w'=>e=.returned (.bool (Lib.validD s.data.toList))/\Below w.heap.size w w':=Any.utf8_ValidString Tryz.laysValid s w b a
def A2e (l:LU8):LU8:=(l.reverse.dropWhile (λc=>decide (c=48))).reverse
theorem B6i (m:LU8):A2e (m++[48])=A2e m:=by simp[A2e]
theorem C6d (m:LU8) (c:UInt8) (h:c≠48):A2e (m++[c])=m++[c]:=by simp[A2e,h]
theorem F1n (n:Nat) (h:n<10):(dgs n).length=1:=by rw[A6a h];rfl
def upR:LU8->LU8
 |[]=>[49]
 |c::r=>if c.toNat<57 then UInt8.ofNat (c.toNat+1)::r else 48::upR r
def upB (l:LU8):LU8:=(upR l.reverse).reverse
theorem F5h:upB []=[49]:=rfl
theorem C6e (p:LU8) (c:UInt8) (h:c.toNat<57):upB (p++[c])=p++[UInt8.ofNat (c.toNat+1)]:=by simp[upB,upR,h]
theorem D2k (p:LU8) (c:UInt8) (h:¬c.toNat<57):upB (p++[c])=upB p++[48]:=by simp[upB,upR,h]
theorem F5i (M:Nat):upB (dgs M)=dgs (M+1):=by
 induction M using Nat.strongRecOn with
 |_ M ih=>
  by_cases h:M<10
  ·rw[A6a h,show[UInt8.ofNat (48+M)]=[]++[UInt8.ofNat (48+M)]from rfl]
   by_cases b:M<9
   ·rw[C6e _ _ (by rw[A3s M h];omega),A3s M h,A6a (by omega)];rfl
   ·obtain rfl:M=9:=by omega
    rw[D2k _ _ (by decide),F5h,A9h (by omega),A6a (by omega)];rfl
  ·rw[A9h h]
   have a:=A3s (M % 10) (by omega);by_cases b:M % 10<9
   ·rw[C6e _ _ (by rw[a];omega),a,A9h (n:=M+1) (by omega),show(M+1)/10=M/10 by omega,show(M+1) % 10=M % 10+1 by omega];rfl
   ·rw[D2k _ _ (by rw[a];omega),ih (M/10) (by omega),A9h (n:=M+1) (by omega),show(M+1)/10=M/10+1 by omega,show(M+1) % 10=0 by omega];rfl
def A7g (w:World) (g:Nat) (l:LU8):Prop:=∀j,(h:j<l.length)->w.cell? ⟨g,j,none⟩=some (.int .u8 ((l[j].toNat:Nat):Int))/\w.frozen? ⟨g,j,none⟩=false
theorem A7g.set {w:World} {g:Nat} {l d:LU8} (h:A7g w g l) (i:Nat) (c:UInt8) (m:d=l.set i c):A7g (w.setCell ⟨g,i,none⟩ (.int .u8 ((c.toNat:Nat):Int))) g d:=by
 subst m;intro j k;have a:j<l.length:=by simpa using k
 obtain⟨b,f⟩:=h j a;refine⟨?_,by rw[World.frozen?_setCell];exact f⟩;by_cases e:i=j
 ·subst e
  rw[World.cell?_setCell_same (h:=b)];simp
 ·rw[World.cell?_setCell_other (h:=λhh=>e (congrArg Addr.off hh)),b]
  simp[e]
theorem A7g.back {w:World} {g cap n:Nat} {l:LU8} (h:A7g w g l) (a:l.length=n):(convert 65 9 (.slice (some ⟨g,0,none⟩) n cap)).run Tryz.prog w=.ok (.string (ofL l)) w:=by
 subst a
 exact run_convert_bytes_back (P:=Tryz.prog) w 65 9 5 ⟨g,0,none⟩ cap l Tryz.underlying65 Tryz.underlying5 Tryz.underlying9 (λj hj=>by
  have:=(h j hj).1
  cases j<;>simpa[Addr.add]using this)
theorem D2m (w:World) (l:LU8) (cap:Nat) (n m:Nat) (c:l.length<=n):A7g (w.drew.alloc (.cells (bytesRow (ofL l) cap) 5 (n,m))) w.heap.size l:=by
 have a:(w.drew.alloc (.cells (bytesRow (ofL l) cap) 5 (n,m))).heap[w.heap.size]? =some (.cells (bytesRow (ofL l) cap) 5 (n,m)):=heap_alloc_new w.drew _;intro j b;constructor
 ·simp only[World.cell?,a]
  simp[bytesRow,ofL,Array.getElem?_append,b]
 ·simp only[World.frozen?,a]
  simp;omega
end Go.Proofs.YtmkkibaacclhnaaGreatDoor
