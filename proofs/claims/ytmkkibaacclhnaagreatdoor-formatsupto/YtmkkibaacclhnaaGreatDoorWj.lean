/-
  Part Wj.
-/
import Derived.Test.YtmkkibaacclhnaaGreatDoorWf
namespace Go.Proofs.YtmkkibaacclhnaaGreatDoor
open Go.RowKit
set_option maxRecDepth 100000
set_option maxHeartbeats 40000000
theorem E4i {R:Nat->Nat->Prop} (e:∀x y z,R x y->R y z->R x z) {i k j l:List Nat} (n:(i++k).Pairwise R) (m:(j++l).Pairwise R)
 (o:i=[]\/l=[]\/∃L x y G,i=L++[x]/\l=y::G/\R x y) (p:k=[]\/j=[]\/∃L y x G,j=L++[y]/\k=x::G/\R y x):
 ∀u,u∈i++j->∀v,v∈k++l->R u v:=by
 intro u a v b;have f:=List.pairwise_append.1 n;have g:=List.pairwise_append.1 m;rcases List.mem_append.1 a with a|a<;>rcases List.mem_append.1 b with b|b
 ·exact f.2.2 u a v b
 ·rcases o with rfl|rfl|⟨L,x,y,G,rfl,rfl,h⟩
  ·cases a
  ·cases b
  ·have d:u=x\/R u x:=by
    rcases List.mem_append.1 a with a|a
    ·exact .inr ((List.pairwise_append.1 f.1).2.2 u a x (by simp))
    ·exact .inl (by simpa using a)
   have c:v=y\/R y v:=by
    rcases List.mem_cons.1 b with b|b
    ·exact .inl b
    ·exact .inr ((List.pairwise_cons.1 g.2.1).1 v b)
   rcases d with rfl|d<;>rcases c with rfl|c
   ·exact h
   ·exact e _ _ _ h c
   ·exact e _ _ _ d h
   ·exact e _ _ _ d (e _ _ _ h c)
 ·rcases p with rfl|rfl|⟨L,y,x,G,rfl,rfl,h⟩
  ·cases b
  ·cases a
  ·have d:u=y\/R u y:=by
    rcases List.mem_append.1 a with a|a
    ·exact .inr ((List.pairwise_append.1 g.1).2.2 u a y (by simp))
    ·exact .inl (by simpa using a)
   have c:v=x\/R x v:=by
    rcases List.mem_cons.1 b with b|b
    ·exact .inl b
    ·exact .inr ((List.pairwise_cons.1 f.2.1).1 v b)
   rcases d with rfl|d<;>rcases c with rfl|c
   ·exact h
   ·exact e _ _ _ h c
   ·exact e _ _ _ d h
   ·exact e _ _ _ d (e _ _ _ h c)
 ·exact g.2.2 u a v b
theorem E4j {A a d:List Nat} {x t:Nat} (e:A=a++d) (c:a.length=t+1) (b:A[t]? =some x):∃L,a=L++[x]:=by
 rcases D2g a with rfl|⟨L,z,rfl⟩
 ·simp at c
 ·refine⟨L,?_⟩
  simp at c;subst c;rw[e,List.append_assoc,List.getElem?_append_right (Nat.le_refl _),Nat.sub_self]at b;simp at b;rw[b]
theorem D5a {A c b:List Nat} {x t:Nat} (d:A=c++b) (e:c.length=t) (a:A[t]? =some x):∃G,b=x::G:=by
 subst e;rw[d,List.getElem?_append_right (Nat.le_refl _),Nat.sub_self]at a;cases b with
 |nil=>simp at a
 |cons z G=>simp at a;exact⟨G,by rw[a]⟩
def F5f (w0:World) (blk n cap bx:Nat) (D:Nat->Prop) (cf:Nat->Nat->Int) (R:Nat->Nat->Prop) (f:Nat):Prop:=
 ∀(w:World) (a m b:Nat) (X A B Y:List Nat),b-a<=f->DR w0 w blk n cap (X++A++B++Y)->X.length=a->a+A.length=m->m+B.length=b->0<A.length->0<B.length->A.Pairwise R->B.Pairwise R->(∀x,x∈A->∀y,y∈B->Cf cf R x y)->(∀x,x∈A++B->D x)->
  Calls Tryz.prog 203 #[.slice (some ⟨blk,0,none⟩) n cap,.int .i64 (a:Int),.int .i64 (m:Int),.int .i64 (b:Int),.func (.func 129) #[] #[.pointer (some ⟨bx,0,none⟩)]] w λe w'=>e=.returned (.tuple #[])/\∃Z,Z.Perm (A++B)/\Z.Pairwise R/\DR w0 w' blk n cap (X++Z++Y)
structure Cut (R:Nat->Nat->Prop) (A B A1 A2 B1 B2:List Nat) (s t:Nat):Prop where
 a:A=A1++A2
 b:B=B1++B2
 la:A1.length=s
 lb:B1.length=t
 cr:∀u,u∈A1++B1->∀v,v∈A2++B2->R u v
theorem C8x (w0 w:World) (l n cap a m b bx mid f J M:Nat) (D:Nat->Prop) (cf:Nat->Nat->Int) (R:Nat->Nat->Prop) (tr:∀x y z,R x y->R y z->R x z) (IH:F5f w0 l n cap bx D cf R f) (hf:b-a<=f+1) (X A B Y:List Nat) (h:DR w0 w l n cap (X++A++B++Y)) (hX:X.length=a) (d5:2<=A.length) (d1:2<=B.length) (hm:a+A.length=m) (hb:m+B.length=b)
 (b4:(a+b)/2=mid) (b5:(mid<m/\J=mid+m-b/\M=mid)\/(¬mid<m/\J=a/\M=m)) (hA:A.Pairwise R) (hB:B.Pairwise R) (b9:∀x,x∈A->∀y,y∈B->Cf cf R x y) (T:∀x,x∈A++B->D x)
 (hC:C0c w0 l #[.pointer (some ⟨bx,0,none⟩)] D cf) (hn:n<=10000000):
 Calls Tryz.prog 203 #[.slice (some ⟨l,0,none⟩) n cap,.int .i64 (a:Int),.int .i64 (m:Int),.int .i64 (b:Int),.func (.func 129) #[] #[.pointer (some ⟨bx,0,none⟩)]] w λe w'=>e=.returned (.tuple #[])/\∃Z,Z.Perm (A++B)/\Z.Pairwise R/\DR w0 w' l n cap (X++Z++Y):=by
 have a2:=h.len;simp only[List.length_append]at a2;have e3:b<=n:=by omega
 have e9:a<mid/\mid<b:=by omega
 have e2:((m:Int)-(a:Int)==1)=false:=bqF (by omega);have f4:((b:Int)-(m:Int)==1)=false:=bqF (by omega);have c7:((a:Int)+(b:Int))/2=(mid:Int):=by omega
 have f9:J<=M:=by omega
 have HK:=hid (show∀c,J<=c->c<M->a<=c/\c-a<A.length/\c<mid/\mid-1-c<B.length fromλc o p=>by omega);have HL:=hid (show J<=mid/\a<=J/\M<=mid/\M<=m/\mid-J<=B.length/\(J=a\/mid-J=B.length)/\(M=m\/M=mid)from by omega);have H:=hid h;have O:=hid (And.intro hX (And.intro hm hb));have HA:=hid hA;have HB:=hid hB;have W:=hid T;have a6:=hid b9;have HC:=hid hC;have d0:=hid tr;have a8:=hid IH;have b2:=hid hf;have f1:m<=n:=by omega
 have mixed:=Tryz.mixedR
 have b8:((mid:Int)<(m:Int)/\(mid:Int)+(m:Int)-(b:Int)=(J:Int)/\Hid (J=J/\M=mid))\/(¬(mid:Int)<(m:Int)/\True/\Hid (J=a/\M=m)):=by
  rcases b5 with h|h
  ·exact .inl ⟨by omega,by omega,rfl,h.2.2⟩
  ·exact .inr ⟨by omega,trivial,h.2.1,h.2.2⟩
 clear h hX hb hm hA hB T hC b9 a2 tr d5 d1 IH hf b5 b4;rcases b8 with⟨d3,d8,a4⟩|⟨d3,d8,a4⟩
 all_goals
  go_enter Tryz.func203,Tryz.ntmps203;go_wp2
  go_loopw [20,21] (λs t wr=>∃i j:Nat,J<=i/\i<=j/\j<=M/\s=.int .i64 (i:Int)/\t=.int .i64 (j:Int)/\Hid ((i=J\/∃x y,A[i-1-a]? =some x/\B[mid-i]? =some y/\R x y)/\(j=M\/∃x y,A[j-a]? =some x/\B[mid-1-j]? =some y/\R y x))/\Hid (DR w0 wr l n cap (X++A++B++Y))) (λs t _=>(intOf t).toNat-(intOf s).toNat)
  case atStart=>exact⟨J,M,by omega,by omega,by omega,by first|rfl|rw[a4.1],by rw[a4.2],hid ⟨.inl rfl,.inl rfl⟩,H⟩
  case round=>
   obtain⟨i,j,d2,f8,d4,rfl,rfl,hS,T⟩:=hrel;by_cases e5:i<j
   ·obtain⟨c,c4⟩:∃c,(i+j)/2=c:=⟨_,rfl⟩
    have f6:i<=c:=by omega
    have e0:c<j:=by omega
    have d9:(i:Int)<(j:Int):=by omega
    have f2:((i:Int)+(j:Int))/2=(c:Int):=by omega
    obtain⟨k1,k2,k3,k4⟩:=HK.out c (by omega) (by omega);obtain⟨x,P⟩:∃x,A[c-a]? =some x:=⟨A[c-a],List.getElem?_eq_getElem _⟩;obtain⟨y,hy⟩:∃y,B[mid-1-c]? =some y:=⟨B[mid-1-c],List.getElem?_eq_getElem _⟩;have a7:x∈A:=List.mem_of_getElem? P;have b1:y∈B:=List.mem_of_getElem? hy;obtain⟨q,hq⟩:∃q,m+(mid-1-c)=q:=⟨_,rfl⟩
    have c1:=T.cell c x (by
     have o:=O.out
     rw[List.append_assoc,List.append_assoc,List.getElem?_append_right (by omega),List.getElem?_append_left (by omega),<-P,o.1])
    have c2:=T.cell q y (by
     have o:=O.out;rw[List.getElem?_append_left (by simp only[List.length_append];omega),List.getElem?_append_right (by simp only[List.length_append];omega),<-hy];congr 1;simp only[List.length_append]
     omega)
    have f5:q<n:=by have o:=O.out;omega
    have e4:c<n:=by omega
    have e6:(c:Int)<(n:Int):=by omega
    have f0:(q:Int)<(n:Int):=by omega
    have e8:(mid:Int)+(m:Int)-1-(c:Int)=(q:Int):=by omega
    have c0:=hid (λk=>HC.out y x (W.out y (by simp[b1])) (W.out x (by simp[a7])) (wr.drewN k) (T.fr.drewN k));have b7:=hid (a6.out x a7 y b1);have a1:=hid (And.intro P hy);have f3:=hid (And.intro k1 (And.intro k3 hq));clear P hy a7 b1 c4 k1 k2 k3 k4 hq;by_cases hc:cf y x<0
    ·have c5:decide (cf y x<0)=true:=dcT hc
     have HR:=hid (b7.1 hc)
     go_wp2_with fail
     go_quiet ((go_at_call 129;exact Calls.quiet_of (c0.out _)));go_wp2;go_roundw
     case rel=>exact⟨i,c,d2,by omega,by omega,rfl,by go_num,hid ⟨hS.1,.inr ⟨x,y,a1.1,a1.2,HR.out⟩⟩,hid (T.drewN _)⟩
     case measure=>simp[intOf];omega
    ·have c5:decide (cf y x<0)=false:=dcF hc
     have HR:=hid (b7.2 hc)
     go_wp2_with fail
     go_quiet ((go_at_call 129;exact Calls.quiet_of (c0.out _)));go_wp2;go_roundw
     case rel=>
      refine⟨c+1,j,by omega,by omega,d4,by go_num,rfl,hid ⟨.inr ⟨x,y,?_,?_,HR.out⟩,hS.2⟩,hid (T.drewN _)⟩
      ·rw[show c+1-1-a=c-a by omega];exact a1.1
      ·rw[show mid-(c+1)=mid-1-c by omega];exact a1.2
     case measure=>simp[intOf];omega
   ·obtain rfl:i=j:=by omega
    have e7:¬((i:Int)<(i:Int)):=by omega
    have hl:=HL.out;obtain⟨I,r,d,a9⟩:=C8f A (i-a) (by have:=O.out;omega);obtain⟨v,E,g,a3⟩:=C8f B (mid-i) (by have:=O.out;omega)
    have hcut:Cut R A B I r v E (i-a) (mid-i):=by
     refine⟨d,g,a9,a3,E4i d0.out (by rw[<-d];exact HA.out) (by rw[<-g];exact HB.out) ?_ ?_⟩
     ·by_cases h0:i=a
      ·exact .inl (List.eq_nil_of_length_eq_zero (by omega))
      ·rcases hS.1 with o|⟨x,y,o,p,h3⟩
       ·refine .inr (.inl (List.eq_nil_of_length_eq_zero ?_))
        have F:=congrArg List.length g;rw[List.length_append]at F;omega
       ·obtain⟨L,hL⟩:=E4j d (t:=i-1-a) (by omega) o
        obtain⟨G,hG⟩:=D5a g a3 p;exact .inr (.inr ⟨L,x,y,G,hL,hG,h3⟩)
     ·rcases hS.2 with o|⟨x,y,o,p,h3⟩
      ·rcases hl.2.2.2.2.2.2 with h5|h5
       ·refine .inl (List.eq_nil_of_length_eq_zero ?_)
        have F:=congrArg List.length d;have h6:=O.out;rw[List.length_append]at F;omega
       ·exact .inr (.inl (List.eq_nil_of_length_eq_zero (by omega)))
      ·by_cases h0:i=mid
       ·exact .inr (.inl (List.eq_nil_of_length_eq_zero (by omega)))
       ·obtain⟨L,hL⟩:=E4j g (t:=mid-1-i) (by omega) p
        obtain⟨G,hG⟩:=D5a d a9 o;exact .inr (.inr ⟨L,y,x,G,hL,hG,h3⟩)
    have b3:=hid hcut;obtain⟨e,he⟩:∃e,mid+m-i=e:=⟨_,rfl⟩;have f7:(mid:Int)+(m:Int)-(i:Int)=(e:Int):=by omega
    have C:=hid (show X.length+I.length=i/\i+r.length=m/\m+v.length=e/\e+E.length=b/\i+v.length=mid/\mid+r.length=e from by
     have o:=O.out;have F:=congrArg List.length d;have h5:=congrArg List.length g;rw[List.length_append]at F h5
     omega)
    have c3:DR w0 wr l n cap ((X++I)++r++v++(E++Y)):=by have:=T.out;rw[d,g]at this;simpa using this
    have b0:=hid c3
    have u:=hid (show I.Pairwise R/\r.Pairwise R/\v.Pairwise R/\E.Pairwise R from by
     have o:=HA.out;have p:=HB.out;rw[d,List.pairwise_append]at o;rw[g,List.pairwise_append]at p
     exact⟨o.1,o.2.1,p.1,p.2.1⟩)
    have S:=hid (show(∀x,x∈I->∀y,y∈v->Cf cf R x y)/\(∀x,x∈r->∀y,y∈E->Cf cf R x y)/\(∀x,x∈I++v->D x)/\(∀x,x∈r++E->D x)from by
     have o:=a6.out;have p:=W.out;rw[d,g]at o;rw[d,g]at p;refine⟨λx P y hy=>o x (by simp[P]) y (by simp[hy]),λx P y hy=>o x (by simp[P]) y (by simp[hy]),λx P=>p x ?_,λx P=>p x ?_⟩
     ·rcases List.mem_append.1 P with h|h<;>simp[h]
     ·rcases List.mem_append.1 P with h|h<;>simp[h])
    have e1:i<=m/\m<=e/\a<=i/\i<=mid/\mid<=e/\e<=b/\e+i=mid+m:=by have:=C.out;have:=O.out;omega
    clear d a9 g a3 hcut c3 T hS hl he HK HL HC a6 W H HA HB;have b6:=hid (λ(o:i<m) (p:m<e)=>D7n w0 wr l n cap m e (X++I) r v (E++Y) (.func (.func 129) #[] #[.pointer (some ⟨bx,0,none⟩)]) b0.out (by have:=C.out;omega) (by have:=C.out;omega) (by have:=C.out;rw[List.length_append];omega) (by have:=C.out;omega) hn)
    have c6:=hid (λ(h:¬(i<m/\m<e))=>(show DR w0 wr l n cap (X++I++v++(r++E++Y))from by
     have o:=C.out;have p:=b0.out;by_cases h3:i<m
     ·have F:v=[]:=List.eq_nil_of_length_eq_zero (by omega)
      subst F;simpa using p
     ·have F:r=[]:=List.eq_nil_of_length_eq_zero (by omega)
      subst F
      simpa using p))
    have c9:=hid (λ(wx:World) (Q:DR w0 wx l n cap (X++I++v++(r++E++Y))) (o:a<i) (p:i<mid)=>a8.out wx a i mid X I v (r++E++Y) (by have:=b2.out;omega) Q O.1 (by have:=C.out;have:=O.out;omega) (by have:=C.out;omega) (by have:=C.out;have:=O.out;omega) (by have:=C.out;omega) u.1 u.2.2.1 S.1 S.2.2.1)
    have d7:=hid (λ(h:¬(a<i/\i<mid))=>(show(I++v).Pairwise R from by
     have o:=C.out;have p:=O.out;by_cases h3:a<i
     ·have F:v=[]:=List.eq_nil_of_length_eq_zero (by omega)
      rw[F,List.append_nil];exact u.1
     ·have F:I=[]:=List.eq_nil_of_length_eq_zero (by omega)
      rw[F]
      exact u.2.2.1))
    have c8:=hid (λ(wx:World) (K:List Nat) (hz:K.Perm (I++v)) (Q:DR w0 wx l n cap (X++K++(r++E++Y))) (o:mid<e) (p:e<b)=>a8.out wx mid e b (X++K) r E Y (by have:=b2.out;omega) (by simpa using Q) (by have:=C.out;have:=O.out;have:=hz.length_eq;rw[List.length_append]at*;omega) (by have:=C.out;omega) (by have:=C.out;omega) (by have:=C.out;omega) (by have:=C.out;omega) u.2.1 u.2.2.2 S.2.1 S.2.2.2)
    have d6:=hid (λ(h:¬(mid<e/\e<b))=>(show(r++E).Pairwise R from by
     have o:=C.out;by_cases h3:mid<e
     ·have F:E=[]:=List.eq_nil_of_length_eq_zero (by omega)
      rw[F,List.append_nil];exact u.2.1
     ·have F:r=[]:=List.eq_nil_of_length_eq_zero (by omega)
      rw[F]
      exact u.2.2.2))
    clear a8 b2 b0 u S;rcases(show((i:Int)<(m:Int)/\(m:Int)<(e:Int))\/((i:Int)<(m:Int)/\¬(m:Int)<(e:Int))\/¬(i:Int)<(m:Int) by omega)with⟨hra,hrb⟩|⟨hra,hrb⟩|hra<;>
    rcases(show((a:Int)<(i:Int)/\(i:Int)<(mid:Int))\/((a:Int)<(i:Int)/\¬(i:Int)<(mid:Int))\/¬(a:Int)<(i:Int) by omega)with⟨h1a,h1b⟩|⟨h1a,h1b⟩|h1a<;>
    rcases(show((mid:Int)<(e:Int)/\(e:Int)<(b:Int))\/((mid:Int)<(e:Int)/\¬(e:Int)<(b:Int))\/¬(mid:Int)<(e:Int) by omega)with⟨h2a,h2b⟩|⟨h2a,h2b⟩|h2a<;>
    first
    |(exfalso;omega)
    |(go_wp2_with fail
      first
      |(have hr:i<m/\m<e:=by omega
        have hro:=b6.out hr.1 hr.2;rw[List.length_append,C.1]at hro;refine Calls.mono hro ?_;rintro x w2 ⟨rfl,Q⟩;have a5:=hid (show DR w0 w2 l n cap (X++I++v++(r++E++Y))from by simpa using Q);clear Q hro hr
        go_wp2_with fail)
      |have a5:=hid (c6.out (by omega))
      first
      |(have o:a<i/\i<mid:=by omega
        refine Calls.mono (c9.out _ a5.out o.1 o.2) ?_;rintro x w3 ⟨rfl,K,p1,s1,Q⟩;have N:=hid (And.intro p1 (And.intro s1 Q));clear p1 s1 Q o
        go_wp2_with fail)
      |(obtain⟨K,a0⟩:∃K,I++v=K:=⟨_,rfl⟩
        have N:=hid (show K.Perm (I++v)/\K.Pairwise R/\DR w0 _ l n cap (X++K++(r++E++Y))from⟨by rw[a0],by rw[<-a0];exact d7.out (by omega),by rw[<-a0];simpa using a5.out⟩)
        clear a0)
      first
      |(have p:mid<e/\e<b:=by omega
        refine Calls.mono (c8.out _ K N.1 N.2.2 p.1 p.2) ?_;rintro x w4 ⟨rfl,Z2,p2,s2,Q⟩;have V:=hid (And.intro p2 (And.intro s2 Q));clear p2 s2 Q p
        go_wp2_with fail)
      |(obtain⟨Z2,U⟩:∃Z2,r++E=Z2:=⟨_,rfl⟩
        have V:=hid (show Z2.Perm (r++E)/\Z2.Pairwise R/\DR w0 _ l n cap (X++K++Z2++Y)from⟨by rw[U],by rw[<-U];exact d6.out (by omega),by have:=N.2.2;rw[<-U];simpa using this⟩)
        clear U)
      go_end0;obtain⟨g1,g2⟩:=b3.whole N.1 V.1 N.2.1 V.2.1
      exact⟨rfl,K++Z2,g1,g2,by simpa using V.2.2⟩)
theorem C3i (w0:World) (c n cap i:Nat) (D:Nat->Prop) (g:Nat->Nat->Int) (R:Nat->Nat->Prop) (r:∀x y z,R x y->R y z->R x z) (q:C0c w0 c #[.pointer (some ⟨i,0,none⟩)] D g) (p:n<=10000000) (f:Nat):F5f w0 c n cap i D g R f:=by
 induction f with
 |zero=>
  intro w a m b X A B Y t h k l o H G;omega
 |succ f ih=>
  intro w a m b X A B Y t h k l o H G E v d e;by_cases C:A.length=1
  ·obtain⟨F,rfl⟩:=List.length_eq_one_iff.1 C
   exact D2h w0 w c n cap a m b i D g R r X B Y F h k l o v (λy hy=>d F (by simp) y hy) (e F (by simp)) (λx hx=>e x (by simp[hx])) q p
  ·by_cases s:B.length=1
   ·obtain⟨u,rfl⟩:=List.length_eq_one_iff.1 s
    exact D8d w0 w c n cap a m b i D g R r X A Y u h k (by omega) l o E (λx hx=>d x hx u (by simp)) (e u (by simp)) (λx hx=>e x (by simp[hx])) q p
   ·by_cases j:(a+b)/2<m
    ·exact C8x w0 w c n cap a m b i _ f _ _ D g R r ih t X A B Y h k (by omega) (by omega) l o rfl (.inl ⟨j,rfl,rfl⟩) E v d e q p
    ·exact C8x w0 w c n cap a m b i _ f _ _ D g R r ih t X A B Y h k (by omega) (by omega) l o rfl (.inr ⟨j,rfl,rfl⟩) E v d e q p
abbrev Bks:=List (List Nat×List Nat)
def cat (l:Bks):List Nat:=(l.map (·.1)).flatten
def D5b (l:Bks):List Nat:=(l.map (·.2)).flatten
theorem A5h (a b:Bks):cat (a++b)=cat a++cat b:=by simp[cat]
theorem A6m (a b:Bks):D5b (a++b)=D5b a++D5b b:=by simp[D5b]
theorem A6n (p:List Nat×List Nat):cat [p]=p.1:=by simp[cat]
theorem A5u (p:List Nat×List Nat):D5b [p]=p.2:=by simp[D5b]
theorem A4n (p:List Nat×List Nat) (l:Bks):cat (p::l)=p.1++cat l:=rfl
theorem A4e (p:List Nat×List Nat) (l:Bks):D5b (p::l)=p.2++D5b l:=rfl
def OkB (R:Nat->Nat->Prop) (l:Bks):Prop:=∀p,p∈l->p.1.Perm p.2/\p.1.Pairwise R
def C8y (s:Nat):Bks->Prop
 |[]=>True
 |[p]=>p.1.length<=s
 |p::q::r=>p.1.length=s/\C8y s (q::r)
def Whole (s:Nat) (l:Bks):Prop:=∀p,p∈l->p.1.length=s
theorem C8y.of_whole {s:Nat} {l:Bks} (h:Whole s l) (p:List Nat×List Nat) (b:p.1.length<=s):C8y s (l++[p]):=by
 induction l with
 |nil=>exact b
 |cons q l ih=>
  have a:=ih (λx hx=>h x (by simp[hx]));cases l with
  |nil=>exact⟨h q (by simp),a⟩
  |cons r l=>exact⟨h q (by simp),a⟩
theorem C8y.of_whole' {s:Nat} {l:Bks} (h:Whole s l):C8y s l:=by
 induction l with
 |nil=>trivial
 |cons q l ih=>
  have a:=ih (λx hx=>h x (by simp[hx]));cases l with
  |nil=>exact Nat.le_of_eq (h q (by simp))
  |cons r l=>exact⟨h q (by simp),a⟩
theorem C8y.tail {s:Nat} {p:List Nat×List Nat} {l:Bks} (h:C8y s (p::l)):C8y s l:=by
 cases l with
 |nil=>trivial
 |cons q l=>exact h.2
theorem C8y.one {R:Nat->Nat->Prop} {s:Nat} {l:Bks} (h:C8y s l) (a:OkB R l) (e:(cat l).length<=s) (k:0<s):(cat l).Perm (D5b l)/\(cat l).Pairwise R:=by
 match l,h with
 |[],_=>exact⟨List.Perm.refl _,List.Pairwise.nil⟩
 |[p],_=>
  rw[A6n,A5u];exact a p (by simp)
 |p::q::r,h=>
  have j:=h.1;rw[A4n,List.length_append]at e;have i:(cat (q::r)).length=0:=by omega
  have f:=a q (by simp)
  have b:q.1=[]:=by
   rw[A4n,List.length_append]at i;exact List.eq_nil_of_length_eq_zero (by omega)
  have hr:r=[]:=by
   cases r with
   |nil=>rfl
   |cons t r=>
    have c:=h.2.1;rw[b]at c;simp at c;omega
  subst hr
  have d:q.2=[]:=by
   have:=f.1.length_eq;rw[b]at this;exact List.eq_nil_of_length_eq_zero this.symm
  have g:=a p (by simp);rw[A4n,A4e,A6n,A5u,b,d,List.append_nil,List.append_nil];exact g
structure InsAt (w0 w:World) (blk n cap:Nat) (R:Nat->Nat->Prop) (zs:List Nat) (a:Nat) (done:Bks) (Zr:List Nat):Prop where
 z:zs=D5b done++Zr
 la:(cat done).length=a
 wh:Whole 20 done
 ok:OkB R done
 d:DR w0 w blk n cap (cat done++Zr)
structure MgAt (w0 w:World) (blk n cap:Nat) (R:Nat->Nat->Prop) (zs:List Nat) (s a:Nat) (done rest:Bks):Prop where
 z:zs=D5b done++D5b rest
 la:(cat done).length=a
 wh:Whole (2*s) done
 ok:OkB R done
 fu:C8y s rest
 ok2:OkB R rest
 d:DR w0 w blk n cap (cat done++cat rest)
structure PtAt (w0 w:World) (blk n cap:Nat) (R:Nat->Nat->Prop) (zs:List Nat) (s:Nat) (l:Bks):Prop where
 z:zs=D5b l
 fu:C8y s l
 ok:OkB R l
 d:DR w0 w blk n cap (cat l)
theorem OkB.snoc {R:Nat->Nat->Prop} {l:Bks} (h:OkB R l) {p:List Nat×List Nat} (b:p.1.Perm p.2) (c:p.1.Pairwise R):OkB R (l++[p]):=by
 intro q a;rcases List.mem_append.1 a with a|a
 ·exact h q a
 ·simp at a;subst a;exact⟨b,c⟩
theorem Whole.snoc {s:Nat} {l:Bks} (h:Whole s l) {p:List Nat×List Nat} (b:p.1.length=s):Whole s (l++[p]):=by
 intro q a;rcases List.mem_append.1 a with a|a
 ·exact h q a
 ·simp at a;subst a;exact b
section
variable {w0 w:World} {blk n cap bx:Nat} {D:Nat->Prop} {cf:Nat->Nat->Int} {R:Nat->Nat->Prop} {zs:List Nat}
theorem InsAt.next (u:∀x y z,R x y->R y z->R x z) (p:C0c w0 blk #[.pointer (some ⟨bx,0,none⟩)] D cf) (k:n<=10000000) (o:zs.Pairwise (Cf cf R)) (j:∀x,x∈zs->D x) {a b:Nat} {c:Bks} {Zr:List Nat} (h:InsAt w0 w blk n cap R zs a c Zr) (v:a+20=b) (t:b<=n):
 Calls Tryz.prog 202 #[.slice (some ⟨blk,0,none⟩) n cap,.int .i64 (a:Int),.int .i64 (b:Int),.func (.func 129) #[] #[.pointer (some ⟨bx,0,none⟩)]] w λe w'=>e=.returned (.tuple #[])/\∃done' Zr',InsAt w0 w' blk n cap R zs b done' Zr':=by
 have s:=h.d.len;rw[List.length_append,h.la]at s;obtain⟨Z,Y,rfl,q⟩:=C8f Zr 20 (by omega);have l:DR w0 w blk n cap (cat c++Z++Y):=by simpa using h.d
 have f:=o;rw[h.z,List.pairwise_append,List.pairwise_append]at f;refine(B4y w0 w blk n cap a b bx D cf R u (cat c) Z Y l h.la (by omega) f.2.1.1 (λx hx=>j x (by rw[h.z];simp[hx])) p k).mono ?_;rintro e w' ⟨r,m,i,p2,g⟩;refine⟨r,c++[(m,Z)],Y,?_,?_,h.wh.snoc (by rw[i.length_eq];exact q),h.ok.snoc i p2,?_⟩
 ·rw[A6m,A5u,h.z];simp
 ·rw[A5h,A6n,List.length_append,h.la,i.length_eq];omega
 ·rw[A5h,A6n];exact g
theorem InsAt.last (s:∀x y z,R x y->R y z->R x z) (p:C0c w0 blk #[.pointer (some ⟨bx,0,none⟩)] D cf) (j:n<=10000000) (o:zs.Pairwise (Cf cf R)) (k:∀x,x∈zs->D x) {a:Nat} {b:Bks} {Zr:List Nat} (h:InsAt w0 w blk n cap R zs a b Zr) (t:n<a+20):
 Calls Tryz.prog 202 #[.slice (some ⟨blk,0,none⟩) n cap,.int .i64 (a:Int),.int .i64 (n:Int),.func (.func 129) #[] #[.pointer (some ⟨bx,0,none⟩)]] w λe w'=>e=.returned (.tuple #[])/\∃l,PtAt w0 w' blk n cap R zs 20 l:=by
 have r:=h.d.len;rw[List.length_append,h.la]at r;have m:DR w0 w blk n cap (cat b++Zr++[]):=by simpa using h.d
 have c:=o;rw[h.z,List.pairwise_append]at c;refine(B4y w0 w blk n cap a n bx D cf R s (cat b) Zr [] m h.la (by omega) c.2.1 (λx hx=>k x (by rw[h.z];simp[hx])) p j).mono ?_;rintro e w' ⟨q,g,i,p2,f⟩;refine⟨q,b++[(g,Zr)],?_,C8y.of_whole h.wh _ (by show g.length<=20;rw[i.length_eq];omega),h.ok.snoc i p2,?_⟩
 ·rw[A6m,A5u,h.z]
 ·rw[A5h,A6n];simpa using f
theorem MgAt.next (M:∀x y z,R x y->R y z->R x z) (I:C0c w0 blk #[.pointer (some ⟨bx,0,none⟩)] D cf) (E:n<=10000000) (H:zs.Pairwise (Cf cf R)) (F:∀x,x∈zs->D x) {s a b:Nat} {c rest:Bks} (h:MgAt w0 w blk n cap R zs s a c rest) (S:0<s) (T:a+2*s=b) (L:b<=n):
 Calls Tryz.prog 203 #[.slice (some ⟨blk,0,none⟩) n cap,.int .i64 (a:Int),.int .i64 ((a+s:Nat):Int),.int .i64 (b:Int),.func (.func 129) #[] #[.pointer (some ⟨bx,0,none⟩)]] w λe w'=>e=.returned (.tuple #[])/\∃done' rest',MgAt w0 w' blk n cap R zs s b done' rest':=by
 obtain⟨B,C,N,K,d,m,l⟩:=h;have i:=l.len;rw[List.length_append,C]at i
 match rest,d with
 |[],_=>simp[cat]at i;omega
 |[p],d=>
  have d:p.1.length<=s:=d;rw[A6n]at i;omega
 |p::q::r,d=>
  rw[A4n,A4n,List.length_append,List.length_append]at i;have P:p.1.length=s:=d.1
  have O:q.1.length=s:=by
   cases r with
   |nil=>
    have Q:q.1.length<=s:=d.2;simp[cat]at i;omega
   |cons t r=>exact d.2.1
  have j:=m p (by simp);have k:=m q (by simp);have G:DR w0 w blk n cap (cat c++p.1++q.1++cat r):=by rw[A4n,A4n]at l;simpa using l
  have g:=H;rw[B,A4e,A4e,List.pairwise_append,List.pairwise_append]at g;have v:∀x,x∈p.1->∀y,y∈q.1->Cf cf R x y:=λx f y hy=>g.2.1.2.2 x (j.1.mem_iff.1 f) y (by simp[k.1.mem_iff.1 hy])
  have A:∀x,x∈p.1++q.1->D x:=λx f=>F x (by
   rw[B,A4e,A4e];rcases List.mem_append.1 f with f|f
   ·simp[j.1.mem_iff.1 f]
   ·simp[k.1.mem_iff.1 f])
  refine(C3i w0 blk n cap bx D cf R M I E (b-a) w a (a+s) b (cat c) p.1 q.1 (cat r) (Nat.le_refl _) G C (by omega) (by omega) (by omega) (by omega) j.2 k.2 v A).mono ?_;rintro e w' ⟨J,Z,u,p2,o⟩;refine⟨J,c++[(Z,p.2++q.2)],r,?_,?_,N.snoc (by show Z.length=2*s;rw[u.length_eq,List.length_append];omega),K.snoc (u.trans (j.1.append k.1)) p2,d.tail.tail,λx f=>m x (by simp[f]),?_⟩
  ·rw[A6m,A5u,B,A4e,A4e];simp
  ·rw[A5h,A6n,List.length_append,C,u.length_eq,List.length_append];omega
  ·rw[A5h,A6n];exact o
theorem MgAt.last (L:∀x y z,R x y->R y z->R x z) (I:C0c w0 blk #[.pointer (some ⟨bx,0,none⟩)] D cf) (E:n<=10000000) (H:zs.Pairwise (Cf cf R)) (F:∀x,x∈zs->D x) {s a:Nat} {b rest:Bks} (h:MgAt w0 w blk n cap R zs s a b rest) (Q:0<s) (S:n<a+2*s) (P:a+s<n):
 Calls Tryz.prog 203 #[.slice (some ⟨blk,0,none⟩) n cap,.int .i64 (a:Int),.int .i64 ((a+s:Nat):Int),.int .i64 (n:Int),.func (.func 129) #[] #[.pointer (some ⟨bx,0,none⟩)]] w λe w'=>e=.returned (.tuple #[])/\∃l,PtAt w0 w' blk n cap R zs (2*s) l:=by
 obtain⟨v,C,M,K,c,A,k⟩:=h;have g:=k.len;rw[List.length_append,C]at g
 match rest,c with
 |[],_=>simp[cat]at g;omega
 |[p],c=>
  have c:p.1.length<=s:=c;rw[A6n]at g;omega
 |p::q::r,c=>
  rw[A4n,A4n,List.length_append,List.length_append]at g;have N:p.1.length=s:=c.1
  have hr:r=[]:=by
   cases r with
   |nil=>rfl
   |cons t r=>
    have O:=c.2.1;omega
  subst hr;simp[cat]at g;have i:=A p (by simp);have j:=A q (by simp);have G:DR w0 w blk n cap (cat b++p.1++q.1++[]):=by rw[A4n,A6n]at k;simpa using k
  have f:=H;rw[v,A4e,A5u,List.pairwise_append,List.pairwise_append]at f;have o:∀x,x∈p.1->∀y,y∈q.1->Cf cf R x y:=λx d y hy=>f.2.1.2.2 x (i.1.mem_iff.1 d) y (j.1.mem_iff.1 hy)
  have u:∀x,x∈p.1++q.1->D x:=λx d=>F x (by
   rw[v,A4e,A5u];rcases List.mem_append.1 d with d|d
   ·simp[i.1.mem_iff.1 d]
   ·simp[j.1.mem_iff.1 d])
  refine(C3i w0 blk n cap bx D cf R L I E (n-a) w a (a+s) n (cat b) p.1 q.1 [] (Nat.le_refl _) G C (by omega) (by omega) (by omega) (by omega) i.2 j.2 o u).mono ?_;rintro e w' ⟨J,Z,B,p2,m⟩;refine⟨J,b++[(Z,p.2++q.2)],?_,C8y.of_whole M _ (by show Z.length<=2*s;rw[B.length_eq,List.length_append];omega),K.snoc (B.trans (i.1.append j.1)) p2,?_⟩
  ·rw[A6m,A5u,v,A4e,A5u]
  ·rw[A5h,A6n];simpa using m
theorem MgAt.none {s a:Nat} {b rest:Bks} (h:MgAt w0 w blk n cap R zs s a b rest) (A:0<s) (B:n<a+2*s) (z:¬a+s<n):∃l,PtAt w0 w blk n cap R zs (2*s) l:=by
 obtain⟨j,u,k,i,c,f,d⟩:=h;have o:=d.len;rw[List.length_append,u]at o
 match rest,c with
 |[],_=>exact⟨b,by simpa[D5b]using j,C8y.of_whole' k,i,by simpa[cat]using d⟩
 |[p],c=>
  have c:p.1.length<=s:=c;exact⟨b++[p],by rw[A6m];exact j,C8y.of_whole k p (by omega),i.snoc (f p (by simp)).1 (f p (by simp)).2,by rw[A5h];exact d⟩
 |p::q::r,c=>
  rw[A4n,A4n,List.length_append,List.length_append]at o;have x:p.1.length=s:=c.1
  have hr:r=[]:=by
   cases r with
   |nil=>rfl
   |cons t r=>
    have y:=c.2.1;omega
  subst hr;have m:=f p (by simp);have v:=f q (by simp);have e:q.1=[]:=List.eq_nil_of_length_eq_zero (by omega)
  have g:q.2=[]:=by
   have:=v.1.length_eq;rw[e]at this;exact List.eq_nil_of_length_eq_zero this.symm
  refine⟨b++[p],?_,C8y.of_whole k p (by omega),i.snoc m.1 m.2,?_⟩
  ·rw[A6m,A5u,j,A4e,A5u,g,List.append_nil]
  ·rw[A5h,A6n]
   rw[A4n,A6n,e,List.append_nil]at d;exact d
end
theorem PtAt.start {w0 w:World} {a n cap:Nat} {R:Nat->Nat->Prop} {b:List Nat} {s:Nat} {l:Bks} (h:PtAt w0 w a n cap R b s l):MgAt w0 w a n cap R b s 0 [] l:=
 ⟨h.z,rfl,λp hp=>(by cases hp),λp hp=>(by cases hp),h.fu,h.ok,h.d⟩
theorem D8e (w0 w:World) (g n cap bx:Nat) (D:Nat->Prop) (cf:Nat->Nat->Int) (R:Nat->Nat->Prop) (P:∀x y z,R x y->R y z->R x z) (k:List Nat) (h:DR w0 w g n cap k) (K:k.Pairwise (Cf cf R)) (G:∀x,x∈k->D x)
 (M:C0c w0 g #[.pointer (some ⟨bx,0,none⟩)] D cf) (Q:n<=10000000):
 Calls Tryz.prog 173 #[.slice (some ⟨g,0,none⟩) n cap,.int .i64 (n:Int),.func (.func 129) #[] #[.pointer (some ⟨bx,0,none⟩)]] w λe w'=>e=.returned (.tuple #[])/\∃Z,Z.Perm k/\Z.Pairwise R/\DR w0 w' g n cap Z:=by
 have N:=hid (show InsAt w0 w g n cap R k 0 [] k from⟨rfl,rfl,λp hp=>(by cases hp),λp hp=>(by cases hp),h⟩);have H:=hid (λ(w:World) (a b:Nat) (c:Bks) (Zr:List Nat) (h:InsAt w0 w g n cap R k a c Zr) (hb:a+20=b) (r:b<=n)=>h.next P M Q K G hb r);have I:=hid (λ(w:World) (a:Nat) (c:Bks) (Zr:List Nat) (h:InsAt w0 w g n cap R k a c Zr) (hb:n<a+20)=>h.last P M Q K G hb);have a1:=hid (λ(w:World) (s a b:Nat) (c rest:Bks) (h:MgAt w0 w g n cap R k s a c rest) (h0:0<s) (hb:a+2*s=b) (r:b<=n)=>h.next P M Q K G h0 hb r);have a4:=hid (λ(w:World) (s a:Nat) (c rest:Bks) (h:MgAt w0 w g n cap R k s a c rest) (h0:0<s) (hb:n<a+2*s) (hm:a+s<n)=>h.last P M Q K G h0 hb hm);clear h K G M P;go_enter Tryz.func173,Tryz.ntmps173;go_wp2
 go_loopw [7,8] (λs t wr=>∃(a b:Nat) (c:Bks) (Zr:List Nat),a+20=b/\a<=n/\s=.int .i64 (a:Int)/\t=.int .i64 (b:Int)/\Hid (InsAt w0 wr g n cap R k a c Zr)) (λs _ _=>n+1-(intOf s).toNat)
 case atStart=>exact⟨0,20,[],k,by omega,by omega,by go_num,by go_num,N⟩
 case round=>
  clear N;obtain⟨a,b,c,Zr,T,b6,rfl,rfl,Y⟩:=hrel;by_cases r:b<=n
  ·have U:(b:Int)<=(n:Int):=by omega
   have S:=hid (H.out wr a b c Zr Y.out T r)
   go_wp2_with (first|(go_at_call 202;refine Calls.mono S.out ?_;rintro x w2 ⟨rfl,j,X,m⟩;have v:=hid m;clear m)|fail)
   go_roundw
   case rel=>exact⟨b,b+20,j,X,by omega,by omega,rfl,by go_num,v⟩
   case measure=>simp[intOf];omega
  ·have U:¬((b:Int)<=(n:Int)):=by omega
   have S:=hid (I.out wr a c Zr Y.out (by omega));clear Y
   go_wp2_with (first|(go_at_call 202;refine Calls.mono S.out ?_;rintro x w2 ⟨rfl,l,m⟩;have v:=hid m;clear m)|fail)
   clear S H I
   go_loopw [6] (λs wr=>∃(i:Nat) (l:Bks),20<=i/\i<=40000000/\s=.int .i64 (i:Int)/\Hid (PtAt w0 wr g n cap R k i l)) (λs _=>n-(intOf s).toNat)
   case atStart=>exact⟨20,l,by omega,by omega,by go_num,v⟩
   case round=>
    clear v;obtain⟨i,l,b3,b5,rfl,B⟩:=hrel;by_cases b4:i<n
    ·have a3:(i:Int)<(n:Int):=by omega
     have N:=hid B.start;obtain⟨d,m⟩:∃d,2*i=d:=⟨_,rfl⟩;have b1:2*(i:Int)=(d:Int):=by omega
     have a8:(i:Int)*2=(d:Int):=by omega
     have f:=hid m;clear B m;go_wp2
     go_loopw [7,8] (λs t wr=>∃(a b:Nat) (c rest:Bks),a+d=b/\a<=n/\s=.int .i64 (a:Int)/\t=.int .i64 (b:Int)/\Hid (MgAt w0 wr g n cap R k i a c rest)) (λs _ _=>n+1-(intOf s).toNat)
     case atStart=>exact⟨0,d,[],l,by omega,by omega,by go_num,by go_num,N⟩
     case round=>
      clear N;obtain⟨u,E,o,q,a6,a7,rfl,rfl,hM⟩:=hrel;have b0:(u:Int)+(i:Int)=((u+i:Nat):Int):=by omega
      by_cases F:E<=n
      ·have O:(E:Int)<=(n:Int):=by omega
       have W:=hid (a1.out wr i u E o q hM.out (by omega) (by have:=f.out;omega) F);have a5:20<=d:=by have:=f.out;omega
       generalize u+i=mm at*;have a9:d<=80000000:=by have:=f.out;omega
       go_wp2_with (first|(go_at_call 203;refine Calls.mono W.out ?_;rintro x w2 ⟨rfl,j,C,m⟩;have v:=hid m;clear m)|fail)
       go_roundw
       case rel=>exact⟨E,E+d,j,C,by omega,by omega,rfl,by go_num,v⟩
       case measure=>simp[intOf];omega
      ·have O:¬((E:Int)<=(n:Int)):=by omega
       by_cases J:u+i<n
       ·have a0:((u+i:Nat):Int)<(n:Int):=by omega
        have W:=hid (a4.out wr i u o q hM.out (by omega) (by have:=f.out;omega) J);generalize u+i=mm at*
        go_wp2_with (first|(go_at_call 203;refine Calls.mono W.out ?_;rintro x w2 ⟨rfl,V,m⟩;have v:=hid m;clear m)|fail)
        go_roundw
        case rel=>exact⟨d,V,by have:=f.out;omega,by have:=f.out;omega,rfl,hid (by have:=v.out;rw[f.out]at this;exact this)⟩
        case measure=>have:=f.out;simp[intOf];omega
       ·have a0:¬(((u+i:Nat):Int)<(n:Int)):=by omega
        obtain⟨V,L⟩:=hM.none (by omega) (by have:=f.out;omega) J;have v:=hid L;clear L;generalize u+i=mm at*;go_wp2;go_roundw
        case rel=>exact⟨d,V,by have:=f.out;omega,by have:=f.out;omega,rfl,hid (by have:=v.out;rw[f.out]at this;exact this)⟩
        case measure=>have:=f.out;simp[intOf];omega
    ·have a3:¬((i:Int)<(n:Int)):=by omega
     have A:=B.fu.one B.ok (by rw[B.d.len];omega) (by omega);have HO:=hid A;clear A;go_wp2;go_end0;exact⟨rfl,cat l,by rw[B.z];exact HO.1,HO.2,B.d⟩
theorem C1w (w0 w:World) (a n cap d:Nat) (D:Nat->Prop) (c:Nat->Nat->Int) (R:Nat->Nat->Prop) (k:∀x y z,R x y->R y z->R x z) (b:List Nat) (h:DR w0 w a n cap b) (i:b.Pairwise (Cf c R)) (f:∀x,x∈b->D x)
 (j:C0c w0 a #[.pointer (some ⟨d,0,none⟩)] D c) (l:n<=10000000):
 Calls Tryz.prog 128 #[.slice (some ⟨a,0,none⟩) n cap,.func (.func 129) #[] #[.pointer (some ⟨d,0,none⟩)]] w λe w'=>e=.returned (.tuple #[])/\∃Z,Z.Perm b/\Z.Pairwise R/\DR w0 w' a n cap Z:=by
 have H:=hid (D8e w0 w a n cap d D c R k b h i f j l);clear h i f j k;go_enter Tryz.func128,Tryz.ntmps128
 go_wp2_with (first|(go_at_call 173;refine Calls.mono H.out ?_;rintro x o ⟨rfl,g⟩;have m:=hid g;clear g)|fail)
 go_end0;exact⟨rfl,m.out⟩
def ltB:LU8->LU8->Bool
 |[],[]=>false
 |[],_::_=>true
 |_::_,[]=>false
 |a::x,b::y=>if a<b then true else if b<a then false else ltB x y
theorem E4k (x y:LU8):Lib.compareBytes x y<0↔ltB x y=true:=by
 induction x generalizing y with
 |nil=>cases y<;>simp[Lib.compareBytes,ltB]
 |cons a x ih=>
  cases y with
  |nil=>simp[Lib.compareBytes,ltB]
  |cons b y=>
   simp only[Lib.compareBytes,ltB];split
   ·simp
   ·split
    ·simp
    ·exact ih y
theorem B4z {x y z:LU8} (e:ltB x y=true) (d:ltB y z=true):ltB x z=true:=by
 induction x generalizing y z with
 |nil=>
  cases z with
  |nil=>cases y<;>simp[ltB]at e d
  |cons c z=>simp[ltB]
 |cons a x ih=>
  cases y with
  |nil=>simp[ltB]at e
  |cons b y=>
   cases z with
   |nil=>simp[ltB]at d
   |cons c z=>
    simp only[ltB]at e d ⊢;by_cases h:a<b
    ·by_cases f:b<c
     ·rw[if_pos (UInt8.lt_trans h f)]
     ·rw[if_neg f]at d
      by_cases g:c<b
      ·rw[if_pos g]at d;cases d
      ·have:b=c:=UInt8.le_antisymm (UInt8.not_lt.1 g) (UInt8.not_lt.1 f)
       subst this;rw[if_pos h]
    ·rw[if_neg h]at e
     by_cases f:b<a
     ·rw[if_pos f]at e;cases e
     ·rw[if_neg f]at e
      have:a=b:=UInt8.le_antisymm (UInt8.not_lt.1 f) (UInt8.not_lt.1 h);subst this;by_cases g:a<c
      ·rw[if_pos g]
      ·rw[if_neg g]at d ⊢
       by_cases i:c<a
       ·rw[if_pos i]at d;cases d
       ·rw[if_neg i]at d ⊢
        exact ih e d
theorem C0d (x y:LU8):ltB x y=true\/x=y\/ltB y x=true:=by
 induction x generalizing y with
 |nil=>cases y<;>simp[ltB]
 |cons a x ih=>
  cases y with
  |nil=>simp[ltB]
  |cons b y=>
   simp only[ltB];by_cases c:a<b
   ·simp[c]
   ·by_cases d:b<a
    ·simp[d]
    ·have:a=b:=UInt8.le_antisymm (UInt8.not_lt.1 d) (UInt8.not_lt.1 c)
     subst this;simp only[c,if_false];rcases ih y with h|h|h
     ·exact .inl h
     ·exact .inr (.inl (by rw[h]))
     ·exact .inr (.inr h)
theorem B0d (x:LU8):ltB x x=false:=by
 induction x with
 |nil=>rfl
 |cons a x ih=>
  simp only[ltB];rw[if_neg (UInt8.lt_irrefl a),if_neg (UInt8.lt_irrefl a)];exact ih
def KO (key:Nat->LU8) (x y:Nat):Prop:=ltB (key x) (key y)=true\/(key x=key y/\x<y)
theorem KO.tr (a:Nat->LU8) (x y z:Nat) (b:KO a x y) (c:KO a y z):KO a x z:=by
 rcases b with b|⟨b,e⟩<;>rcases c with c|⟨c,d⟩
 ·exact .inl (B4z b c)
 ·exact .inl (by rw[<-c];exact b)
 ·exact .inl (by rw[b];exact c)
 ·exact .inr ⟨b.trans c,by omega⟩
theorem KO.irrefl (a:Nat->LU8) (x:Nat):¬KO a x x:=by
 rintro(h|⟨_,h⟩)
 ·rw[B0d]at h;cases h
 ·omega
theorem KO.cf (c:Nat->LU8) (x y:Nat) (h:x<y):Cf (λa b=>Lib.compareBytes (c a) (c b)) (KO c) x y:=by
 refine⟨λd=>.inl ((E4k _ _).1 d),λd=>?_⟩;have d:¬ltB (c y) (c x)=true:=λh'=>d ((E4k _ _).2 h')
 rcases C0d (c x) (c y)with h1|h1|h1
 ·exact .inl h1
 ·exact .inr ⟨h1,h⟩
 ·exact absurd h1 d
theorem D8f {R:Nat->Nat->Prop} (l:∀x y z,R x y->R y z->R x z) (k:∀x,¬R x x) {a b:List Nat} (c:a.Perm b) (i:a.Pairwise R) (j:b.Pairwise R):a=b:=by
 induction a generalizing b with
 |nil=>exact c.nil_eq
 |cons x a ih=>
  cases b with
  |nil=>exact absurd c.symm.nil_eq (by simp)
  |cons y b=>
   have f:x=y:=by
    by_cases g:x=y
    ·exact g
    ·exfalso
     have d:x∈y::b:=c.mem_iff.1 (by simp);have e:y∈x::a:=c.mem_iff.2 (by simp)
     have d:x∈b:=by
      rcases List.mem_cons.1 d with h|h
      ·exact absurd h g
      ·exact h
     have e:y∈a:=by
      rcases List.mem_cons.1 e with h|h
      ·exact absurd h.symm g
      ·exact h
     exact k x (l _ _ _ ((List.pairwise_cons.1 i).1 y e) ((List.pairwise_cons.1 j).1 x d))
   subst f;rw[ih (List.Perm.cons_inv c) (List.pairwise_cons.1 i).2 (List.pairwise_cons.1 j).2]
end Go.Proofs.YtmkkibaacclhnaaGreatDoor
