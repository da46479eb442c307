/-
  Part Wj.
-/
import Derived.Test.YtmkkibaacclhnaaGreatDoorWf
namespace Go.Proofs.YtmkkibaacclhnaaGreatDoor
open Go.RowKit
set_option maxRecDepth 100000
set_option maxHeartbeats 40000000
theorem E4i {R:Nat->Nat->Prop} (e:∀x y z,R x y->R y z->R x z) {i j k l:List Nat} (o:(i++j).Pairwise R) (p:(k++l).Pairwise R)
 (m:i=[]\/l=[]\/∃L x y G,i=L++[x]/\l=y::G/\R x y) (n:j=[]\/k=[]\/∃L y x G,k=L++[y]/\j=x::G/\R y x):
 ∀u,u∈i++k->∀v,v∈j++l->R u v:=by
 intro u a v b;have f:=List.pairwise_append.1 o;have g:=List.pairwise_append.1 p;rcases List.mem_append.1 a with a|a<;>rcases List.mem_append.1 b with b|b
 ·exact f.2.2 u a v b
 ·rcases m with rfl|rfl|⟨L,x,y,G,rfl,rfl,h⟩
  ·cases a
  ·cases b
  ·have c:u=x\/R u x:=by
    rcases List.mem_append.1 a with a|a
    ·exact .inr ((List.pairwise_append.1 f.1).2.2 u a x (by simp))
    ·exact .inl (by simpa using a)
   have d:v=y\/R y v:=by
    rcases List.mem_cons.1 b with b|b
    ·exact .inl b
    ·exact .inr ((List.pairwise_cons.1 g.2.1).1 v b)
   rcases c with rfl|c<;>rcases d with rfl|d
   ·exact h
   ·exact e _ _ _ h d
   ·exact e _ _ _ c h
   ·exact e _ _ _ c (e _ _ _ h d)
 ·rcases n with rfl|rfl|⟨L,y,x,G,rfl,rfl,h⟩
  ·cases b
  ·cases a
  ·have c:u=y\/R u y:=by
    rcases List.mem_append.1 a with a|a
    ·exact .inr ((List.pairwise_append.1 g.1).2.2 u a y (by simp))
    ·exact .inl (by simpa using a)
   have d:v=x\/R x v:=by
    rcases List.mem_cons.1 b with b|b
    ·exact .inl b
    ·exact .inr ((List.pairwise_cons.1 f.2.1).1 v b)
   rcases c with rfl|c<;>rcases d with rfl|d
   ·exact h
   ·exact e _ _ _ h d
   ·exact e _ _ _ c h
   ·exact e _ _ _ c (e _ _ _ h d)
 ·exact g.2.2 u a v b
theorem E4j {A a d:List Nat} {x t:Nat} (e:A=a++d) (b:a.length=t+1) (c:A[t]? =some x):∃L,a=L++[x]:=by
 rcases D2g a with rfl|⟨L,z,rfl⟩
 ·simp at b
 ·refine⟨L,?_⟩
  simp at b;subst b;rw[e,List.append_assoc,List.getElem?_append_right (Nat.le_refl _),Nat.sub_self]at c;simp at c;rw[c]
theorem D5a {A c b:List Nat} {x t:Nat} (d:A=c++b) (e:c.length=t) (a:A[t]? =some x):∃G,b=x::G:=by
 subst e;rw[d,List.getElem?_append_right (Nat.le_refl _),Nat.sub_self]at a;cases b with
 |nil=>simp at a
 |cons z G=>simp at a;exact⟨G,by rw[a]⟩
def F5f (w0:World) (blk n cap bx:Nat) (D:Nat->Prop) (cf:Nat->Nat->Int) (R:Nat->Nat->Prop) (f:Nat):Prop:=
 ∀(w:World) (a m b:Nat) (X A B Y:List Nat),b-a<=f->DR w0 w blk n cap (X++A++B++Y)->X.length=a->a+A.length=m->m+B.length=b->0<A.length->0<B.length->A.Pairwise R->B.Pairwise R->(∀x,x∈A->∀y,y∈B->Cf cf R x y)->(∀x,x∈A++B->D x)->
  Calls Tryz.prog 203 #[.slice (some ⟨blk,0,none⟩) n cap,.int .i64 (a:Int),.int .i64 (m:Int),.int .i64 (b:Int),.func (.func 129) #[] #[.pointer (some ⟨bx,0,none⟩)]] w λe w'=>e=.returned (.tuple #[])/\∃Z,Z.Perm (A++B)/\Z.Pairwise R/\DR w0 w' blk n cap (X++Z++Y)
structure Cut (R:Nat->Nat->Prop) (A B A1 A2 B1 B2:List Nat) (s t:Nat):Prop where
 a:A=A1++A2
 b:B=B1++B2
 la:A1.length=s
 lb:B1.length=t
 cr:∀u,u∈A1++B1->∀v,v∈A2++B2->R u v
theorem Cut.whole {R:Nat->Nat->Prop} {A B A1 A2 B1 B2 Z1 Z2:List Nat} {s t:Nat} (h:Cut R A B A1 A2 B1 B2 s t) (h1:Z1.Perm (A1++B1)) (h2:Z2.Perm (A2++B2)) (p1:Z1.Pairwise R) (p2:Z2.Pairwise R):(Z1++Z2).Perm (A++B)/\(Z1++Z2).Pairwise R:=by
 refine⟨?_,List.pairwise_append.2 ⟨p1,p2,λu hu v hv=>h.cr u (h1.mem_iff.1 hu) v (h2.mem_iff.1 hv)⟩⟩
 rw[h.a,h.b];refine(h1.append h2).trans ?_
 rw[show A1++B1++(A2++B2)=A1++(B1++A2)++B2 by simp,show A1++A2++(B1++B2)=A1++(A2++B1)++B2 by simp];exact((List.perm_append_comm).append_left A1).append_right B2
theorem C8x (w0 w:World) (blk n cap a m b bx mid f I N:Nat) (D:Nat->Prop) (cf:Nat->Nat->Int) (R:Nat->Nat->Prop) (tr:∀x y z,R x y->R y z->R x z) (IH:F5f w0 blk n cap bx D cf R f) (hf:b-a<=f+1) (X A B Y:List Nat) (h:DR w0 w blk n cap (X++A++B++Y)) (hX:X.length=a) (c9:2<=A.length) (d0:2<=B.length) (hm:a+A.length=m) (hb:m+B.length=b)
 (b8:(a+b)/2=mid) (b9:(mid<m/\I=mid+m-b/\N=mid)\/(¬mid<m/\I=a/\N=m)) (hA:A.Pairwise R) (hB:B.Pairwise R) (b6:∀x,x∈A->∀y,y∈B->Cf cf R x y) (S:∀x,x∈A++B->D x)
 (hC:C0c w0 blk #[.pointer (some ⟨bx,0,none⟩)] D cf) (hn:n<=10000000):
 Calls Tryz.prog 203 #[.slice (some ⟨blk,0,none⟩) n cap,.int .i64 (a:Int),.int .i64 (m:Int),.int .i64 (b:Int),.func (.func 129) #[] #[.pointer (some ⟨bx,0,none⟩)]] w λe w'=>e=.returned (.tuple #[])/\∃Z,Z.Perm (A++B)/\Z.Pairwise R/\DR w0 w' blk n cap (X++Z++Y):=by
 have a1:=h.len;simp only[List.length_append]at a1;have e1:b<=n:=by omega
 have e0:a<mid/\mid<b:=by omega
 have f2:((m:Int)-(a:Int)==1)=false:=bqF (by omega);have e2:((b:Int)-(m:Int)==1)=false:=bqF (by omega);have d6:((a:Int)+(b:Int))/2=(mid:Int):=by omega
 have f0:I<=N:=by omega
 have HK:=hid (show∀c,I<=c->c<N->a<=c/\c-a<A.length/\c<mid/\mid-1-c<B.length fromλc l o=>by omega);have HL:=hid (show I<=mid/\a<=I/\N<=mid/\N<=m/\mid-I<=B.length/\(I=a\/mid-I=B.length)/\(N=m\/N=mid)from by omega);have H:=hid h;have J:=hid (And.intro hX (And.intro hm hb));have HA:=hid hA;have HB:=hid hB;have T:=hid S;have a2:=hid b6;have HC:=hid hC;have c8:=hid tr;have a6:=hid IH;have a5:=hid hf;have f3:m<=n:=by omega
 have mixed:=Tryz.mixedR
 have c0:((mid:Int)<(m:Int)/\(mid:Int)+(m:Int)-(b:Int)=(I:Int)/\Hid (I=I/\N=mid))\/(¬(mid:Int)<(m:Int)/\True/\Hid (I=a/\N=m)):=by
  rcases b9 with h|h
  ·exact .inl ⟨by omega,by omega,rfl,h.2.2⟩
  ·exact .inr ⟨by omega,trivial,h.2.1,h.2.2⟩
 clear h hX hb hm hA hB S hC b6 a1 tr c9 d0 IH hf b9 b8;rcases c0 with⟨d7,d4,a7⟩|⟨d7,d4,a7⟩
 all_goals
  go_enter Tryz.func203,Tryz.ntmps203;go_wp2
  go_loopw [20,21] (λs t wr=>∃i j:Nat,I<=i/\i<=j/\j<=N/\s=.int .i64 (i:Int)/\t=.int .i64 (j:Int)/\Hid ((i=I\/∃x y,A[i-1-a]? =some x/\B[mid-i]? =some y/\R x y)/\(j=N\/∃x y,A[j-a]? =some x/\B[mid-1-j]? =some y/\R y x))/\Hid (DR w0 wr blk n cap (X++A++B++Y))) (λs t _=>(intOf t).toNat-(intOf s).toNat)
  case atStart=>exact⟨I,N,by omega,by omega,by omega,by first|rfl|rw[a7.1],by rw[a7.2],hid ⟨.inl rfl,.inl rfl⟩,H⟩
  case round=>
   obtain⟨i,j,d5,e9,d3,rfl,rfl,hS,S⟩:=hrel;by_cases f1:i<j
   ·obtain⟨c,d2⟩:∃c,(i+j)/2=c:=⟨_,rfl⟩
    have e5:i<=c:=by omega
    have e6:c<j:=by omega
    have d8:(i:Int)<(j:Int):=by omega
    have e7:((i:Int)+(j:Int))/2=(c:Int):=by omega
    obtain⟨k1,k2,k3,k4⟩:=HK.out c (by omega) (by omega);obtain⟨x,P⟩:∃x,A[c-a]? =some x:=⟨A[c-a],List.getElem?_eq_getElem _⟩;obtain⟨y,hy⟩:∃y,B[mid-1-c]? =some y:=⟨B[mid-1-c],List.getElem?_eq_getElem _⟩;have b0:x∈A:=List.mem_of_getElem? P;have b1:y∈B:=List.mem_of_getElem? hy;obtain⟨q,hq⟩:∃q,m+(mid-1-c)=q:=⟨_,rfl⟩
    have c1:=S.cell c x (by
     have l:=J.out
     rw[List.append_assoc,List.append_assoc,List.getElem?_append_right (by omega),List.getElem?_append_left (by omega),<-P,l.1])
    have c2:=S.cell q y (by
     have l:=J.out;rw[List.getElem?_append_left (by simp only[List.length_append];omega),List.getElem?_append_right (by simp only[List.length_append];omega),<-hy];congr 1;simp only[List.length_append]
     omega)
    have f5:q<n:=by have l:=J.out;omega
    have e3:c<n:=by omega
    have f7:(c:Int)<(n:Int):=by omega
    have f8:(q:Int)<(n:Int):=by omega
    have f6:(mid:Int)+(m:Int)-1-(c:Int)=(q:Int):=by omega
    have b3:=hid (λk=>HC.out y x (T.out y (by simp[b1])) (T.out x (by simp[b0])) (wr.drewN k) (S.fr.drewN k));have b2:=hid (a2.out x b0 y b1);have U:=hid (And.intro P hy);have d9:=hid (And.intro k1 (And.intro k3 hq));clear P hy b0 b1 d2 k1 k2 k3 k4 hq;by_cases hc:cf y x<0
    ·have d1:decide (cf y x<0)=true:=dcT hc
     have HR:=hid (b2.1 hc)
     go_wp2_with fail
     go_quiet ((go_at_call 129;exact Calls.quiet_of (b3.out _)));go_wp2;go_roundw
     case rel=>exact⟨i,c,d5,by omega,by omega,rfl,by go_num,hid ⟨hS.1,.inr ⟨x,y,U.1,U.2,HR.out⟩⟩,hid (S.drewN _)⟩
     case measure=>simp[intOf];omega
    ·have d1:decide (cf y x<0)=false:=dcF hc
     have HR:=hid (b2.2 hc)
     go_wp2_with fail
     go_quiet ((go_at_call 129;exact Calls.quiet_of (b3.out _)));go_wp2;go_roundw
     case rel=>
      refine⟨c+1,j,by omega,by omega,d3,by go_num,rfl,hid ⟨.inr ⟨x,y,?_,?_,HR.out⟩,hS.2⟩,hid (S.drewN _)⟩
      ·rw[show c+1-1-a=c-a by omega];exact U.1
      ·rw[show mid-(c+1)=mid-1-c by omega];exact U.2
     case measure=>simp[intOf];omega
   ·obtain rfl:i=j:=by omega
    have f4:¬((i:Int)<(i:Int)):=by omega
    have hl:=HL.out;obtain⟨F,p,d,a8⟩:=C8f A (i-a) (by have:=J.out;omega);obtain⟨u,v,g,a9⟩:=C8f B (mid-i) (by have:=J.out;omega)
    have hcut:Cut R A B F p u v (i-a) (mid-i):=by
     refine⟨d,g,a8,a9,E4i c8.out (by rw[<-d];exact HA.out) (by rw[<-g];exact HB.out) ?_ ?_⟩
     ·by_cases h0:i=a
      ·exact .inl (List.eq_nil_of_length_eq_zero (by omega))
      ·rcases hS.1 with l|⟨x,y,l,o,h3⟩
       ·refine .inr (.inl (List.eq_nil_of_length_eq_zero ?_))
        have E:=congrArg List.length g;rw[List.length_append]at E;omega
       ·obtain⟨L,hL⟩:=E4j d (t:=i-1-a) (by omega) l
        obtain⟨G,hG⟩:=D5a g a9 o;exact .inr (.inr ⟨L,x,y,G,hL,hG,h3⟩)
     ·rcases hS.2 with l|⟨x,y,l,o,h3⟩
      ·rcases hl.2.2.2.2.2.2 with h5|h5
       ·refine .inl (List.eq_nil_of_length_eq_zero ?_)
        have E:=congrArg List.length d;have h6:=J.out;rw[List.length_append]at E;omega
       ·exact .inr (.inl (List.eq_nil_of_length_eq_zero (by omega)))
      ·by_cases h0:i=mid
       ·exact .inr (.inl (List.eq_nil_of_length_eq_zero (by omega)))
       ·obtain⟨L,hL⟩:=E4j g (t:=mid-1-i) (by omega) o
        obtain⟨G,hG⟩:=D5a d a8 l;exact .inr (.inr ⟨L,y,x,G,hL,hG,h3⟩)
    have b4:=hid hcut;obtain⟨e,he⟩:∃e,mid+m-i=e:=⟨_,rfl⟩;have e4:(mid:Int)+(m:Int)-(i:Int)=(e:Int):=by omega
    have C:=hid (show X.length+F.length=i/\i+p.length=m/\m+u.length=e/\e+v.length=b/\i+u.length=mid/\mid+p.length=e from by
     have l:=J.out;have E:=congrArg List.length d;have h5:=congrArg List.length g;rw[List.length_append]at E h5
     omega)
    have b7:DR w0 wr blk n cap ((X++F)++p++u++(v++Y)):=by have:=S.out;rw[d,g]at this;simpa using this
    have a3:=hid b7
    have r:=hid (show F.Pairwise R/\p.Pairwise R/\u.Pairwise R/\v.Pairwise R from by
     have l:=HA.out;have o:=HB.out;rw[d,List.pairwise_append]at l;rw[g,List.pairwise_append]at o
     exact⟨l.1,l.2.1,o.1,o.2.1⟩)
    have Q:=hid (show(∀x,x∈F->∀y,y∈u->Cf cf R x y)/\(∀x,x∈p->∀y,y∈v->Cf cf R x y)/\(∀x,x∈F++u->D x)/\(∀x,x∈p++v->D x)from by
     have l:=a2.out;have o:=T.out;rw[d,g]at l;rw[d,g]at o;refine⟨λx P y hy=>l x (by simp[P]) y (by simp[hy]),λx P y hy=>l x (by simp[P]) y (by simp[hy]),λx P=>o x ?_,λx P=>o x ?_⟩
     ·rcases List.mem_append.1 P with h|h<;>simp[h]
     ·rcases List.mem_append.1 P with h|h<;>simp[h])
    have e8:i<=m/\m<=e/\a<=i/\i<=mid/\mid<=e/\e<=b/\e+i=mid+m:=by have:=C.out;have:=J.out;omega
    clear d a8 g a9 hcut b7 S hS hl he HK HL HC a2 T H HA HB;have b5:=hid (λ(l:i<m) (o:m<e)=>D7n w0 wr blk n cap m e (X++F) p u (v++Y) (.func (.func 129) #[] #[.pointer (some ⟨bx,0,none⟩)]) a3.out (by have:=C.out;omega) (by have:=C.out;omega) (by have:=C.out;rw[List.length_append];omega) (by have:=C.out;omega) hn)
    have c7:=hid (λ(h:¬(i<m/\m<e))=>(show DR w0 wr blk n cap (X++F++u++(p++v++Y))from by
     have l:=C.out;have o:=a3.out;by_cases h3:i<m
     ·have E:u=[]:=List.eq_nil_of_length_eq_zero (by omega)
      subst E;simpa using o
     ·have E:p=[]:=List.eq_nil_of_length_eq_zero (by omega)
      subst E
      simpa using o))
    have c3:=hid (λ(wx:World) (O:DR w0 wx blk n cap (X++F++u++(p++v++Y))) (l:a<i) (o:i<mid)=>a6.out wx a i mid X F u (p++v++Y) (by have:=a5.out;omega) O J.1 (by have:=C.out;have:=J.out;omega) (by have:=C.out;omega) (by have:=C.out;have:=J.out;omega) (by have:=C.out;omega) r.1 r.2.2.1 Q.1 Q.2.2.1)
    have c5:=hid (λ(h:¬(a<i/\i<mid))=>(show(F++u).Pairwise R from by
     have l:=C.out;have o:=J.out;by_cases h3:a<i
     ·have E:u=[]:=List.eq_nil_of_length_eq_zero (by omega)
      rw[E,List.append_nil];exact r.1
     ·have E:F=[]:=List.eq_nil_of_length_eq_zero (by omega)
      rw[E]
      exact r.2.2.1))
    have c4:=hid (λ(wx:World) (M:List Nat) (hz:M.Perm (F++u)) (O:DR w0 wx blk n cap (X++M++(p++v++Y))) (l:mid<e) (o:e<b)=>a6.out wx mid e b (X++M) p v Y (by have:=a5.out;omega) (by simpa using O) (by have:=C.out;have:=J.out;have:=hz.length_eq;rw[List.length_append]at*;omega) (by have:=C.out;omega) (by have:=C.out;omega) (by have:=C.out;omega) (by have:=C.out;omega) r.2.1 r.2.2.2 Q.2.1 Q.2.2.2)
    have c6:=hid (λ(h:¬(mid<e/\e<b))=>(show(p++v).Pairwise R from by
     have l:=C.out;by_cases h3:mid<e
     ·have E:v=[]:=List.eq_nil_of_length_eq_zero (by omega)
      rw[E,List.append_nil];exact r.2.1
     ·have E:p=[]:=List.eq_nil_of_length_eq_zero (by omega)
      rw[E]
      exact r.2.2.2))
    clear a6 a5 a3 r Q;rcases(show((i:Int)<(m:Int)/\(m:Int)<(e:Int))\/((i:Int)<(m:Int)/\¬(m:Int)<(e:Int))\/¬(i:Int)<(m:Int) by omega)with⟨hra,hrb⟩|⟨hra,hrb⟩|hra<;>
    rcases(show((a:Int)<(i:Int)/\(i:Int)<(mid:Int))\/((a:Int)<(i:Int)/\¬(i:Int)<(mid:Int))\/¬(a:Int)<(i:Int) by omega)with⟨h1a,h1b⟩|⟨h1a,h1b⟩|h1a<;>
    rcases(show((mid:Int)<(e:Int)/\(e:Int)<(b:Int))\/((mid:Int)<(e:Int)/\¬(e:Int)<(b:Int))\/¬(mid:Int)<(e:Int) by omega)with⟨h2a,h2b⟩|⟨h2a,h2b⟩|h2a<;>
    first
    |(exfalso;omega)
    |(go_wp2_with fail
      first
      |(have hr:i<m/\m<e:=by omega
        have hro:=b5.out hr.1 hr.2;rw[List.length_append,C.1]at hro;refine Calls.mono hro ?_;rintro x w2 ⟨rfl,O⟩;have a4:=hid (show DR w0 w2 blk n cap (X++F++u++(p++v++Y))from by simpa using O);clear O hro hr
        go_wp2_with fail)
      |have a4:=hid (c7.out (by omega))
      first
      |(have l:a<i/\i<mid:=by omega
        refine Calls.mono (c3.out _ a4.out l.1 l.2) ?_;rintro x w3 ⟨rfl,M,p1,s1,O⟩;have K:=hid (And.intro p1 (And.intro s1 O));clear p1 s1 O l
        go_wp2_with fail)
      |(obtain⟨M,W⟩:∃M,F++u=M:=⟨_,rfl⟩
        have K:=hid (show M.Perm (F++u)/\M.Pairwise R/\DR w0 _ blk n cap (X++M++(p++v++Y))from⟨by rw[W],by rw[<-W];exact c5.out (by omega),by rw[<-W];simpa using a4.out⟩)
        clear W)
      first
      |(have o:mid<e/\e<b:=by omega
        refine Calls.mono (c4.out _ M K.1 K.2.2 o.1 o.2) ?_;rintro x w4 ⟨rfl,Z2,p2,s2,O⟩;have V:=hid (And.intro p2 (And.intro s2 O));clear p2 s2 O o
        go_wp2_with fail)
      |(obtain⟨Z2,a0⟩:∃Z2,p++v=Z2:=⟨_,rfl⟩
        have V:=hid (show Z2.Perm (p++v)/\Z2.Pairwise R/\DR w0 _ blk n cap (X++M++Z2++Y)from⟨by rw[a0],by rw[<-a0];exact c6.out (by omega),by have:=K.2.2;rw[<-a0];simpa using this⟩)
        clear a0)
      go_end0;obtain⟨g1,g2⟩:=b4.whole K.1 V.1 K.2.1 V.2.1
      exact⟨rfl,M++Z2,g1,g2,by simpa using V.2.2⟩)
theorem C3i (w0:World) (blk n cap bx:Nat) (D:Nat->Prop) (cf:Nat->Nat->Int) (R:Nat->Nat->Prop) (o:∀x y z,R x y->R y z->R x z) (k:C0c w0 blk #[.pointer (some ⟨bx,0,none⟩)] D cf) (l:n<=10000000) (f:Nat):F5f w0 blk n cap bx D cf R f:=by
 induction f with
 |zero=>
  intro w a m b X A B Y r h e i g C E;omega
 |succ f ih=>
  intro w a m b X A B Y r h e i g C E s t c d;by_cases p:A.length=1
  ·obtain⟨u,rfl⟩:=List.length_eq_one_iff.1 p
   exact D2h w0 w blk n cap a m b bx D cf R o X B Y u h e i g t (λy hy=>c u (by simp) y hy) (d u (by simp)) (λx hx=>d x (by simp[hx])) k l
  ·by_cases q:B.length=1
   ·obtain⟨v,rfl⟩:=List.length_eq_one_iff.1 q
    exact D8d w0 w blk n cap a m b bx D cf R o X A Y v h e (by omega) i g s (λx hx=>c x hx v (by simp)) (d v (by simp)) (λx hx=>d x (by simp[hx])) k l
   ·by_cases j:(a+b)/2<m
    ·exact C8x w0 w blk n cap a m b bx _ f _ _ D cf R o ih r X A B Y h e (by omega) (by omega) i g rfl (.inl ⟨j,rfl,rfl⟩) s t c d k l
    ·exact C8x w0 w blk n cap a m b bx _ f _ _ D cf R o ih r X A B Y h e (by omega) (by omega) i g rfl (.inr ⟨j,rfl,rfl⟩) s t c d k l
abbrev Bks:=List (List Nat×List Nat)
def cat (l:Bks):List Nat:=(l.map (·.1)).flatten
def D5b (l:Bks):List Nat:=(l.map (·.2)).flatten
theorem A5h (a b:Bks):cat (a++b)=cat a++cat b:=by simp[cat]
theorem A6m (a b:Bks):D5b (a++b)=D5b a++D5b b:=by simp[D5b]
theorem A6n (p:List Nat×List Nat):cat [p]=p.1:=by simp[cat]
theorem A5u (p:List Nat×List Nat):D5b [p]=p.2:=by simp[D5b]
theorem A4n (p:List Nat×List Nat) (l:Bks):cat (p::l)=p.1++cat l:=rfl
theorem A4e (p:List Nat×List Nat) (l:Bks):D5b (p::l)=p.2++D5b l:=rfl
def OkB (R:Nat->Nat->Prop) (l:Bks):Prop:=∀p,p∈l->p.1.Perm p.2/\p.1.Pairwise R
def C8y (s:Nat):Bks->Prop
 |[]=>True
 |[p]=>p.1.length<=s
 |p::q::r=>p.1.length=s/\C8y s (q::r)
def Whole (s:Nat) (l:Bks):Prop:=∀p,p∈l->p.1.length=s
theorem C8y.of_whole {s:Nat} {l:Bks} (h:Whole s l) (p:List Nat×List Nat) (b:p.1.length<=s):C8y s (l++[p]):=by
 induction l with
 |nil=>exact b
 |cons q l ih=>
  have a:=ih (λx hx=>h x (by simp[hx]));cases l with
  |nil=>exact⟨h q (by simp),a⟩
  |cons r l=>exact⟨h q (by simp),a⟩
theorem C8y.of_whole' {s:Nat} {l:Bks} (h:Whole s l):C8y s l:=by
 induction l with
 |nil=>trivial
 |cons q l ih=>
  have a:=ih (λx hx=>h x (by simp[hx]));cases l with
  |nil=>exact Nat.le_of_eq (h q (by simp))
  |cons r l=>exact⟨h q (by simp),a⟩
theorem C8y.tail {s:Nat} {p:List Nat×List Nat} {l:Bks} (h:C8y s (p::l)):C8y s l:=by
 cases l with
 |nil=>trivial
 |cons q l=>exact h.2
theorem C8y.one {R:Nat->Nat->Prop} {s:Nat} {l:Bks} (h:C8y s l) (b:OkB R l) (i:(cat l).length<=s) (j:0<s):(cat l).Perm (D5b l)/\(cat l).Pairwise R:=by
 match l,h with
 |[],_=>exact⟨List.Perm.refl _,List.Pairwise.nil⟩
 |[p],_=>
  rw[A6n,A5u];exact b p (by simp)
 |p::q::r,h=>
  have k:=h.1;rw[A4n,List.length_append]at i;have d:(cat (q::r)).length=0:=by omega
  have g:=b q (by simp)
  have a:q.1=[]:=by
   rw[A4n,List.length_append]at d;exact List.eq_nil_of_length_eq_zero (by omega)
  have hr:r=[]:=by
   cases r with
   |nil=>rfl
   |cons t r=>
    have c:=h.2.1;rw[a]at c;simp at c;omega
  subst hr
  have e:q.2=[]:=by
   have:=g.1.length_eq;rw[a]at this;exact List.eq_nil_of_length_eq_zero this.symm
  have f:=b p (by simp);rw[A4n,A4e,A6n,A5u,a,e,List.append_nil,List.append_nil];exact f
structure InsAt (w0 w:World) (blk n cap:Nat) (R:Nat->Nat->Prop) (zs:List Nat) (a:Nat) (done:Bks) (Zr:List Nat):Prop where
 z:zs=D5b done++Zr
 la:(cat done).length=a
 wh:Whole 20 done
 ok:OkB R done
 d:DR w0 w blk n cap (cat done++Zr)
structure MgAt (w0 w:World) (blk n cap:Nat) (R:Nat->Nat->Prop) (zs:List Nat) (s a:Nat) (done rest:Bks):Prop where
 z:zs=D5b done++D5b rest
 la:(cat done).length=a
 wh:Whole (2*s) done
 ok:OkB R done
 fu:C8y s rest
 ok2:OkB R rest
 d:DR w0 w blk n cap (cat done++cat rest)
structure PtAt (w0 w:World) (blk n cap:Nat) (R:Nat->Nat->Prop) (zs:List Nat) (s:Nat) (l:Bks):Prop where
 z:zs=D5b l
 fu:C8y s l
 ok:OkB R l
 d:DR w0 w blk n cap (cat l)
theorem OkB.snoc {R:Nat->Nat->Prop} {l:Bks} (h:OkB R l) {p:List Nat×List Nat} (b:p.1.Perm p.2) (c:p.1.Pairwise R):OkB R (l++[p]):=by
 intro q a;rcases List.mem_append.1 a with a|a
 ·exact h q a
 ·simp at a;subst a;exact⟨b,c⟩
theorem Whole.snoc {s:Nat} {l:Bks} (h:Whole s l) {p:List Nat×List Nat} (b:p.1.length=s):Whole s (l++[p]):=by
 intro q a;rcases List.mem_append.1 a with a|a
 ·exact h q a
 ·simp at a;subst a;exact b
section
variable {w0 w:World} {blk n cap bx:Nat} {D:Nat->Prop} {cf:Nat->Nat->Int} {R:Nat->Nat->Prop} {zs:List Nat}
theorem InsAt.next (u:∀x y z,R x y->R y z->R x z) (k:C0c w0 blk #[.pointer (some ⟨bx,0,none⟩)] D cf) (s:n<=10000000) (t:zs.Pairwise (Cf cf R)) (l:∀x,x∈zs->D x) {a b:Nat} {c:Bks} {Zr:List Nat} (h:InsAt w0 w blk n cap R zs a c Zr) (v:a+20=b) (o:b<=n):
 Calls Tryz.prog 202 #[.slice (some ⟨blk,0,none⟩) n cap,.int .i64 (a:Int),.int .i64 (b:Int),.func (.func 129) #[] #[.pointer (some ⟨bx,0,none⟩)]] w λe w'=>e=.returned (.tuple #[])/\∃done' Zr',InsAt w0 w' blk n cap R zs b done' Zr':=by
 have r:=h.d.len;rw[List.length_append,h.la]at r;obtain⟨Z,Y,rfl,m⟩:=C8f Zr 20 (by omega);have p:DR w0 w blk n cap (cat c++Z++Y):=by simpa using h.d
 have f:=t;rw[h.z,List.pairwise_append,List.pairwise_append]at f;refine(B4y w0 w blk n cap a b bx D cf R u (cat c) Z Y p h.la (by omega) f.2.1.1 (λx hx=>l x (by rw[h.z];simp[hx])) k s).mono ?_;rintro e w' ⟨q,j,i,p2,g⟩;refine⟨q,c++[(j,Z)],Y,?_,?_,h.wh.snoc (by rw[i.length_eq];exact m),h.ok.snoc i p2,?_⟩
 ·rw[A6m,A5u,h.z];simp
 ·rw[A5h,A6n,List.length_append,h.la,i.length_eq];omega
 ·rw[A5h,A6n];exact g
theorem InsAt.last (s:∀x y z,R x y->R y z->R x z) (j:C0c w0 blk #[.pointer (some ⟨bx,0,none⟩)] D cf) (q:n<=10000000) (r:zs.Pairwise (Cf cf R)) (k:∀x,x∈zs->D x) {a:Nat} {b:Bks} {Zr:List Nat} (h:InsAt w0 w blk n cap R zs a b Zr) (t:n<a+20):
 Calls Tryz.prog 202 #[.slice (some ⟨blk,0,none⟩) n cap,.int .i64 (a:Int),.int .i64 (n:Int),.func (.func 129) #[] #[.pointer (some ⟨bx,0,none⟩)]] w λe w'=>e=.returned (.tuple #[])/\∃l,PtAt w0 w' blk n cap R zs 20 l:=by
 have p:=h.d.len;rw[List.length_append,h.la]at p;have m:DR w0 w blk n cap (cat b++Zr++[]):=by simpa using h.d
 have c:=r;rw[h.z,List.pairwise_append]at c;refine(B4y w0 w blk n cap a n bx D cf R s (cat b) Zr [] m h.la (by omega) c.2.1 (λx hx=>k x (by rw[h.z];simp[hx])) j q).mono ?_;rintro e w' ⟨o,g,i,p2,f⟩;refine⟨o,b++[(g,Zr)],?_,C8y.of_whole h.wh _ (by show g.length<=20;rw[i.length_eq];omega),h.ok.snoc i p2,?_⟩
 ·rw[A6m,A5u,h.z]
 ·rw[A5h,A6n];simpa using f
theorem MgAt.next (N:∀x y z,R x y->R y z->R x z) (G:C0c w0 blk #[.pointer (some ⟨bx,0,none⟩)] D cf) (L:n<=10000000) (M:zs.Pairwise (Cf cf R)) (H:∀x,x∈zs->D x) {s a b:Nat} {c rest:Bks} (h:MgAt w0 w blk n cap R zs s a c rest) (O:0<s) (Q:a+2*s=b) (I:b<=n):
 Calls Tryz.prog 203 #[.slice (some ⟨blk,0,none⟩) n cap,.int .i64 (a:Int),.int .i64 ((a+s:Nat):Int),.int .i64 (b:Int),.func (.func 129) #[] #[.pointer (some ⟨bx,0,none⟩)]] w λe w'=>e=.returned (.tuple #[])/\∃done' rest',MgAt w0 w' blk n cap R zs s b done' rest':=by
 obtain⟨l,m,E,F,d,o,u⟩:=h;have g:=u.len;rw[List.length_append,m]at g
 match rest,d with
 |[],_=>simp[cat]at g;omega
 |[p],d=>
  have d:p.1.length<=s:=d;rw[A6n]at g;omega
 |p::q::r,d=>
  rw[A4n,A4n,List.length_append,List.length_append]at g;have S:p.1.length=s:=d.1
  have T:q.1.length=s:=by
   cases r with
   |nil=>
    have P:q.1.length<=s:=d.2;simp[cat]at g;omega
   |cons t r=>exact d.2.1
  have j:=o p (by simp);have k:=o q (by simp);have J:DR w0 w blk n cap (cat c++p.1++q.1++cat r):=by rw[A4n,A4n]at u;simpa using u
  have i:=M;rw[l,A4e,A4e,List.pairwise_append,List.pairwise_append]at i;have v:∀x,x∈p.1->∀y,y∈q.1->Cf cf R x y:=λx f y hy=>i.2.1.2.2 x (j.1.mem_iff.1 f) y (by simp[k.1.mem_iff.1 hy])
  have B:∀x,x∈p.1++q.1->D x:=λx f=>H x (by
   rw[l,A4e,A4e];rcases List.mem_append.1 f with f|f
   ·simp[j.1.mem_iff.1 f]
   ·simp[k.1.mem_iff.1 f])
  refine(C3i w0 blk n cap bx D cf R N G L (b-a) w a (a+s) b (cat c) p.1 q.1 (cat r) (Nat.le_refl _) J m (by omega) (by omega) (by omega) (by omega) j.2 k.2 v B).mono ?_;rintro e w' ⟨K,Z,C,p2,A⟩;refine⟨K,c++[(Z,p.2++q.2)],r,?_,?_,E.snoc (by show Z.length=2*s;rw[C.length_eq,List.length_append];omega),F.snoc (C.trans (j.1.append k.1)) p2,d.tail.tail,λx f=>o x (by simp[f]),?_⟩
  ·rw[A6m,A5u,l,A4e,A4e];simp
  ·rw[A5h,A6n,List.length_append,m,C.length_eq,List.length_append];omega
  ·rw[A5h,A6n];exact A
theorem MgAt.last (M:∀x y z,R x y->R y z->R x z) (G:C0c w0 blk #[.pointer (some ⟨bx,0,none⟩)] D cf) (K:n<=10000000) (L:zs.Pairwise (Cf cf R)) (H:∀x,x∈zs->D x) {s a:Nat} {b rest:Bks} (h:MgAt w0 w blk n cap R zs s a b rest) (N:0<s) (P:n<a+2*s) (Q:a+s<n):
 Calls Tryz.prog 203 #[.slice (some ⟨blk,0,none⟩) n cap,.int .i64 (a:Int),.int .i64 ((a+s:Nat):Int),.int .i64 (n:Int),.func (.func 129) #[] #[.pointer (some ⟨bx,0,none⟩)]] w λe w'=>e=.returned (.tuple #[])/\∃l,PtAt w0 w' blk n cap R zs (2*s) l:=by
 obtain⟨k,A,E,F,c,B,m⟩:=h;have f:=m.len;rw[List.length_append,A]at f
 match rest,c with
 |[],_=>simp[cat]at f;omega
 |[p],c=>
  have c:p.1.length<=s:=c;rw[A6n]at f;omega
 |p::q::r,c=>
  rw[A4n,A4n,List.length_append,List.length_append]at f;have S:p.1.length=s:=c.1
  have hr:r=[]:=by
   cases r with
   |nil=>rfl
   |cons t r=>
    have O:=c.2.1;omega
  subst hr;simp[cat]at f;have i:=B p (by simp);have j:=B q (by simp);have I:DR w0 w blk n cap (cat b++p.1++q.1++[]):=by rw[A4n,A6n]at m;simpa using m
  have g:=L;rw[k,A4e,A5u,List.pairwise_append,List.pairwise_append]at g;have o:∀x,x∈p.1->∀y,y∈q.1->Cf cf R x y:=λx d y hy=>g.2.1.2.2 x (i.1.mem_iff.1 d) y (j.1.mem_iff.1 hy)
  have v:∀x,x∈p.1++q.1->D x:=λx d=>H x (by
   rw[k,A4e,A5u];rcases List.mem_append.1 d with d|d
   ·simp[i.1.mem_iff.1 d]
   ·simp[j.1.mem_iff.1 d])
  refine(C3i w0 blk n cap bx D cf R M G K (n-a) w a (a+s) n (cat b) p.1 q.1 [] (Nat.le_refl _) I A (by omega) (by omega) (by omega) (by omega) i.2 j.2 o v).mono ?_;rintro e w' ⟨J,Z,C,p2,u⟩;refine⟨J,b++[(Z,p.2++q.2)],?_,C8y.of_whole E _ (by show Z.length<=2*s;rw[C.length_eq,List.length_append];omega),F.snoc (C.trans (i.1.append j.1)) p2,?_⟩
  ·rw[A6m,A5u,k,A4e,A5u]
  ·rw[A5h,A6n];simpa using u
theorem MgAt.none {s a:Nat} {b rest:Bks} (h:MgAt w0 w blk n cap R zs s a b rest) (x:0<s) (z:n<a+2*s) (A:¬a+s<n):∃l,PtAt w0 w blk n cap R zs (2*s) l:=by
 obtain⟨g,u,i,j,c,f,d⟩:=h;have m:=d.len;rw[List.length_append,u]at m
 match rest,c with
 |[],_=>exact⟨b,by simpa[D5b]using g,C8y.of_whole' i,j,by simpa[cat]using d⟩
 |[p],c=>
  have c:p.1.length<=s:=c;exact⟨b++[p],by rw[A6m];exact g,C8y.of_whole i p (by omega),j.snoc (f p (by simp)).1 (f p (by simp)).2,by rw[A5h];exact d⟩
 |p::q::r,c=>
  rw[A4n,A4n,List.length_append,List.length_append]at m;have B:p.1.length=s:=c.1
  have hr:r=[]:=by
   cases r with
   |nil=>rfl
   |cons t r=>
    have y:=c.2.1;omega
  subst hr;have o:=f p (by simp);have v:=f q (by simp);have e:q.1=[]:=List.eq_nil_of_length_eq_zero (by omega)
  have k:q.2=[]:=by
   have:=v.1.length_eq;rw[e]at this;exact List.eq_nil_of_length_eq_zero this.symm
  refine⟨b++[p],?_,C8y.of_whole i p (by omega),j.snoc o.1 o.2,?_⟩
  ·rw[A6m,A5u,g,A4e,A5u,k,List.append_nil]
  ·rw[A5h,A6n]
   rw[A4n,A6n,e,List.append_nil]at d;exact d
end
theorem PtAt.start {w0 w:World} {blk n cap:Nat} {R:Nat->Nat->Prop} {zs:List Nat} {s:Nat} {l:Bks} (h:PtAt w0 w blk n cap R zs s l):MgAt w0 w blk n cap R zs s 0 [] l:=
 ⟨h.z,rfl,λp hp=>(by cases hp),λp hp=>(by cases hp),h.fu,h.ok,h.d⟩
theorem D8e (w0 w:World) (blk n cap bx:Nat) (D:Nat->Prop) (cf:Nat->Nat->Int) (R:Nat->Nat->Prop) (N:∀x y z,R x y->R y z->R x z) (zs:List Nat) (h:DR w0 w blk n cap zs) (M:zs.Pairwise (Cf cf R)) (H:∀x,x∈zs->D x)
 (G:C0c w0 blk #[.pointer (some ⟨bx,0,none⟩)] D cf) (P:n<=10000000):
 Calls Tryz.prog 173 #[.slice (some ⟨blk,0,none⟩) n cap,.int .i64 (n:Int),.func (.func 129) #[] #[.pointer (some ⟨bx,0,none⟩)]] w λe w'=>e=.returned (.tuple #[])/\∃Z,Z.Perm zs/\Z.Pairwise R/\DR w0 w' blk n cap Z:=by
 have C:=hid (show InsAt w0 w blk n cap R zs 0 [] zs from⟨rfl,rfl,λp hp=>(by cases hp),λp hp=>(by cases hp),h⟩);have E:=hid (λ(w:World) (a b:Nat) (c:Bks) (Zr:List Nat) (h:InsAt w0 w blk n cap R zs a c Zr) (hb:a+20=b) (m:b<=n)=>h.next N G P M H hb m);have F:=hid (λ(w:World) (a:Nat) (c:Bks) (Zr:List Nat) (h:InsAt w0 w blk n cap R zs a c Zr) (hb:n<a+20)=>h.last N G P M H hb);have S:=hid (λ(w:World) (s a b:Nat) (c rest:Bks) (h:MgAt w0 w blk n cap R zs s a c rest) (h0:0<s) (hb:a+2*s=b) (m:b<=n)=>h.next N G P M H h0 hb m);have T:=hid (λ(w:World) (s a:Nat) (c rest:Bks) (h:MgAt w0 w blk n cap R zs s a c rest) (h0:0<s) (hb:n<a+2*s) (hm:a+s<n)=>h.last N G P M H h0 hb hm);clear h M H G N;go_enter Tryz.func173,Tryz.ntmps173;go_wp2
 go_loopw [7,8] (λs t wr=>∃(a b:Nat) (c:Bks) (Zr:List Nat),a+20=b/\a<=n/\s=.int .i64 (a:Int)/\t=.int .i64 (b:Int)/\Hid (InsAt w0 wr blk n cap R zs a c Zr)) (λs _ _=>n+1-(intOf s).toNat)
 case atStart=>exact⟨0,20,[],zs,by omega,by omega,by go_num,by go_num,C⟩
 case round=>
  clear C;obtain⟨a,b,c,Zr,X,a7,rfl,rfl,V⟩:=hrel;by_cases m:b<=n
  ·have Y:(b:Int)<=(n:Int):=by omega
   have O:=hid (E.out wr a b c Zr V.out X m)
   go_wp2_with (first|(go_at_call 202;refine Calls.mono O.out ?_;rintro x w2 ⟨rfl,i,U,j⟩;have q:=hid j;clear j)|fail)
   go_roundw
   case rel=>exact⟨b,b+20,i,U,by omega,by omega,rfl,by go_num,q⟩
   case measure=>simp[intOf];omega
  ·have Y:¬((b:Int)<=(n:Int)):=by omega
   have O:=hid (F.out wr a c Zr V.out (by omega));clear V
   go_wp2_with (first|(go_at_call 202;refine Calls.mono O.out ?_;rintro x w2 ⟨rfl,l,j⟩;have q:=hid j;clear j)|fail)
   clear O E F
   go_loopw [6] (λs wr=>∃(g:Nat) (l:Bks),20<=g/\g<=40000000/\s=.int .i64 (g:Int)/\Hid (PtAt w0 wr blk n cap R zs g l)) (λs _=>n-(intOf s).toNat)
   case atStart=>exact⟨20,l,by omega,by omega,by go_num,q⟩
   case round=>
    clear q;obtain⟨g,l,b1,b3,rfl,v⟩:=hrel;by_cases b4:g<n
    ·have a1:(g:Int)<(n:Int):=by omega
     have C:=hid v.start;obtain⟨d,j⟩:∃d,2*g=d:=⟨_,rfl⟩;have a9:2*(g:Int)=(d:Int):=by omega
     have a6:(g:Int)*2=(d:Int):=by omega
     have f:=hid j;clear v j;go_wp2
     go_loopw [7,8] (λs t wr=>∃(a b:Nat) (c rest:Bks),a+d=b/\a<=n/\s=.int .i64 (a:Int)/\t=.int .i64 (b:Int)/\Hid (MgAt w0 wr blk n cap R zs g a c rest)) (λs _ _=>n+1-(intOf s).toNat)
     case atStart=>exact⟨0,d,[],l,by omega,by omega,by go_num,by go_num,C⟩
     case round=>
      clear C;obtain⟨r,B,k,o,a3,a4,rfl,rfl,W⟩:=hrel;have b0:(r:Int)+(g:Int)=((r+g:Nat):Int):=by omega
      by_cases I:B<=n
      ·have J:(B:Int)<=(n:Int):=by omega
       have Q:=hid (S.out wr g r B k o W.out (by omega) (by have:=f.out;omega) I);have a5:20<=d:=by have:=f.out;omega
       generalize r+g=mm at*;have a8:d<=80000000:=by have:=f.out;omega
       go_wp2_with (first|(go_at_call 203;refine Calls.mono Q.out ?_;rintro x w2 ⟨rfl,i,A,j⟩;have q:=hid j;clear j)|fail)
       go_roundw
       case rel=>exact⟨B,B+d,i,A,by omega,by omega,rfl,by go_num,q⟩
       case measure=>simp[intOf];omega
      ·have J:¬((B:Int)<=(n:Int)):=by omega
       by_cases L:r+g<n
       ·have a0:((r+g:Nat):Int)<(n:Int):=by omega
        have Q:=hid (T.out wr g r k o W.out (by omega) (by have:=f.out;omega) L);generalize r+g=mm at*
        go_wp2_with (first|(go_at_call 203;refine Calls.mono Q.out ?_;rintro x w2 ⟨rfl,l',j⟩;have q:=hid j;clear j)|fail)
        go_roundw
        case rel=>exact⟨d,l',by have:=f.out;omega,by have:=f.out;omega,rfl,hid (by have:=q.out;rw[f.out]at this;exact this)⟩
        case measure=>have:=f.out;simp[intOf];omega
       ·have a0:¬(((r+g:Nat):Int)<(n:Int)):=by omega
        obtain⟨l',K⟩:=W.none (by omega) (by have:=f.out;omega) L;have q:=hid K;clear K;generalize r+g=mm at*;go_wp2;go_roundw
        case rel=>exact⟨d,l',by have:=f.out;omega,by have:=f.out;omega,rfl,hid (by have:=q.out;rw[f.out]at this;exact this)⟩
        case measure=>have:=f.out;simp[intOf];omega
    ·have a1:¬((g:Int)<(n:Int)):=by omega
     have u:=v.fu.one v.ok (by rw[v.d.len];omega) (by omega);have HO:=hid u;clear u;go_wp2;go_end0;exact⟨rfl,cat l,by rw[v.z];exact HO.1,HO.2,v.d⟩
theorem C1w (w0 w:World) (blk n cap bx:Nat) (D:Nat->Prop) (cf:Nat->Nat->Int) (R:Nat->Nat->Prop) (f:∀x y z,R x y->R y z->R x z) (zs:List Nat) (h:DR w0 w blk n cap zs) (d:zs.Pairwise (Cf cf R)) (b:∀x,x∈zs->D x)
 (a:C0c w0 blk #[.pointer (some ⟨bx,0,none⟩)] D cf) (i:n<=10000000):
 Calls Tryz.prog 128 #[.slice (some ⟨blk,0,none⟩) n cap,.func (.func 129) #[] #[.pointer (some ⟨bx,0,none⟩)]] w λe w'=>e=.returned (.tuple #[])/\∃Z,Z.Perm zs/\Z.Pairwise R/\DR w0 w' blk n cap Z:=by
 have H:=hid (D8e w0 w blk n cap bx D cf R f zs h d b a i);clear h d b a f;go_enter Tryz.func128,Tryz.ntmps128
 go_wp2_with (first|(go_at_call 173;refine Calls.mono H.out ?_;rintro x j ⟨rfl,c⟩;have g:=hid c;clear c)|fail)
 go_end0;exact⟨rfl,g.out⟩
def ltB:LU8->LU8->Bool
 |[],[]=>false
 |[],_::_=>true
 |_::_,[]=>false
 |a::x,b::y=>if a<b then true else if b<a then false else ltB x y
theorem E4k (x y:LU8):Lib.compareBytes x y<0↔ltB x y=true:=by
 induction x generalizing y with
 |nil=>cases y<;>simp[Lib.compareBytes,ltB]
 |cons a x ih=>
  cases y with
  |nil=>simp[Lib.compareBytes,ltB]
  |cons b y=>
   simp only[Lib.compareBytes,ltB];split
   ·simp
   ·split
    ·simp
    ·exact ih y
theorem B4z {x y z:LU8} (e:ltB x y=true) (d:ltB y z=true):ltB x z=true:=by
 induction x generalizing y z with
 |nil=>
  cases z with
  |nil=>cases y<;>simp[ltB]at e d
  |cons c z=>simp[ltB]
 |cons a x ih=>
  cases y with
  |nil=>simp[ltB]at e
  |cons b y=>
   cases z with
   |nil=>simp[ltB]at d
   |cons c z=>
    simp only[ltB]at e d ⊢;by_cases h:a<b
    ·by_cases f:b<c
     ·rw[if_pos (UInt8.lt_trans h f)]
     ·rw[if_neg f]at d
      by_cases g:c<b
      ·rw[if_pos g]at d;cases d
      ·have:b=c:=UInt8.le_antisymm (UInt8.not_lt.1 g) (UInt8.not_lt.1 f)
       subst this;rw[if_pos h]
    ·rw[if_neg h]at e
     by_cases f:b<a
     ·rw[if_pos f]at e;cases e
     ·rw[if_neg f]at e
      have:a=b:=UInt8.le_antisymm (UInt8.not_lt.1 f) (UInt8.not_lt.1 h);subst this;by_cases g:a<c
      ·rw[if_pos g]
      ·rw[if_neg g]at d ⊢
       by_cases i:c<a
       ·rw[if_pos i]at d;cases d
       ·rw[if_neg i]at d ⊢
        exact ih e d
theorem C0d (x y:LU8):ltB x y=true\/x=y\/ltB y x=true:=by
 induction x generalizing y with
 |nil=>cases y<;>simp[ltB]
 |cons a x ih=>
  cases y with
  |nil=>simp[ltB]
  |cons b y=>
   simp only[ltB];by_cases c:a<b
   ·simp[c]
   ·by_cases d:b<a
    ·simp[d]
    ·have:a=b:=UInt8.le_antisymm (UInt8.not_lt.1 d) (UInt8.not_lt.1 c)
     subst this;simp only[c,if_false];rcases ih y with h|h|h
     ·exact .inl h
     ·exact .inr (.inl (by rw[h]))
     ·exact .inr (.inr h)
theorem B0d (x:LU8):ltB x x=false:=by
 induction x with
 |nil=>rfl
 |cons a x ih=>
  simp only[ltB];rw[if_neg (UInt8.lt_irrefl a),if_neg (UInt8.lt_irrefl a)];exact ih
def KO (key:Nat->LU8) (x y:Nat):Prop:=ltB (key x) (key y)=true\/(key x=key y/\x<y)
theorem KO.tr (c:Nat->LU8) (x y z:Nat) (a:KO c x y) (b:KO c y z):KO c x z:=by
 rcases a with a|⟨a,d⟩<;>rcases b with b|⟨b,e⟩
 ·exact .inl (B4z a b)
 ·exact .inl (by rw[<-b];exact a)
 ·exact .inl (by rw[a];exact b)
 ·exact .inr ⟨a.trans b,by omega⟩
theorem KO.irrefl (a:Nat->LU8) (x:Nat):¬KO a x x:=by
 rintro(h|⟨_,h⟩)
 ·rw[B0d]at h;cases h
 ·omega
theorem KO.cf (c:Nat->LU8) (x y:Nat) (h:x<y):Cf (λa b=>Lib.compareBytes (c a) (c b)) (KO c) x y:=by
 refine⟨λd=>.inl ((E4k _ _).1 d),λd=>?_⟩;have d:¬ltB (c y) (c x)=true:=λh'=>d ((E4k _ _).2 h')
 rcases C0d (c x) (c y)with h1|h1|h1
 ·exact .inl h1
 ·exact .inr ⟨h1,h⟩
 ·exact absurd h1 d
theorem D8f {R:Nat->Nat->Prop} (l:∀x y z,R x y->R y z->R x z) (k:∀x,¬R x x) {a b:List Nat} (c:a.Perm b) (i:a.Pairwise R) (j:b.Pairwise R):a=b:=by
 induction a generalizing b with
 |nil=>exact c.nil_eq
 |cons x a ih=>
  cases b with
  |nil=>exact absurd c.symm.nil_eq (by simp)
  |cons y b=>
   have f:x=y:=by
    by_cases d:x=y
    ·exact d
    ·exfalso
     have e:x∈y::b:=c.mem_iff.1 (by simp);have g:y∈x::a:=c.mem_iff.2 (by simp)
     have e:x∈b:=by
      rcases List.mem_cons.1 e with h|h
      ·exact absurd h d
      ·exact h
     have g:y∈a:=by
      rcases List.mem_cons.1 g with h|h
      ·exact absurd h.symm d
      ·exact h
     exact k x (l _ _ _ ((List.pairwise_cons.1 i).1 y g) ((List.pairwise_cons.1 j).1 x e))
   subst f;rw[ih (List.Perm.cons_inv c) (List.pairwise_cons.1 i).2 (List.pairwise_cons.1 j).2]
end Go.Proofs.YtmkkibaacclhnaaGreatDoor
