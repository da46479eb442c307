/-
  Part Cde.
-/
import Derived.Test.YtmkkibaacclhnaaGreatDoorKep
namespace Go.Proofs.YtmkkibaacclhnaaGreatDoor
open Go.RowKit
def A1t (N:Nat) (x:Int) (r:Nat):Prop:=(r<9218868437227405312/\A3u N x r)\/(r=9218868437227405312/\mid 9218868437227405311*p10 (-x).toNat<=2*(N*pP x))
theorem A1t.uniq {N r s:Nat} {x:Int} (e:A1t N x r) (f:A1t N x s):r=s:=by
 rcases e with⟨c,a⟩|⟨c,a⟩<;>rcases f with⟨d,b⟩|⟨d,b⟩
 ·exact Rnd.uniq (A0v _) a b
 ·have:=B9a (A0v _) a c;omega
 ·have:=B9a (A0v _) b d;omega
 ·omega
theorem A1t.same {c d r:Nat} {f g:Int} (e:B1q c f d g) (h:A1t c f r):A1t d g r:=by
 rcases h with⟨a,b⟩|⟨a,b⟩
 ·exact .inl ⟨a,b.same e⟩
 ·refine .inr ⟨a,?_⟩
  unfold B1q at e;unfold pP at b ⊢;have l:=A0v (-f).toNat;refine Nat.le_of_mul_le_mul_right (c:=p10 (-f).toNat) ?_ l;have i:=Nat.mul_le_mul_right (p10 (-g).toNat) b;generalize p2 1074=s at*
  have j:2*(c*(p10 f.toNat*s))*p10 (-g).toNat=2*(s*(c*p10 f.toNat*p10 (-g).toNat)):=by
   simp only[Nat.mul_assoc,Nat.mul_left_comm,Nat.mul_comm]
  have k:2*(d*(p10 g.toNat*s))*p10 (-f).toNat=2*(s*(d*p10 g.toNat*p10 (-f).toNat)):=by
   simp only[Nat.mul_assoc,Nat.mul_left_comm,Nat.mul_comm]
  rw[j,e]at i;rw[k];rw[Nat.mul_right_comm];exact i
theorem G0r {N j:Nat} {x:Int} (e:p10 j<=N) (g:309<=(j:Int)+x):mid 9218868437227405311*p10 (-x).toNat<=2*(N*pP x):=by
 unfold pP
 have c:p10 309*p10 (-x).toNat<=N*p10 x.toNat:=by
  rw[<-A1h];refine Nat.le_trans (A3r _ (j+x.toNat) (by omega)) ?_;rw[A1h];exact Nat.mul_le_mul_right _ e
 have f:=Nat.mul_le_mul_right (p2 1074) c;have d:=Nat.mul_le_mul_right (p10 (-x).toNat) (Nat.le_of_lt G0n);generalize p2 1074=s at*;have a:2*(p10 309*s)*p10 (-x).toNat=2*(p10 309*p10 (-x).toNat*s):=by simp only[Nat.mul_left_comm,Nat.mul_comm]
 have b:N*(p10 x.toNat*s)=N*p10 x.toNat*s:=(Nat.mul_assoc ..).symm;rw[b];rw[a]at d;omega
theorem A1t.big {N j:Nat} {x:Int} (a:p10 j<=N) (b:309<=(j:Int)+x):A1t N x 9218868437227405312:=.inr ⟨rfl,G0r a b⟩
theorem A1t.small {N j:Nat} {x:Int} (d:N<p10 j) (f:(j:Int)+x<= -324):A1t N x 0:=by
 refine .inl ⟨by omega,.inl rfl,.inl ?_⟩;unfold pP;rw[G0p,Nat.one_mul,show x.toNat=0 by omega,show p10 0=1 from rfl,Nat.one_mul];have a:p10 (j+324)<=p10 (-x).toNat:=A3r _ _ (by omega);rw[A1h]at a;have b:=D1q;have c:N*(2*p2 1074)<=p10 j*(2*p2 1074):=Nat.mul_le_mul_right _ (Nat.le_of_lt d);have e:p10 j*(2*p2 1074)<p10 j*p10 324:=Nat.mul_lt_mul_of_pos_left b (A0v j);rw[Nat.mul_left_comm]at c;omega
theorem A1t.zero (x:Int):A1t 0 x 0:=by
 refine .inl ⟨by omega,.inl rfl,.inl ?_⟩;rw[G0p,Nat.one_mul,Nat.zero_mul];exact A0v _
theorem B6a {D:List Nat} {P:Int} {r:Nat} (j:B0m D) (o:D.head? ≠some 0) (h:A8v D P r):A1t (num D) (P-D.length) r:=by
 cases a:oor D P
 ·obtain⟨⟨i,q,m⟩,hr⟩:=h.2 a
  by_cases b:D=[]
  ·have e:=i (.inl b)
   subst b;subst e;exact A1t.zero _
  by_cases f:P< -323
  ·have e:=i (.inr f)
   subst e;exact A1t.small (A7i D j) (by omega)
  by_cases c:309<P
  ·exfalso
   rw[oor,if_neg (by intro h;rcases h with h|h;exact b h;omega),if_pos c]at a;cases a
  ·refine .inl ⟨hr,?_⟩
   have:=m b f c;unfold A3u pP;rwa[<-Nat.mul_assoc,show-(P-(D.length:Int))=D.length-P by omega]
 ·have e:=h.1 a
  subst e;unfold oor at a;split at a
  ·cases a
  rename_i hn
  have b:D≠[]:=λh=>hn (.inl h)
  split at a
  ·rename_i h309
   cases D with
   |nil=>exact absurd rfl b
   |cons d r=>
    refine A1t.big (C2v d r (by rintro rfl;exact o rfl)) ?_;rw[List.length_cons];omega
  ·have g:P=309:=by omega
   subst g;refine .inr ⟨rfl,?_⟩
   have k:¬B4g D bnd=true:=by
    intro n;rw[n]at a;cases a
   rw[C4q D j]at k;have p:=(D1e (num D*p10 ((309:Int)-(D.length:Int)).toNat) (p10 ((D.length:Int)-309).toNat)).2 (Nat.le_of_not_lt k);have e: -((309:Int)-(D.length:Int))=(D.length:Int)-309:=by omega
   have l:num D*pP (309-(D.length:Int))=num D*p10 (309-(D.length:Int)).toNat*p2 1074:=by unfold pP;rw[Nat.mul_assoc]
   rw[e,l];exact p
def p5 (k:Nat):Nat:=5^k
theorem G3x {a b:Nat} (h:a<=b):p5 a<=p5 b:=Nat.pow_le_pow_right (by omega) h
theorem F7a:p2 53*p5 1074<=p10 767:=by decide+kernel
theorem G0s (T q r:Nat) (n:p10 767<=T):mid r*p10 q<=p2 1075*T\/p2 1075*(T+1)<=mid r*p10 q:=by
 obtain⟨E,m,_,o,p,t⟩:=F9x r;have d:m<9007199254740992:=by omega
 have i:mid r*p10 q=(2*m+1)*p5 q*p2 (E+q):=by
  unfold mid;rw[o,p,<-Nat.add_mul,A3x]
  have:p10 q=p5 q*p2 q:=by
   unfold p10 p2 p5;rw[<-Nat.mul_pow]
  rw[this]
  show(m+(m+1))*p2 E*(p5 q*p2 q)=_
  rw[show m+(m+1)=2*m+1 by omega];generalize 2*m+1=a;simp only[Nat.mul_assoc,Nat.mul_left_comm,Nat.mul_comm]
 rw[i];by_cases h:1075<=E+q
 ·rw[show E+q=1075+(E+q-1075) by omega,A3x]
  have j:(2*m+1)*p5 q*(p2 1075*p2 (E+q-1075))=p2 1075*((2*m+1)*p5 q*p2 (E+q-1075)):=Nat.mul_left_comm ..;rw[j];rcases Nat.lt_or_ge T ((2*m+1)*p5 q*p2 (E+q-1075))with h1|h1
  ·exact .inr (Nat.mul_le_mul_left _ h1)
  ·exact .inl (Nat.mul_le_mul_left _ h1)
 ·left
  have e:(2*m+1)*p5 q<=p2 54*p5 1074:=by
   refine Nat.mul_le_mul ?_ (G3x (by omega));have:p2 54=2*p2 53:=A8j 53;rw[this,F6e];omega
  have g:p2 (E+q)<=p2 1074:=A2t (by omega);refine Nat.le_trans (Nat.mul_le_mul e g) ?_;have b:p2 54=2*p2 53:=A8j 53;have c:p2 1075=2*p2 1074:=A8j 1074;have k:=Nat.le_trans F7a n;rw[b,c];generalize p5 1074=f at*;generalize p2 53=a at*;generalize p2 1074=s at*;have l:2*a*f*s=2*s*(a*f):=by simp only[Nat.mul_assoc,Nat.mul_left_comm,Nat.mul_comm]
  rw[l];exact Nat.mul_le_mul_left _ k
theorem D4h {T q k a r:Nat} (n:p10 767<=T) (l:0<a) (m:a<p10 k):
 (mid r*p10 q<=p2 1075*T->mid r*p10 (q+k)<2*((T*p10 k+a)*p2 1074))/\(¬mid r*p10 q<=p2 1075*T->2*((T*p10 k+a)*p2 1074)<mid r*p10 (q+k)):=by
 have d:=A2y 1074;have c:p2 1075=2*p2 1074:=A8j 1074;have b:=G0s T q r n;rw[A1h,<-Nat.mul_assoc];rw[c]at b ⊢;generalize mid r*p10 q=M at*;generalize p2 1074=s at*;generalize p10 k=p at*;constructor
 ·intro h
  have:=Nat.mul_le_mul_right p h;have g:2*s*T*p=2*(T*p*s):=by simp only[Nat.mul_assoc,Nat.mul_left_comm,Nat.mul_comm]
  have i:(T*p+a)*s=T*p*s+a*s:=Nat.add_mul ..;have j:0<a*s:=Nat.mul_pos l d;omega
 ·intro h
  have h:=b.resolve_left h;have:=Nat.mul_le_mul_right p h
  have g:2*s*(T+1)*p=2*(T*p*s)+2*(p*s):=by
   have e:2*s*T*p=2*(T*p*s):=by simp only[Nat.mul_assoc,Nat.mul_left_comm,Nat.mul_comm]
   have f:2*s*p=2*(p*s):=by rw[Nat.mul_assoc,Nat.mul_comm s p]
   rw[Nat.mul_add,Nat.mul_one,Nat.add_mul,e,f]
  have i:(T*p+a)*s=T*p*s+a*s:=Nat.add_mul ..;have j:a*s<p*s:=Nat.mul_lt_mul_of_pos_right m d;omega
theorem A1t.rest {T k e j d r:Nat} {Q:Int} (p:Q<= -1) (m:p10 767<=T) (n:0<e) (o:e<p10 k) (g:0<d) (l:d<p10 j) (h:A1t (T*p10 k+e) (Q-k) r):A1t (T*p10 j+d) (Q-j) r:=by
 obtain⟨q,s⟩:∃q:Nat,Q= -(q:Int):=⟨(-Q).toNat,by omega⟩;have f:∀i:Nat,(Q-i).toNat=0/\(-(Q-i)).toNat=q+i:=λi=>⟨by omega,by omega⟩
 unfold A1t A3u Rnd pP at*;rw[(f k).1,(f k).2]at h;rw[(f j).1,(f j).2];rw[show p10 0=1 from rfl,Nat.one_mul]at*;have A:=λr=>D4h (q:=q) (r:=r) m n o
 have B:=λr=>D4h (q:=q) (r:=r) m g l
 rcases h with⟨hr,a,b⟩|⟨hr,a⟩
 ·refine .inl ⟨hr,?_,.inl ((B r).2 ?_)⟩
  ·rcases a with a|a|⟨a,_⟩
   ·exact .inl a
   ·refine .inr (.inl ((B (r-1)).1 ?_))
    by_cases c:mid (r-1)*p10 q<=p2 1075*T
    ·exact c
    ·have:=(A (r-1)).2 c;omega
   ·by_cases c:mid (r-1)*p10 q<=p2 1075*T
    ·have:=(A (r-1)).1 c;omega
    ·have:=(A (r-1)).2 c;omega
  ·intro c
   have:=(A r).1 c;omega
 ·refine .inr ⟨hr,Nat.le_of_lt ((B _).1 ?_)⟩
  by_cases c:mid 9218868437227405311*p10 q<=p2 1075*T
  ·exact c
  ·have:=(A _).2 c;omega
theorem D7h (x:List Nat×Int) (b:List Nat) (a:x.1.length=768\/x.1.length=769):
 A1p x b=if x.1.length=769\/(∀d∈b,d=0)then x else(x.1++[1],x.2):=by
 induction b generalizing x with
 |nil=>simp[A1p]
 |cons d b ih=>
  have f:x.1≠[]:=by intro h;rw[h]at a;simp at a
  show A1p (A5p x d) b=_
  rcases a with a|a
  ·by_cases c:d=0
   ·have e:A5p x d=x:=by rw[A5p,if_neg (λh=>f h.1),if_neg (by omega),if_neg (λh=>h.2 c)]
    rw[e,ih x (.inl a)];simp[a,c]
   ·have e:A5p x d=(x.1++[1],x.2):=by rw[A5p,if_neg (λh=>f h.1),if_neg (by omega),if_pos ⟨a,c⟩]
    rw[e,ih _ (.inr (by simp[a]))];simp[a,c]
  ·have e:A5p x d=x:=by rw[A5p,if_neg (λh=>f h.1),if_neg (by omega),if_neg (λh=>by omega)]
   rw[e,ih x (.inr a)];simp[a]
theorem D7i {a:List Nat} (h:¬ ∀d∈a,d=0):0<num a:=by
 rcases Nat.eq_zero_or_pos (num a)with h0|h0
 ·exfalso
  apply h;obtain⟨z,rest,e,hr⟩:=B3m a;rcases hr with rfl|⟨d,r,rfl,b⟩
  ·rw[e];intro d b;simp at b;exact b.2
  ·exfalso
   rw[e,A2s,A8m]at h0;have:=C2v d r b;have:=A0v r.length;omega
 ·exact h0
theorem D1s {a:List Nat} (h:∀d∈a,d=0):num a=0:=by
 have:a=List.replicate a.length 0:=List.eq_replicate_iff.2 ⟨rfl,h⟩;rw[this,A8m]
theorem E9z {i:List Nat} {p:Int} {r:Nat} (L:B0m i) (h:A8v (A1p ([],p) i).1 (A1p ([],p) i).2 r):A1t (num i) (p-i.length) r:=by
 obtain⟨z,rest,e,hr⟩:=B3m i;have q:num i=num rest:=by rw[e,A2s,A8m];omega
 have F:i.length=z+rest.length:=by rw[e];simp
 have m:B0m rest:=λd n=>L d (by rw[e];exact List.mem_append_right _ n)
 rw[q,show p-(i.length:Int)=p-z-rest.length by omega];have J:A1p ([],p) i=A1p ([],p-z) rest:=by rw[e,A6x,B9j]
 rw[J]at h;generalize p-(z:Int)=P at*;rcases hr with rfl|⟨d,l,rfl,n⟩
 ·exact B6a m (by simp) h
 ·by_cases M:(d::l).length<=768
  ·have:A1p ([],P) (d::l)=(d::l,P):=by
    show A1p (A5p ([],P) d) l=_
    rw[A5p,if_neg (by intro h;exact n h.2),if_pos (by simp),B1r _ _ (by simp) (by simp at M ⊢;omega)];rfl
   rw[this]at h;exact B6a m (by simpa using n) h
  ·
   obtain⟨a,E⟩:∃a,(d::l).take 768=a:=⟨_,rfl⟩;obtain⟨b,y⟩:∃b,(d::l).drop 768=b:=⟨_,rfl⟩;have g:a++b=d::l:=by rw[<-E,<-y];exact List.take_append_drop 768 _
   have f:a.length=768:=by rw[<-E,List.length_take];omega
   obtain⟨c,rfl⟩:∃c,a=d::c:=by
    cases a with
    |nil=>simp at f
    |cons x c=>simp at g;exact⟨c,by rw[g.1]⟩
   have o:B0m (d::c):=λx k=>m x (by rw[<-g];exact List.mem_append_left _ k)
   have v:B0m b:=λx k=>m x (by rw[<-g];exact List.mem_append_right _ k)
   have G:A1p ([],P) (d::c)=(d::c,P):=by
    show A1p (A5p ([],P) d) c=_
    rw[A5p,if_neg (by intro h;exact n h.2),if_pos (by simp),B1r _ _ (by simp) (by simp at f ⊢;omega)];rfl
   have H:A1p ([],P) (d::l)=A1p (d::c,P) b:=by rw[<-g,A6x,G]
   rw[H,D7h _ _ (.inl f)]at h
   have w:p10 767<=num (d::c):=by
    have:=C2v d c n;rwa[show c.length=767 by simp at f;exact f]at this
   have C:num (d::l)=num (d::c)*p10 b.length+num b:=by rw[<-g,A2s]
   have B:((d::l).length:Int)=768+b.length:=by rw[<-g,List.length_append,f];omega
   rw[C,B];have A:=A7i b v;by_cases t:∀x∈b,x=0
   ·rw[if_pos (.inr t)]at h
    have:=B6a o (by simpa using n) h;rw[f]at this;rw[D1s t,Nat.add_zero];refine this.same ?_;have s:=B1q.shift (num (d::c)) b.length (P-((768:Nat):Int));rwa[show P-((768:Nat):Int)-(b.length:Int)=P-(768+(b.length:Int)) by omega]at s
   ·rw[if_neg (by intro h;rcases h with h|h;simp only at h;omega;exact t h)]at h
    simp only at h
    have u:B0m (d::c++[1]):=by
     intro x k;rw[List.mem_append]at k;rcases k with k|k
     ·exact o x k
     ·simp at k;omega
    have:=B6a u (by simpa using n) h;rw[List.length_append,f,A2s]at this;have N:=D7i t;by_cases D:309<P
    ·have hr:r=9218868437227405312:=by
      have y:A1t (num (d::c)*p10 [1].length+num [1]) (P-((768+[1].length:Nat):Int)) 9218868437227405312:=by
       refine A1t.big (j:=768) ?_ ?_
       ·have:p10 768=p10 767*p10 1:=by rw[<-A1h]
        rw[this];have:=Nat.mul_le_mul_right (p10 1) w
        show _<=num (d::c)*p10 1+num [1]
        omega
       ·simp;omega
      exact this.uniq y
     rw[hr];refine A1t.big (j:=767+b.length) ?_ (by omega);rw[A1h];have:=Nat.mul_le_mul_right (p10 b.length) w;omega
    ·have K:A1t (num (d::c)*p10 1+1) (P-768-((1:Nat):Int)) r:=by
      have I:num [1]=1:=by simp[num]
      rw[I,show P-((768+[1].length:Nat):Int)=P-768-((1:Nat):Int) by simp;omega]at this;exact this
     have:=A1t.rest (by omega) w (by omega) (by decide) N A K;rwa[show P-768-(b.length:Int)=P-(768+(b.length:Int)) by omega]at this
def Mk (c:UInt8):Prop:=c=101\/c=69
def exM (mk:UInt8) (s ex:LU8):LU8:=if ex=[]then[]else mk::(s++ex)
def F0a (wh:LU8):Prop:=A4h wh/\wh≠[]/\¬(wh.head? =some 48/\1<wh.length)
structure Pc (l:LU8) (neg:Bool) (wh fr:LU8) (en:Bool) (ex:LU8):Prop where
 w:F0a wh
 f:A4h fr
 x:A4h ex
 e0:ex=[]->en=false
 l:∃mk s,Mk mk/\E1s s en/\l=sgP neg++(wh++(frP fr++exM mk s ex))
theorem E2p {b:UInt8} (h:Mk b) (s ex:LU8):NoD (exM b s ex):=by
 unfold exM;split
 ·intro c h;cases h
 ·intro c a;simp at a;subst a;rcases h with rfl|rfl<;>decide
theorem F0b {a:UInt8} (h:Mk a) (s ex:LU8):(exM a s ex).head? ≠some 46:=by
 unfold exM;split
 ·simp
 ·rcases h with rfl|rfl<;>simp
theorem F7b {a:UInt8} (h:Mk a) (r:LU8):C5d (a::r)=(r,true):=by
 rcases h with rfl|rfl
 ·rw[C5d,A4j];rfl
 ·rw[C5d,A4c (by simp),A4j];rfl
theorem F0c {n:Bool} {g fr s ex:LU8} {en:Bool} {f:UInt8} (j:Mk f) (k:E1s s en) (e:A4h ex) (i:ex=[]->en=false):B4k n g fr (exM f s ex)=some (n,g,fr,en,ex):=by
 by_cases a:ex=[]
 ·have d:=i a
  subst a;subst d;rw[exM,if_pos rfl,B4k,C5d,A4c (by simp),A4c (by simp)];rfl
 ·rw[exM,if_neg a,B4k,F7b j]
  simp only[if_true];rw[F6x k a e];have:=B0p (b:=[]) e (by intro c h;cases h);rw[List.append_nil]at this;rw[this.1,this.2,if_neg a];rfl
theorem Pc.cut {l:LU8} {neg:Bool} {c fr:LU8} {en:Bool} {ex:LU8} (h:Pc l neg c fr en ex):A9i l=some (neg,c,fr,en,ex):=by
 obtain⟨g,s,b,j,rfl⟩:=h.l;obtain⟨e,d,i⟩:=h.w;have a:=B0p e (F6w fr _ (E2p b s ex))
 have hcut:A8x 45 (sgP neg++(c++(frP fr++exM g s ex)))=(c++(frP fr++exM g s ex),neg):=by
  cases neg
  ·rw[sgP,if_neg (by simp),List.nil_append,A4c (C5g d e (by decide))]
  ·rw[sgP,if_pos rfl,List.singleton_append,A4j]
 rw[A9i,hcut];simp only;rw[a.1,a.2,E9w,if_neg (by intro h;rcases h with h|h;exact d h;exact i h),E9x h.f (E2p b s ex) (F0b b s ex),F0c b j h.x h.e0]
theorem Pc.run {l:LU8} {neg:Bool} {a fr:LU8} {en:Bool} {ex:LU8} (h:Pc l neg a fr en ex):
 ∃k,A8b k/\run t0 l=some ⟨k,neg,(A1p ([],(a.length:Int)) (dv a++dv fr)).1,(A1p ([],(a.length:Int)) (dv a++dv fr)).2,
  min (num (dv ex)) ((A1p ([],(a.length:Int)) (dv a++dv fr)).2.natAbs+632),en⟩:=by
 obtain⟨i,s,r,t,rfl⟩:=h.l;obtain⟨u,p,q⟩:=h.w;obtain⟨v,d,m⟩:=E1t neg (a++(frP fr++exM i s ex));obtain⟨y,e,n⟩:=C2r (neg:=neg) v d a u p q;obtain⟨j,g,o⟩:=E1u (neg:=neg) (D:=(A1p ([],(a.length:Int)) (dv a)).1) (P:=(A1p ([],(a.length:Int)) (dv a)).2) y e fr (exM i s ex) h.f;rw[m,A6g,n]
 show∃k,A8b k/\Go.Proofs.YtmkkibaacclhnaaGreatDoor.run _ _=_
 rw[o];rw[show((A1p ([],(a.length:Int)) (dv a)).1,(A1p ([],(a.length:Int)) (dv a)).2)=A1p ([],(a.length:Int)) (dv a)from rfl,<-A6x];by_cases b:ex=[]
 ·have c:=h.e0 b
  subst b;subst c;refine⟨j,by unfold A8b;omega,?_⟩;rw[exM,if_pos rfl];simp only[Go.Proofs.YtmkkibaacclhnaaGreatDoor.run];rw[show min (num (dv [])) ((A1p ([],(a.length:Int)) (dv a++dv fr)).2.natAbs+632)=0 from by show min 0 _=0;omega]
 ·refine⟨8,by unfold A8b;omega,?_⟩
  rw[exM,if_neg b];exact E1v j g i r s ex en b t h.x
theorem B2h (c:UInt8) (l:LU8):l=(if(A8x c l).2=true then c::(A8x c l).1 else(A8x c l).1):=by
 unfold A8x;split
 ·rename_i h
  cases l with
  |nil=>cases h
  |cons x l=>simp at h;subst h;rfl
 ·rfl
theorem F0d (r:LU8):∃s,E1s s (B3n r).2/\r=s++(B3n r).1:=by
 have d:=B2h 43 r;have c:=B2h 45 r;unfold B3n;cases a:(A8x 43 r).2
 ·simp only[Bool.false_eq_true,if_false]
  cases b:(A8x 45 r).2
  ·rw[b]at c
   exact⟨[],.inl ⟨rfl,rfl⟩,by simpa using c⟩
  ·rw[b]at c
   exact⟨[45],.inr (.inr ⟨rfl,rfl⟩),by simpa using c⟩
 ·rw[a]at d
  simp only[if_true];exact⟨[43],.inr (.inl ⟨rfl,rfl⟩),by simpa using d⟩
theorem F0e {r:LU8} (h:(C5d r).2=true):∃mk,Mk mk/\r=mk::(C5d r).1:=by
 have b:=B2h 101 r;have c:=B2h 69 r;unfold C5d at h ⊢;cases a:(A8x 101 r).2
 ·rw[a]at h
  simp only[Bool.false_eq_true,if_false]at h ⊢;rw[h]at c;exact⟨69,.inr rfl,by simpa using c⟩
 ·rw[a]at b
  simp only[if_true];exact⟨101,.inl rfl,by simpa using b⟩
theorem B0q (l:LU8):A4h (l.takeWhile isD):=λc hc=>List.all_eq_true.1 List.all_takeWhile c hc
theorem C7z {n:Bool} {a fr:LU8} {en:Bool} {ex r:LU8} {x:Bool×LU8×LU8×Bool×LU8} (h:C1k n a fr en ex r=some x):r=[]/\x=(n,a,fr,en,ex):=by
 unfold C1k at h;split at h
 ·rename_i hr;exact⟨hr,(Option.some.inj h).symm⟩
 ·cases h
theorem C8a {n:Bool} {c fr r:LU8} {x:Bool×LU8×LU8×Bool×LU8} (h:B4k n c fr r=some x):
 ∃en ex a s,x=(n,c,fr,en,ex)/\A4h ex/\(ex=[]->en=false)/\Mk a/\E1s s en/\r=exM a s ex:=by
 unfold B4k at h;split at h
 ·rename_i hE
  split at h
  ·cases h
  ·rename_i h0
   obtain⟨b,rfl⟩:=C7z h;obtain⟨a,g,d⟩:=F0e hE;obtain⟨s,i,e⟩:=F0d (C5d r).1;refine⟨_,_,a,s,rfl,B0q _,λh=>absurd h h0,g,i,?_⟩;rw[exM,if_neg h0]
   have f:(B3n (C5d r).1).1=(B3n (C5d r).1).1.takeWhile isD:=by
    conv=>lhs;rw[<-List.takeWhile_append_dropWhile (p:=isD) (l:=(B3n (C5d r).1).1),b,List.append_nil]
   rw[<-f,<-e];exact d
 ·obtain⟨b,rfl⟩:=C7z h
  exact⟨_,_,101,[],rfl,A4k,λ_=>rfl,.inl rfl,.inl ⟨rfl,rfl⟩,by rw[b,exM,if_pos rfl]⟩
theorem E2q {l:LU8} {neg:Bool} {r fr:LU8} {en:Bool} {ex:LU8} (h:A9i l=some (neg,r,fr,en,ex)):Pc l neg r fr en ex:=by
 have b:=B2h 45 l
 have e:l=sgP (A8x 45 l).2++(A8x 45 l).1:=by
  cases a:(A8x 45 l).2
  ·rw[a]at b;simpa[sgP]using b
  ·rw[a]at b;simpa[sgP]using b
 have p:(A8x 45 l).1.takeWhile isD++(A8x 45 l).1.dropWhile isD=(A8x 45 l).1:=List.takeWhile_append_dropWhile;have t:=B0q (A8x 45 l).1;unfold A9i at h;generalize (A8x 45 l).2=n at*;generalize (A8x 45 l).1.takeWhile isD=W at*;generalize (A8x 45 l).1.dropWhile isD=R at*;rw[<-p]at e;clear b p;unfold E9w at h;split at h
 ·cases h
 rename_i hw
 have q:F0a W:=⟨t,λh=>hw (.inl h),λh=>hw (.inr h)⟩;unfold C5e at h;split at h
 ·rename_i hp
  split at h
  ·cases h
  ·rename_i hf
   obtain⟨en',f,o,s,c,g,i,j,k,m⟩:=C8a h;simp only[Prod.mk.injEq]at c;obtain⟨rfl,rfl,rfl,rfl,rfl⟩:=c;refine⟨q,B0q _,g,i,o,s,j,k,?_⟩;have d:=B2h 46 R;rw[hp]at d;simp only[if_true]at d;rw[frP,if_neg hf,<-m,List.cons_append,List.takeWhile_append_dropWhile,<-d];exact e
 ·obtain⟨en',f,o,s,c,g,i,j,k,m⟩:=C8a h
  simp only[Prod.mk.injEq]at c;obtain⟨rfl,rfl,rfl,rfl,rfl⟩:=c;refine⟨q,A4k,g,i,o,s,j,k,?_⟩;rw[frP,if_pos rfl,<-m];exact e
inductive Dec:Nat->LU8->Prop
 |s0:Dec 0 []
 |s1:Dec 1 [45]
 |s2 (neg:Bool):Dec 2 (sgP neg++[48])
 |s3 (neg:Bool) (wh:LU8):A4h wh->wh≠[]->wh.head? ≠some 48->Dec 3 (sgP neg++wh)
 |s4 (neg:Bool) (wh:LU8):F0a wh->Dec 4 (sgP neg++(wh++[46]))
 |s5 (neg:Bool) (wh fr:LU8):F0a wh->A4h fr->fr≠[]->Dec 5 (sgP neg++(wh++46::fr))
 |s6 (neg:Bool) (wh fr:LU8) (mk:UInt8):F0a wh->A4h fr->Mk mk->Dec 6 (sgP neg++(wh++(frP fr++[mk])))
 |s7 (neg:Bool) (wh fr:LU8) (mk:UInt8) (s:LU8) (en:Bool):F0a wh->A4h fr->Mk mk->E1s s en->Dec 7 (sgP neg++(wh++(frP fr++mk::s)))
 |s8 (neg:Bool) (wh fr:LU8) (mk:UInt8) (s:LU8) (en:Bool) (ex:LU8):F0a wh->A4h fr->Mk mk->E1s s en->A4h ex->ex≠[]->Dec 8 (sgP neg++(wh++(frP fr++mk::(s++ex))))
theorem A9j {c:UInt8} (h:isD c=true):A4h [c]:=by intro x a;rw[List.mem_singleton]at a;rw[a];exact h
theorem D1t:F0a [48]:=⟨F6z,by simp,by simp⟩
theorem F7c {a:LU8} (b:A4h a) (c:a≠[]) (d:a.head? ≠some 48):F0a a:=⟨b,c,λh=>d h.1⟩
theorem Dec.next {s:Nat} {a:LU8} (h:Dec s a) (c:UInt8) (b:beh s c≠0):Dec (beh s c) (a++[c]):=by
 cases h with
 |s0=>
  have e:beh 0 c=if c=45 then 1 else if c=48 then 2 else if isD c=true then 3 else 0:=by simp[beh]
  rw[e]at b ⊢
  repeat' split at b
  ·rename_i h;subst h;exact Dec.s1
  ·rename_i h1 h;subst h;exact Dec.s2 false
  ·rename_i h1 h2 h;rw[if_neg h1,if_neg h2,if_pos h];exact Dec.s3 false [c] (A9j h) (by simp) (by simpa using h2)
  ·exact absurd rfl b
 |s1=>
  have e:beh 1 c=if c=48 then 2 else if isD c=true then 3 else 0:=by simp[beh]
  rw[e]at b ⊢
  repeat' split at b
  ·rename_i h;subst h;exact Dec.s2 true
  ·rename_i h2 h;rw[if_neg h2,if_pos h];exact Dec.s3 true [c] (A9j h) (by simp) (by simpa using h2)
  ·exact absurd rfl b
 |s2 neg=>
  have e:beh 2 c=if c=46 then 4 else if c=101\/c=69 then 6 else 0:=by simp[beh]
  rw[e]at b ⊢
  repeat' split at b
  ·rename_i h;subst h;rw[List.append_assoc];exact Dec.s4 neg [48] D1t
  ·rename_i h2 h;rw[if_neg h2,if_pos h,List.append_assoc];exact Dec.s6 neg [48] [] c D1t A4k h
  ·exact absurd rfl b
 |s3 neg wh h1 h2 h3=>
  have e:beh 3 c=if isD c=true then 3 else if c=46 then 4 else if c=101\/c=69 then 6 else 0:=by simp[beh]
  rw[e]at b ⊢
  repeat' split at b
  ·rename_i h;rw[if_pos h,List.append_assoc];exact Dec.s3 neg _ (h1.append (A9j h)) (by simp) (by rw[C5f h2];exact h3)
  ·rename_i h0 h;subst h;rw[if_neg h0,if_pos rfl,List.append_assoc];exact Dec.s4 neg wh (F7c h1 h2 h3)
  ·rename_i h0 h0' h;rw[if_neg h0,if_neg h0',if_pos h,List.append_assoc];exact Dec.s6 neg wh [] c (F7c h1 h2 h3) A4k h
  ·exact absurd rfl b
 |s4 neg wh h1=>
  have e:beh 4 c=if isD c=true then 5 else 0:=by simp[beh]
  rw[e]at b ⊢
  repeat' split at b
  ·rename_i h;rw[if_pos h,List.append_assoc,List.append_assoc];exact Dec.s5 neg wh [c] h1 (A9j h) (by simp)
  ·exact absurd rfl b
 |s5 neg wh fr h1 h2 h3=>
  have e:beh 5 c=if isD c=true then 5 else if c=101\/c=69 then 6 else 0:=by simp[beh]
  rw[e]at b ⊢
  repeat' split at b
  ·rename_i h;rw[if_pos h,List.append_assoc,List.append_assoc,List.cons_append];exact Dec.s5 neg wh _ h1 (h2.append (A9j h)) (by simp)
  ·rename_i h0 h
   rw[if_neg h0,if_pos h,List.append_assoc,List.append_assoc];have:=Dec.s6 neg wh fr c h1 h2 h;rwa[frP,if_neg h3]at this
  ·exact absurd rfl b
 |s6 neg wh fr mk h1 h2 h3=>
  have e:beh 6 c=if c=43\/c=45 then 7 else if isD c=true then 8 else 0:=by simp[beh]
  rw[e]at b ⊢
  repeat' split at b
  ·rename_i h
   rw[if_pos h,List.append_assoc,List.append_assoc,List.append_assoc];rcases h with rfl|rfl
   ·exact Dec.s7 neg wh fr mk [43] false h1 h2 h3 (.inr (.inl ⟨rfl,rfl⟩))
   ·exact Dec.s7 neg wh fr mk [45] true h1 h2 h3 (.inr (.inr ⟨rfl,rfl⟩))
  ·rename_i h0 h
   rw[if_neg h0,if_pos h,List.append_assoc,List.append_assoc,List.append_assoc];exact Dec.s8 neg wh fr mk [] false [c] h1 h2 h3 (.inl ⟨rfl,rfl⟩) (A9j h) (by simp)
  ·exact absurd rfl b
 |s7 neg wh fr mk s en h1 h2 h3 h4=>
  have e:beh 7 c=if isD c=true then 8 else 0:=by simp[beh]
  rw[e]at b ⊢
  repeat' split at b
  ·rename_i h
   rw[if_pos h,List.append_assoc,List.append_assoc,List.append_assoc,List.cons_append];exact Dec.s8 neg wh fr mk s en [c] h1 h2 h3 h4 (A9j h) (by simp)
  ·exact absurd rfl b
 |s8 neg wh fr mk s en ex h1 h2 h3 h4 h5 h6=>
  have e:beh 8 c=if isD c=true then 8 else 0:=by simp[beh]
  rw[e]at b ⊢
  repeat' split at b
  ·rename_i h
   rw[if_pos h,List.append_assoc,List.append_assoc,List.append_assoc,List.cons_append,List.append_assoc];exact Dec.s8 neg wh fr mk s en _ h1 h2 h3 h4 (h5.append (A9j h)) (by simp)
  ·exact absurd rfl b
theorem C8b {P:LU8->Prop} (b:P []) (h:∀a x,P a->P (a++[x])) (l:LU8):P l:=by
 rw[<-List.reverse_reverse l];generalize l.reverse=r
 induction r with
 |nil=>exact b
 |cons c r ih=>rw[List.reverse_cons];exact h _ _ ih
theorem F7d (l:LU8):∀t,run t0 l=some t->Dec t.st l:=by
 refine C8b (P:=λl=>∀t,run t0 l=some t->Dec t.st l) ?_ ?_ l
 ·intro t h
  simp only[run,Option.some.injEq]at h;subst h;exact Dec.s0
 ·intro a c d t h
  rw[A6g]at h;cases hr:run t0 a with
  |none=>rw[hr]at h;cases h
  |some t'=>
   rw[hr]at h;have b:nxt t' c=some t:=by rw[<-E1n];exact h
   unfold nxt at b;split at b
   ·cases b
   ·rename_i hb
    simp only[Option.some.injEq]at b;have:=(d t' hr).next c hb;rw[<-b,A9e];exact this
theorem G0t {l:LU8} {t:Tk} (h:run t0 l=some t) (a:A8b t.st):∃neg wh fr en ex,Pc l neg wh fr en ex:=by
 have b:=F7d l t h;generalize t.st=k at*;cases b with
 |s0=>unfold A8b at a;omega
 |s1=>unfold A8b at a;omega
 |s2 neg=>exact⟨neg,[48],[],false,[],D1t,A4k,A4k,λ_=>rfl,101,[],.inl rfl,.inl ⟨rfl,rfl⟩,by simp[frP,exM]⟩
 |s3 neg wh h1 h2 h3=>exact⟨neg,wh,[],false,[],F7c h1 h2 h3,A4k,A4k,λ_=>rfl,101,[],.inl rfl,.inl ⟨rfl,rfl⟩,by simp[frP,exM]⟩
 |s4 neg wh h1=>unfold A8b at a;omega
 |s5 neg wh fr h1 h2 h3=>exact⟨neg,wh,fr,false,[],h1,h2,A4k,λ_=>rfl,101,[],.inl rfl,.inl ⟨rfl,rfl⟩,by simp[frP,exM,h3]⟩
 |s6 neg wh fr mk h1 h2 h3=>unfold A8b at a;omega
 |s7 neg wh fr mk s en h1 h2 h3 h4=>unfold A8b at a;omega
 |s8 neg wh fr mk s en ex h1 h2 h3 h4 h5 h6=>exact⟨neg,wh,fr,en,ex,h1,h2,h5,λh=>absurd h h6,mk,s,h3,h4,by simp[exM,h6]⟩
def D7j (fr:LU8) (en:Bool) (ex:LU8):Int:=(if en then-(num (dv ex):Int)else(num (dv ex):Int))-fr.length
end Go.Proofs.YtmkkibaacclhnaaGreatDoor
