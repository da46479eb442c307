/-
  Part Tnr.
-/
import Derived.Test.YtmkkibaacclhnaaGreatDoorStr
namespace Go.Proofs.YtmkkibaacclhnaaGreatDoor
open Go.RowKit
structure Tk where
 st:Nat
 neg:Bool
 D:List Nat
 P:Int
 pw:Nat
 pn:Bool
def beh (s:Nat) (c:UInt8):Nat:=
 if s=0/\c=45 then 1
 else if(s=0\/s=1)/\c=48 then 2
 else if(s=0\/s=1\/s=3)/\isD c=true then 3
 else if(s=2\/s=3)/\c=46 then 4
 else if(s=4\/s=5)/\isD c=true then 5
 else if(s=2\/s=3\/s=5)/\(c=101\/c=69)then 6
 else if s=6/\(c=43\/c=45)then 7
 else if(s=6\/s=7\/s=8)/\isD c=true then 8
 else 0
def A4q (t:Tk) (c:UInt8) (k:Nat):Tk:=
 if k=1 then⟨1,true,t.D,t.P,t.pw,t.pn⟩
 else if k=2\/k=3 then⟨k,t.neg,(A5p (t.D,t.P+1) (c.toNat-48)).1,(A5p (t.D,t.P+1) (c.toNat-48)).2,t.pw,t.pn⟩
 else if k=5 then⟨k,t.neg,(A5p (t.D,t.P) (c.toNat-48)).1,(A5p (t.D,t.P) (c.toNat-48)).2,t.pw,t.pn⟩
 else if k=7 then⟨k,t.neg,t.D,t.P,t.pw,decide (c=45)⟩
 else if k=8 then⟨k,t.neg,t.D,t.P,min (t.pw*10+(c.toNat-48)) (t.P.natAbs+632),t.pn⟩
 else⟨k,t.neg,t.D,t.P,t.pw,t.pn⟩
def nxt (t:Tk) (c:UInt8):Option Tk:=if beh t.st c=0 then none else some (A4q t c (beh t.st c))
def run (t:Tk):LU8->Option Tk
 |[]=>some t
 |c::l=>match nxt t c with
  |none=>none
  |some t'=>run t' l
def t0:Tk:=⟨0,false,[],0,0,false⟩
theorem A6g (t:Tk) (a b:LU8):run t (a++b)=(run t a).bind (λt'=>run t' b):=by
 induction a generalizing t with
 |nil=>rfl
 |cons c a ih=>
  show(match nxt t c with|none=>none|some t'=>run t' (a++b))=_
  simp only[run];cases nxt t c with
  |none=>rfl
  |some t'=>exact ih t'
theorem E1n (t:Tk) (c:UInt8):run t [c]=nxt t c:=by
 simp only[run];cases nxt t c<;>rfl
theorem B7x {t b:Tk} {a:LU8} (c:UInt8) (h:run t a=some b):run t (a++[c])=nxt b c:=by
 rw[A6g,h];exact E1n b c
theorem E9f {t d:Tk} {a:LU8} {c:UInt8} (b:LU8) (h:run t a=some d) (e:nxt d c=none):run t (a++c::b)=none:=by
 rw[A6g,h]
 show run d (c::b)=none
 simp only[run,e]
theorem E1p (s:Nat) (c:UInt8):beh s c<=8:=by
 unfold beh
 repeat' split
 all_goals omega
theorem A9e (t:Tk) (c:UInt8) (k:Nat):(A4q t c k).st=k:=by
 unfold A4q
 repeat' split
 all_goals simp_all
structure TkOk (t:Tk) (k:Nat):Prop where
 st:t.st<=8
 digs:B0m t.D
 head:t.D.head? ≠some 0
 len:t.D.length<=769
 p1: -(k:Int)<=t.P
 p2:t.P<=k
 pw:t.pw<=t.P.natAbs+632
theorem E9g:TkOk t0 0:=⟨by decide,(by intro d h;cases h),by simp[t0],by simp[t0],by simp[t0],by simp[t0],by simp[t0]⟩
theorem A6h (c:UInt8):isD c=true↔48<=c.toNat/\c.toNat<=57:=by unfold isD;rw[decide_eq_true_iff]
def B3a (t:Tk):Prop:=t.st<=7->t.pw=0
theorem B8x {s:Nat} {c:UInt8} (h:beh s c=2\/beh s c=3\/beh s c=5\/beh s c=8):isD c=true:=by
 unfold beh at h;by_cases a:c=48
 ·subst a;decide
 ·revert h
  repeat' split
  all_goals first|(intro h;omega)|(intro _;simp_all)
theorem E1q {s:Nat} {c:UInt8} (a:s=8):beh s c=0\/beh s c=8:=by
 subst a;unfold beh
 repeat' split
 all_goals simp_all
theorem C7r {t i:Tk} {k:Nat} {c:UInt8} (h:TkOk t k) (d:B3a t) (f:nxt t c=some i):TkOk i (k+1)/\B3a i:=by
 unfold nxt at f;split at f
 ·cases f
 rename_i h0
 simp only[Option.some.injEq]at f;have w:=E1p t.st c;have g:= @B8x t.st c;have p:= @E1q t.st c;have v:=h.st;have n:=h.len;have q:=h.p1;have s:=h.p2;have u:=h.pw;unfold B3a at d;generalize beh t.st c=b at*;have j:b=2\/b=3\/b=5\/b=8->c.toNat-48<=9:=λhh=>by have:=(A6h c).1 (g hh);omega
 have o:∀P',(b=2\/b=3\/b=5\/b=8)->B0m (A5p (t.D,P') (c.toNat-48)).1/\(A5p (t.D,P') (c.toNat-48)).1.head? ≠some 0:=λP' hh=>E1m (t.D,P') _ (j hh) h.digs h.head
 have m:∀P',(A5p (t.D,P') (c.toNat-48)).1.length<=769:=λP'=>E9e _ _ h.len
 have l:∀P',P'-1<=(A5p (t.D,P') (c.toNat-48)).2/\(A5p (t.D,P') (c.toNat-48)).2<=P':=λP'=>G0f (t.D,P') _
 subst f;unfold A4q;split
 ·exact⟨⟨by simp,h.digs,h.head,h.len,by simp only;omega,by simp only;omega,h.pw⟩,λ_=>d (by omega)⟩
 split
 ·rename_i h1 h2
  have e:=o (t.P+1) (by omega);have r:=l (t.P+1);have a:=d (by omega);refine⟨⟨by simp only;omega,e.1,e.2,m _,by simp only;omega,by simp only;omega,by simp only;omega⟩,λ_=>a⟩
 split
 ·rename_i h1 h2 h3
  have e:=o t.P (by omega);have r:=l t.P;have a:=d (by omega);refine⟨⟨by simp only;omega,e.1,e.2,m _,by simp only;omega,by simp only;omega,by simp only;omega⟩,λ_=>a⟩
 split
 ·exact⟨⟨by simp only;omega,h.digs,h.head,h.len,by simp only;omega,by simp only;omega,h.pw⟩,λ_=>d (by omega)⟩
 split
 ·refine⟨⟨by simp only;omega,h.digs,h.head,h.len,by simp only;omega,by simp only;omega,by simp only;omega⟩,λhh=>?_⟩
  simp only at hh;omega
 ·exact⟨⟨by simp only;omega,h.digs,h.head,h.len,by simp only;omega,by simp only;omega,h.pw⟩,λ_=>d (by omega)⟩
theorem B5s (D:List Nat) (P k:Int) (d:Nat):A5p (D,P+k) d=((A5p (D,P) d).1,(A5p (D,P) d).2+k):=by
 unfold A5p;simp only
 repeat' split
 all_goals simp only
 all_goals first|rfl|(refine Prod.ext rfl ?_;simp only;omega)
theorem B8y (x:List Nat×Int) (k:Int) (a:List Nat):A1p (x.1,x.2+k) a=((A1p x a).1,(A1p x a).2+k):=by
 induction a generalizing x with
 |nil=>rfl
 |cons d a ih=>
  show A1p (A5p (x.1,x.2+k) d) a=_
  rw[B5s,ih];rfl
def dv (l:LU8):List Nat:=l.map (λc=>c.toNat-48)
theorem D1d (l:LU8):dig (ofL l)=dv l:=by simp[dig,ofL,dv]
def A4h (l:LU8):Prop:=∀c∈l,isD c=true
theorem B5t {c d:UInt8} (h:isD c=true) (a:isD d=false):c≠d:=by rintro rfl;rw[h]at a;cases a
theorem E1r {neg f:Bool} {d:Nat} {D:List Nat} {P:Int} (l:LU8) (a:A4h l):
 run ⟨3,neg,D,P,d,f⟩ l=some ⟨3,neg,(A1p (D,P+l.length) (dv l)).1,(A1p (D,P+l.length) (dv l)).2,d,f⟩:=by
 induction l generalizing D P with
 |nil=>simp[run,A1p,dv]
 |cons c l ih=>
  have b:=a c List.mem_cons_self;have g:=B5t b (show isD 45=false by decide);have h:beh 3 c=3:=by simp[beh,b]
  simp only[run,nxt,h];rw[if_neg (by decide)];simp only[A4q];rw[if_neg (by decide),if_pos (by decide)];rw[ih (λx hx=>a x (List.mem_cons_of_mem _ hx))]
  have e:A1p (D,P+((c::l).length:Nat)) (dv (c::l))=A1p ((A5p (D,P+1) (c.toNat-48)).1,(A5p (D,P+1) (c.toNat-48)).2+(l.length:Nat)) (dv l):=by
   rw[<-B5s,show P+1+((l.length:Nat):Int)=P+(((c::l).length:Nat):Int) by rw[List.length_cons];omega];rfl
  rw[e]
theorem C2r {neg:Bool} (s:Nat) (g:s=0\/s=1) (l:LU8) (e:A4h l) (j:l≠[]) (i:¬(l.head? =some 48/\1<l.length)):
 ∃k,(k=2\/k=3)/\run ⟨s,neg,[],0,0,false⟩ l=some ⟨k,neg,(A1p ([],(l.length:Int)) (dv l)).1,(A1p ([],(l.length:Int)) (dv l)).2,0,false⟩:=by
 cases l with
 |nil=>exact absurd rfl j
 |cons c l=>
  have f:=e c List.mem_cons_self;have b:=B5t f (show isD 45=false by decide);by_cases a:c=48
  ·subst a
   have h:l=[]:=by
    cases l with
    |nil=>rfl
    |cons x l=>exact absurd ⟨rfl,by simp⟩ i
   subst h;refine⟨2,.inl rfl,?_⟩;have d:beh s 48=2:=by rcases g with rfl|rfl<;>decide
   simp only[run,nxt,d];rw[if_neg (by decide)];rfl
  ·refine⟨3,.inr rfl,?_⟩
   have d:beh s c=3:=by rcases g with rfl|rfl<;>simp[beh,f,b,a]
   simp only[run,nxt,d];rw[if_neg (by decide)];simp only[A4q];rw[if_neg (by decide),if_pos (by decide)];simp only[Int.zero_add];rw[E1r l (λx hx=>e x (List.mem_cons_of_mem _ hx)),<-B5s,show(1:Int)+((l.length:Nat):Int)=(((c::l).length:Nat):Int) by rw[List.length_cons];omega];rfl
theorem E9h {neg e:Bool} {d:Nat} {D:List Nat} {P:Int} (s:Nat) (g:s=4\/s=5) (l:LU8) (j:l≠[]) (b:A4h l):
 run ⟨s,neg,D,P,d,e⟩ l=some ⟨5,neg,(A1p (D,P) (dv l)).1,(A1p (D,P) (dv l)).2,d,e⟩:=by
 induction l generalizing D P s with
 |nil=>exact absurd rfl j
 |cons c l ih=>
  have a:=b c List.mem_cons_self;have f:=B5t a (show isD 45=false by decide);have i:=B5t a (show isD 46=false by decide);have h:beh s c=5:=by rcases g with rfl|rfl<;>simp[beh,a]
  simp only[run,nxt,h];rw[if_neg (by decide)];simp only[A4q];rw[if_neg (by decide),if_neg (by decide),if_pos (by decide)];cases l with
  |nil=>rfl
  |cons x l=>
   rw[ih 5 (.inr rfl) (by simp) (λx hx=>b x (List.mem_cons_of_mem _ hx))];rfl
theorem B8z {neg i:Bool} {b:Nat} {D:List Nat} {P:Int} (s:Nat) (k:s=6\/s=7\/s=8) (l a:LU8) (n:l≠[]) (h:A4h l) (j:b=min (num (dv a)) (P.natAbs+632)):
 run ⟨s,neg,D,P,b,i⟩ l=some ⟨8,neg,D,P,min (num (dv (a++l))) (P.natAbs+632),i⟩:=by
 induction l generalizing b a s with
 |nil=>exact absurd rfl n
 |cons c l ih=>
  have f:=h c List.mem_cons_self;have d:=B5t f (show isD 45=false by decide);have g:=B5t f (show isD 43=false by decide);have m:beh s c=8:=by rcases k with rfl|rfl|rfl<;>simp[beh,f,d,g]
  simp only[run,nxt,m];rw[if_neg (by decide)];simp only[A4q];rw[if_neg (by decide),if_neg (by decide),if_neg (by decide),if_neg (by decide),if_pos (by decide)]
  have e:min (b*10+(c.toNat-48)) (P.natAbs+632)=min (num (dv (a++[c]))) (P.natAbs+632):=by
   rw[j,B8w];simp[dv]
  cases l with
  |nil=>rw[e];rfl
  |cons x l=>
   rw[ih 8 (.inr (.inr rfl)) (a++[c]) (by simp) (λx hx=>h x (List.mem_cons_of_mem _ hx)) e,List.append_assoc];rfl
def sgP (neg:Bool):LU8:=if neg then[45]else[]
def frP (fr:LU8):LU8:=if fr=[]then[]else 46::fr
def exP (s ex:LU8):LU8:=if ex=[]then[]else 101::(s++ex)
def E1s (s:LU8) (en:Bool):Prop:=(s=[]/\en=false)\/(s=[43]/\en=false)\/(s=[45]/\en=true)
theorem E1t (neg:Bool) (l:LU8):∃s,(s=0\/s=1)/\run t0 (sgP neg++l)=run ⟨s,neg,[],0,0,false⟩ l:=by
 cases neg
 ·exact⟨0,.inl rfl,rfl⟩
 ·exact⟨1,.inr rfl,rfl⟩
theorem E1u {neg:Bool} {D:List Nat} {P:Int} (s:Nat) (c:s=2\/s=3) (fr l:LU8) (b:A4h fr):
 ∃k,(k=2\/k=3\/k=5)/\run ⟨s,neg,D,P,0,false⟩ (frP fr++l)=run ⟨k,neg,(A1p (D,P) (dv fr)).1,(A1p (D,P) (dv fr)).2,0,false⟩ l:=by
 by_cases a:fr=[]
 ·subst a
  exact⟨s,by omega,rfl⟩
 ·refine⟨5,by omega,?_⟩
  rw[frP,if_neg a,List.cons_append];have d:beh s 46=4:=by rcases c with rfl|rfl<;>decide
  simp only[run,nxt,d];rw[if_neg (by decide)]
  show run ⟨4,neg,D,P,0,false⟩ (fr++l)=_
  rw[A6g,E9h 4 (.inl rfl) fr a b];rfl
theorem E1v {neg:Bool} {D:List Nat} {P:Int} (k:Nat) (d:k=2\/k=3\/k=5) (m:UInt8) (g:m=101\/m=69) (s ex:LU8) (en:Bool) (c:ex≠[]) (e:E1s s en) (a:A4h ex):
 run ⟨k,neg,D,P,0,false⟩ (m::(s++ex))=some ⟨8,neg,D,P,min (num (dv ex)) (P.natAbs+632),en⟩:=by
 have f:beh k m=6:=by rcases d with rfl|rfl|rfl<;>rcases g with rfl|rfl<;>decide
 simp only[run,nxt,f];rw[if_neg (by decide)]
 show run ⟨6,neg,D,P,0,false⟩ (s++ex)=_
 have b:(0:Nat)=min (num (dv [])) (P.natAbs+632):=by
  show 0=min 0 _
  omega
 rcases e with⟨rfl,rfl⟩|⟨rfl,rfl⟩|⟨rfl,rfl⟩
 ·exact B8z 6 (.inl rfl) ex [] c a b
 ·show run ⟨7,neg,D,P,0,false⟩ ex=_
  exact B8z 7 (.inr (.inl rfl)) ex [] c a b
 ·show run ⟨7,neg,D,P,0,true⟩ ex=_
  exact B8z 7 (.inr (.inl rfl)) ex [] c a b
def A8b (k:Nat):Prop:=k=2\/k=3\/k=5\/k=8
theorem F6j {neg:Bool} {a fr s ex:LU8} {en:Bool} (r:A4h a) (m:A4h fr) (n:A4h ex) (u:E1s s en) (o:ex=[]->en=false) (p:a≠[]) (t:¬(a.head? =some 48/\1<a.length)):
 ∃k,A8b k/\run t0 (sgP neg++(a++(frP fr++exP s ex)))=some ⟨k,neg,(A1p ([],(a.length:Int)) (dv a++dv fr)).1,(A1p ([],(a.length:Int)) (dv a++dv fr)).2,
  min (num (dv ex)) ((A1p ([],(a.length:Int)) (dv a++dv fr)).2.natAbs+632),en⟩:=by
 obtain⟨q,e,l⟩:=E1t neg (a++(frP fr++exP s ex));obtain⟨j,f,i⟩:=C2r (neg:=neg) q e a r p t;obtain⟨g,c,h⟩:=E1u (neg:=neg) (D:=(A1p ([],(a.length:Int)) (dv a)).1) (P:=(A1p ([],(a.length:Int)) (dv a)).2) j f fr (exP s ex) m;rw[l,A6g,i]
 show∃k,A8b k/\run _ _=_
 rw[h];rw[show((A1p ([],(a.length:Int)) (dv a)).1,(A1p ([],(a.length:Int)) (dv a)).2)=A1p ([],(a.length:Int)) (dv a)from rfl,<-A6x];by_cases b:ex=[]
 ·have d:=o b
  subst b;subst d;refine⟨g,by unfold A8b;omega,?_⟩;rw[exP,if_pos rfl];simp only[run];rw[show min (num (dv [])) ((A1p ([],(a.length:Int)) (dv a++dv fr)).2.natAbs+632)=0 from by show min 0 _=0;omega]
 ·refine⟨8,by unfold A8b;omega,?_⟩
  rw[exP,if_neg b];exact E1v g c 101 (.inl rfl) s ex en b u n
def B4g:List Nat->List Nat->Bool
 |_,[]=>false
 |[],_::_=>true
 |a::x,b::y=>decide (a<b)||(decide (a=b)&&B4g x y)
theorem D3z (d:Nat) (r:List Nat):num (d::r)=d*p10 r.length+num r:=by
 have:num (d::r)=num ([d]++r):=rfl;rw[this,A2s];simp[num]
theorem E9i {b:List Nat} (h:b.getLast? ≠some 0) (a:b≠[]):0<num b:=by
 rcases List.eq_nil_or_concat b with rfl|⟨i,x,rfl⟩
 ·exact absurd rfl a
 ·rw[List.concat_eq_append,A4x]
  have:x≠0:=by rintro rfl;apply h;simp
  omega
theorem E1w (a b:List Nat) (i:B0m a) (n:B0m b) (g:b.getLast? ≠some 0):B4g a b=true↔num a*p10 b.length<num b*p10 a.length:=by
 induction a generalizing b with
 |nil=>
  cases b with
  |nil=>simp[B4g,num]
  |cons y b=>
   have:=E9i g (by simp);simp only[B4g,true_iff]
   show 0*_<num (y::b)*p10 0
   rw[Nat.zero_mul,show p10 0=1 from rfl,Nat.mul_one];exact this
 |cons x a ih=>
  cases b with
  |nil=>simp[B4g,num]
  |cons y b=>
   have e:B0m a:=λd hd=>i d (List.mem_cons_of_mem _ hd)
   have c:B0m b:=λd hd=>n d (List.mem_cons_of_mem _ hd)
   have j:=A7i a e;have l:=A7i b c
   have f:=ih b e c (by
    intro h;apply g;cases b with
    |nil=>simp at h
    |cons z b=>simpa using h)
   simp only[B4g,Bool.or_eq_true,Bool.and_eq_true,decide_eq_true_eq];rw[f,D3z,D3z,List.length_cons,List.length_cons,A1z,A1z];generalize num a=A at*;generalize num b=C at*;have o:=A0v a.length;have m:=A0v b.length;generalize p10 a.length=p at*;generalize p10 b.length=q at*
   have r:(x*p+A)*(q*10)=(x*(p*q)+A*q)*10:=by
    rw[<-Nat.mul_assoc,Nat.add_mul,Nat.mul_assoc x p q]
   have k:(y*q+C)*(p*10)=(y*(p*q)+C*p)*10:=by
    rw[<-Nat.mul_assoc,Nat.add_mul,Nat.mul_assoc y q p,Nat.mul_comm q p]
   rw[r,k];have s:A*q<p*q:=Nat.mul_lt_mul_of_pos_right j m;have t:C*p<p*q:=by rw[Nat.mul_comm p q];exact Nat.mul_lt_mul_of_pos_right l o
   generalize A*q=G at*;generalize C*p=H at*;generalize p*q=M at*;rcases Nat.lt_trichotomy x y with h|h|h
   ·have:(x+1)*M<=y*M:=Nat.mul_le_mul_right _ h
    rw[Nat.add_mul]at this;constructor
    ·intro _;omega
    ·intro _;exact .inl h
   ·subst h
    constructor
    ·rintro(h|⟨_,h⟩)
     ·omega
     ·omega
    ·intro h;exact .inr ⟨rfl,by omega⟩
   ·have:(y+1)*M<=x*M:=Nat.mul_le_mul_right _ h
    rw[Nat.add_mul]at this;constructor
    ·rintro(h|⟨h,_⟩)<;>omega
    ·intro _;omega
def bnd:List Nat:=[1,7,9,7,6,9,3,1,3,4,8,6,2,3,1,5,8,0,7,9,3,7,2,8,9,7,1,4,0,5,3,0,3,4,1,5,0,7,9,9,3,4,1,3,2,7,1,0,0,3,7,8,2,6,9,3,6,1,7,3,7,7,8,9,8,0,4,4,4,9,6,8,2,9,2,7,6,4,7,5,0,9,4,6,6,4,9,0,1,7,9,7,7,5,8,7,2,0,7,0,9,6,3,3,0,2,8,6,4,1,6,6,9,2,8,8,7,9,1,0,9,4,6,5,5,5,5,4,7,8,5,1,9,4,0,4,0,2,6,3,0,6,5,7,4,8,8,6,7,1,5,0,5,8,2,0,6,8,1,9,0,8,9,0,2,0,0,0,7,0,8,3,8,3,6,7,6,2,7,3,8,5,4,8,4,5,8,1,7,7,1,1,5,3,1,7,6,4,4,7,5,7,3,0,2,7,0,0,6,9,8,5,5,5,7,1,3,6,6,9,5,9,6,2,2,8,4,2,9,1,4,8,1,9,8,6,0,8,3,4,9,3,6,4,7,5,2,9,2,7,1,9,0,7,4,1,6,8,4,4,4,3,6,5,5,1,0,7,0,4,3,4,2,7,1,1,5,5,9,6,9,9,5,0,8,0,9,3,0,4,2,8,8,0,1,7,7,9,0,4,1,7,4,4,9,7,7,9,2]
theorem F6k:bnd.length=309:=by decide+kernel
theorem D4a:B0m bnd:=by
 have:bnd.all (λd=>decide (d<=9))=true:=by decide+kernel
 intro d a;simpa using List.all_eq_true.1 this d a
theorem E9j:bnd.getLast? ≠some 0:=by decide+kernel
theorem F6m:mid 9218868437227405311=2*(num bnd*p2 1074):=by decide+kernel
theorem F6n:p10 308<=num bnd:=by decide+kernel
def oor (D:List Nat) (P:Int):Bool:=if D=[]\/P<309 then false else if 309<P then true else !B4g D bnd
theorem G0g {a b:Nat} (h:a<=b):mid a<=mid b:=by
 rcases Nat.lt_or_ge a b with c|c
 ·exact Nat.le_of_lt (C7i c)
 ·rw[show a=b by omega];exact Nat.le_refl _
theorem F6p {X Y r:Nat} (h:Rnd X Y r) (hr:9218868437227405312<=r):mid 9218868437227405311*Y<=2*X:=by
 obtain⟨a,_⟩:=h;have b:mid 9218868437227405311*Y<=mid (r-1)*Y:=Nat.mul_le_mul_right _ (G0g (by omega));rcases a with a|a|⟨a,_⟩
 ·omega
 ·omega
 ·omega
theorem B9a {X Y r:Nat} (d:0<Y) (h:Rnd X Y r) (hr:r<9218868437227405312):2*X<mid 9218868437227405311*Y:=by
 obtain⟨_,b⟩:=h;rcases Nat.lt_or_ge r 9218868437227405311 with c|c
 ·have:=(Nat.mul_lt_mul_right d).2 (C7i c)
  omega
 ·have a:r=9218868437227405311:=by omega
  subst a;rcases b with b|⟨_,b⟩
  ·exact b
  ·omega
theorem D1e (N Y:Nat):mid 9218868437227405311*Y<=2*(N*p2 1074)↔num bnd*Y<=N:=by
 rw[F6m,Nat.mul_assoc 2,Nat.mul_right_comm (num bnd) (p2 1074) Y];have b:=A2y 1074;generalize num bnd*Y=a;generalize p2 1074=q at*;constructor
 ·intro h
  exact Nat.le_of_mul_le_mul_right (by omega:a*q<=N*q) b
 ·intro h
  have:=Nat.mul_le_mul_right q h;omega
theorem C4q (D:List Nat) (a:B0m D):B4g D bnd=true↔num D*p10 (309-(D.length:Int)).toNat<num bnd*p10 ((D.length:Int)-309).toNat:=by
 rw[E1w D bnd a D4a E9j,F6k];rcases Nat.lt_or_ge D.length 309 with h|h
 ·rw[show((D.length:Int)-309).toNat=0 by omega,show p10 0=1 from rfl,Nat.mul_one]
  have e:p10 309=p10 (309-(D.length:Int)).toNat*p10 D.length:=by rw[<-A1h,show(309-(D.length:Int)).toNat+D.length=309 by omega]
  rw[e,<-Nat.mul_assoc];exact Nat.mul_lt_mul_right (A0v _)
 ·rw[show(309-(D.length:Int)).toNat=0 by omega,show p10 0=1 from rfl,Nat.mul_one]
  have e:p10 D.length=p10 ((D.length:Int)-309).toNat*p10 309:=by rw[<-A1h,show((D.length:Int)-309).toNat+309=D.length by omega]
  rw[e,<-Nat.mul_assoc];exact Nat.mul_lt_mul_right (A0v _)
theorem F6q {D:List Nat} {P:Int} {r:Nat} (j:B0m D) (g:D≠[]->P<=309) (f:oor D P=false) (h:E1k D P r):r<9218868437227405312:=by
 rcases Nat.lt_or_ge r 9218868437227405312 with i|i
 ·exact i
 exfalso;obtain⟨a,_,c⟩:=h;have b:D≠[]:=λh0=>by have:=a (.inl h0);omega
 have p:=g b;have e:¬P< -323:=λh0=>by have:=a (.inr h0);omega
 have t:=(D1e _ _).1 (F6p (c b e (by omega)) i);by_cases o:P<309
 ·have k:=A7i D j
  have q:num D*p10 (P-D.length).toNat<p10 (D.length+(P-D.length).toNat):=by rw[A1h];exact Nat.mul_lt_mul_of_pos_right k (A0v _)
  have m:p10 (D.length+(P-D.length).toNat)<=p10 (308+(D.length-P).toNat):=A3r _ _ (by omega);rw[A1h 308]at m;have s:=Nat.mul_le_mul_right (p10 (D.length-P).toNat) F6n;omega
 ·have d:P=309:=by omega
  subst d;rw[oor,if_neg (by intro h;rcases h with h|h;exact b h;omega),if_neg (by omega)]at f
  have n:B4g D bnd=true:=by cases l:B4g D bnd
                            ·rw[l]at f;cases f
                            ·rfl
  have:=(C4q D j).1 n;omega
theorem G0h {D:List Nat} {P:Int} {n:Nat} (d:B0m D) (f:P<=309) (h:Rnd (num D*p10 (P-D.length).toNat*p2 1074) (p10 (D.length-P).toNat) n) (e:n<9218868437227405312):oor D P=false:=by
 unfold oor;by_cases b:D=[]\/P<309
 ·rw[if_pos b]
 ·have a:P=309:=by omega
  subst a;rw[if_neg b,if_neg (by omega)];have:=B9a (A0v _) h e
  have c:B4g D bnd=true:=by
   rw[C4q D d];rcases Nat.lt_or_ge (num D*p10 (309-(D.length:Int)).toNat) (num bnd*p10 ((D.length:Int)-309).toNat)with h2|h2
   ·exact h2
   ·have:=(D1e _ _).2 h2
    omega
  rw[c];rfl
def A8v (D:List Nat) (P:Int) (r:Nat):Prop:=(oor D P=true->r=9218868437227405312)/\(oor D P=false->E1k D P r/\r<9218868437227405312)
theorem A8v.far {D:List Nat} {P Q:Int} {r:Nat} (h:A8v D P r) (d:P=Q\/(309<P/\309<Q)\/(P< -323/\Q< -323)):A8v D Q r:=by
 rcases d with rfl|⟨c,b⟩|⟨c,b⟩
 ·exact h
 ·by_cases a:D=[]
  ·have e:∀x,oor D x=false:=λx=>by rw[oor,if_pos (.inl a)]
   refine⟨λh0=>(by rw[e]at h0;cases h0),λ_=>?_⟩;have:=h.2 (e _);refine⟨⟨λ_=>this.1.1 (.inl a),λh0=>absurd a h0,λh0=>absurd a h0⟩,this.2⟩
  ·have e:∀x:Int,309<x->oor D x=true:=λx hx=>by rw[oor,if_neg (by intro h;rcases h with h|h;exact a h;omega),if_pos hx]
   exact⟨λ_=>h.1 (e _ c),λh0=>(by rw[e _ b]at h0;cases h0)⟩
 ·have e:∀x:Int,x< -323->oor D x=false:=λx hx=>by rw[oor,if_pos (.inr (by omega))]
  refine⟨λh0=>(by rw[e _ b]at h0;cases h0),λ_=>?_⟩;have:=h.2 (e _ c);exact⟨⟨λ_=>this.1.1 (.inr c),λ_ h0=>absurd b h0,λ_ h0=>absurd b h0⟩,this.2⟩
end Go.Proofs.YtmkkibaacclhnaaGreatDoor
