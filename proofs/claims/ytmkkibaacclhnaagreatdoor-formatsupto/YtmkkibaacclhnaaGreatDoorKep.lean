/-
  Part Kep.
-/
import Derived.Test.YtmkkibaacclhnaaGreatDoorRep
import Derived.Test.YtmkkibaacclhnaaGreatDoorDlp
import Derived.Test.YtmkkibaacclhnaaGreatDoorTke
namespace Go.Proofs.YtmkkibaacclhnaaGreatDoor
open Go.RowKit
theorem Rnd.cross {g d i c r:Nat} (l:0<d) (n:0<c) (e:g*c=i*d) (h:Rnd g d r):Rnd i c r:=by
 have f:∀m,(m*d<2*g->m*c<2*i)/\(m*d=2*g->m*c=2*i)/\(2*g<m*d->2*i<m*c):=by
  intro m;have j:2*g*c=2*i*d:=by rw[Nat.mul_assoc,e,Nat.mul_assoc]
  have k:m*d*c=m*c*d:=Nat.mul_right_comm ..;refine⟨λh=>?_,λh=>?_,λh=>?_⟩
  ·have:=(Nat.mul_lt_mul_right n).2 h
   rw[j,k]at this;exact(Nat.mul_lt_mul_right l).1 this
  ·have:m*d*c=2*g*c:=by rw[h]
   rw[j,k]at this;exact Nat.eq_of_mul_eq_mul_right l this
  ·have:=(Nat.mul_lt_mul_right n).2 h
   rw[j,k]at this;exact(Nat.mul_lt_mul_right l).1 this
 obtain⟨a,b⟩:=h;refine⟨?_,?_⟩
 ·rcases a with a|a|⟨a,o⟩
  ·exact .inl a
  ·exact .inr (.inl ((f _).1 a))
  ·exact .inr (.inr ⟨(f _).2.1 a,o⟩)
 ·rcases b with b|⟨b,p⟩
  ·exact .inl ((f _).2.2 b)
  ·exact .inr ⟨((f _).2.1 b.symm).symm,p⟩
def B1q (c:Nat) (pw:Int) (d:Nat) (qw:Int):Prop:=c*p10 pw.toNat*p10 (-qw).toNat=d*p10 qw.toNat*p10 (-pw).toNat
theorem A3u.same {c d n:Nat} {a b:Int} (e:B1q c a d b) (h:A3u c a n):A3u d b n:=by
 refine Rnd.cross (A0v _) (A0v _) ?_ h;unfold B1q at e;unfold pP;rw[<-Nat.mul_assoc,<-Nat.mul_assoc,Nat.mul_right_comm _ (p2 1074),e,Nat.mul_right_comm _ _ (p2 1074)]
theorem A3u.up {c n:Nat} {a:Int} (h:A3u (10*c) a n):A3u c (a+1) n:=by
 refine A3u.same ?_ h;unfold B1q;rcases Int.lt_or_le a 0 with b|b
 ·obtain⟨k,rfl⟩:∃k:Nat,a= -((k:Int)+1):=⟨(-a-1).toNat,by omega⟩
  rw[show(-((k:Int)+1)).toNat=0 by omega,show(-(-((k:Int)+1)+1)).toNat=k by omega,show(-((k:Int)+1)+1).toNat=0 by omega,show(-(-((k:Int)+1))).toNat=k+1 by omega,A1z];generalize p10 k=z;generalize p10 0=y;rw[Nat.mul_comm z 10,<-Nat.mul_assoc,Nat.mul_right_comm c y 10,Nat.mul_comm c 10]
 ·obtain⟨k,rfl⟩:∃k:Nat,a=(k:Int):=⟨a.toNat,by omega⟩
  rw[show(k:Int).toNat=k by omega,show(-((k:Int)+1)).toNat=0 by omega,show((k:Int)+1).toNat=k+1 by omega,show(-(k:Int)).toNat=0 by omega,A1z,Nat.mul_comm 10 c,Nat.mul_assoc c 10,Nat.mul_comm 10]
theorem E2i (r:Nat):0<mid r:=by unfold mid;have:=C2n r;omega
theorem A3u.pos {c n:Nat} {b:Int} (h:A3u c b n) (e:n≠0):0<c:=by
 rcases Nat.eq_zero_or_pos c with rfl|d
 ·exfalso
  have:=Nat.mul_pos (E2i (n-1)) (A0v (-b).toNat);obtain⟨a,_⟩:=h;rw[Nat.zero_mul]at a;omega
 ·exact d
theorem B1e.last {n D:Nat} {d:Int} (h:B1e n D d) (b:n≠0):D % 10≠0:=by
 intro f;have hr:=h.rnd b;have i:=hr.pos b;obtain⟨e,R,L,H,U,g,c,a⟩:=h;rcases a with rfl|a
 ·rcases B1p c with rfl|rfl<;>omega
 ·refine a.none b (D/10) (A3u.up ?_)
  rw[show 10*(D/10)=D by omega];exact hr
theorem G0n:mid 9218868437227405311<2*(p10 309*p2 1074):=by decide+kernel
theorem D1q:2*p2 1074<p10 324:=by decide+kernel
theorem A3u.top {c n:Nat} {a:Int} {k:Nat} (h:A3u c a n) (p:n<9218868437227405312) (l:p10 k<=c):(k:Int)+a<309:=by
 rcases Int.lt_or_le ((k:Int)+a) 309 with d|d
 ·exact d
 ·exfalso
  obtain⟨_,b⟩:=h
  have m:mid n<=mid 9218868437227405311:=by
   rcases Nat.lt_or_ge n 9218868437227405311 with e|e
   ·exact Nat.le_of_lt (C7i e)
   ·rw[show n=9218868437227405311 by omega];exact Nat.le_refl _
  have i:p10 309*p10 (-a).toNat<=c*p10 a.toNat:=by
   refine Nat.le_trans ?_ (Nat.mul_le_mul_right _ l);rw[<-A1h,<-A1h];exact A3r _ _ (by omega)
  have o:=Nat.mul_le_mul_right (p2 1074) i;have j:mid n*p10 (-a).toNat<2*(p10 309*p2 1074)*p10 (-a).toNat:=(Nat.mul_lt_mul_right (A0v _)).2 (Nat.lt_of_le_of_lt m G0n)
  have f:2*(p10 309*p2 1074)*p10 (-a).toNat=2*(p10 309*p10 (-a).toNat*p2 1074):=by
   rw[Nat.mul_assoc 2,Nat.mul_right_comm (p10 309)]
  have g:c*pP a=c*p10 a.toNat*p2 1074:=by rw[pP,Nat.mul_assoc]
  rw[g]at b;rw[f]at j;omega
theorem A3u.bottom {c n:Nat} {b:Int} {k:Nat} (h:A3u c b n) (m:n≠0) (f:c<p10 k): -324<(k:Int)+b:=by
 rcases Int.lt_or_le (-324) ((k:Int)+b)with h1|h1
 ·exact h1
 ·exfalso
  obtain⟨a,_⟩:=h;have e:c*pP b=c*p10 b.toNat*p2 1074:=by rw[pP,Nat.mul_assoc]
  rw[e]at a
  have g:c*p10 b.toNat*p10 324<=p10 (-b).toNat:=by
   refine Nat.le_trans (Nat.mul_le_mul_right _ (Nat.mul_le_mul_right _ (Nat.le_of_lt f))) ?_;rw[<-A1h,<-A1h];exact A3r _ _ (by omega)
  have i:1*p10 (-b).toNat<=mid (n-1)*p10 (-b).toNat:=Nat.mul_le_mul_right _ (E2i _)
  have j:2*(c*p10 b.toNat*p2 1074)<=c*p10 b.toNat*p10 324:=by
   rw[Nat.mul_left_comm];exact Nat.mul_le_mul_left _ (Nat.le_of_lt D1q)
  have d:c*p10 b.toNat=0\/2*(c*p10 b.toNat*p2 1074)<c*p10 b.toNat*p10 324:=by
   rcases Nat.eq_zero_or_pos (c*p10 b.toNat)with h6|h6
   ·exact .inl h6
   ·refine .inr ?_
    rw[Nat.mul_left_comm];exact Nat.mul_lt_mul_of_pos_left D1q h6
  have l:=A0v (-b).toNat;rcases d with d|d
  ·rw[d,Nat.zero_mul]at a;omega
  ·omega
theorem A8m (z:Nat):num (List.replicate z 0)=0:=by
 induction z with
 |zero=>rfl
 |succ z ih=>rw[List.replicate_succ',A4x,ih]
theorem B9j (p:Int) (z:Nat):A1p ([],p) (List.replicate z 0)=([],p-z):=by
 induction z with
 |zero=>simp[A1p]
 |succ z ih=>rw[List.replicate_succ',D6s,ih,A5p,if_pos ⟨rfl,rfl⟩];simp;omega
theorem B1r (x:List Nat×Int) (a:List Nat) (c:x.1≠[]) (b:x.1.length+a.length<=768):A1p x a=(x.1++a,x.2):=by
 induction a generalizing x with
 |nil=>simp[A1p]
 |cons d a ih=>
  have e:A5p x d=(x.1++[d],x.2):=by
   rw[List.length_cons]at b;rw[A5p,if_neg (by intro h;exact c h.1),if_pos (by omega)]
  show A1p (A5p x d) a=_
  rw[e,ih _ (by simp) (by simp at b ⊢;omega)];simp
theorem B3m (a:List Nat):∃z rest,a=List.replicate z 0++rest/\(rest=[]\/∃d r,rest=d::r/\d≠0):=by
 induction a with
 |nil=>exact⟨0,[],rfl,.inl rfl⟩
 |cons d a ih=>
  by_cases h:d=0
  ·obtain⟨z,rest,e,b⟩:=ih
   exact⟨z+1,rest,by rw[List.replicate_succ,h,e];rfl,b⟩
  ·exact⟨0,d::a,rfl,.inr ⟨d,a,rfl,h⟩⟩
theorem B9k (p:Int) (a:List Nat) (f:a.length<=768):∃z rest,a=List.replicate z 0++rest/\(rest=[]\/∃d r,rest=d::r/\d≠0)/\A1p ([],p) a=(rest,p-z):=by
 obtain⟨z,rest,e,h⟩:=B3m a;refine⟨z,rest,e,h,?_⟩;rw[e,A6x,B9j];rcases h with rfl|⟨d,r,rfl,b⟩
 ·rfl
 ·have c:z+(r.length+1)=a.length:=by rw[e];simp
  show A1p (A5p ([],p-z) d) r=_
  rw[A5p,if_neg (by intro h;exact b h.2),if_pos (by simp)];rw[B1r _ _ (by simp) (by simp;omega)];rfl
theorem C2v (d:Nat) (r:List Nat) (a:d≠0):p10 r.length<=num (d::r):=by
 have:num (d::r)=num ([d]++r):=rfl;rw[this,A2s,show num [d]=d from by simp[num]];have:1*p10 r.length<=d*p10 r.length:=Nat.mul_le_mul_right _ (by omega);omega
theorem E9v {b:List Nat} {p:Int} {r n:Nat} (F:b.length<=768) (D:B0m b) (s:n≠0) (q:n<9218868437227405312) (h:A8v (A1p ([],p) b).1 (A1p ([],p) b).2 r):
 r=n↔A3u (num b) (p-b.length) n:=by
 obtain⟨z,rest,e,hr,E⟩:=B9k p b F;rw[E]at h;obtain⟨C,A⟩:=h;simp only at C A;have a:num b=num rest:=by rw[e,A2s,A8m];omega
 have o:b.length=z+rest.length:=by rw[e];simp
 have l:B0m rest:=λd w=>D d (by rw[e];exact List.mem_append_right _ w)
 have y:p-(b.length:Int)=p-z-rest.length:=by omega
 have i:A3u (num b) (p-b.length) n↔Rnd (num rest*p10 (p-z-rest.length).toNat*p2 1074) (p10 (rest.length-(p-z)).toNat) n:=by
  unfold A3u pP;rw[a,y,<-Nat.mul_assoc,show-(p-(z:Int)-rest.length)=rest.length-(p-z) by omega]
 constructor
 ·rintro rfl
  have x:oor rest (p-z)=false:=by
   cases x:oor rest (p-z)
   ·rfl
   ·have:=C x;omega
  obtain⟨⟨u,B,v⟩,_⟩:=A x;have f:rest≠[]:=λh0=>s (u (.inl h0))
  have c:¬p-(z:Int)< -323:=λh0=>s (u (.inr h0))
  have j:¬309<p-(z:Int):=λh0=>by have:=B f c h0;omega
  exact i.2 (v f c j)
 ·intro m
  have g:=m.pos s;rw[a]at g;rcases hr with rfl|⟨d,t,rfl,w⟩
  ·simp[num]at g
  ·have f:d::t≠[]:=by simp
   have H:=m.top q (k:=t.length) (by rw[a];exact C2v d t w);have G:=m.bottom s (k:=t.length+1) (by rw[a];exact A7i _ l);rw[List.length_cons]at o;have c:¬p-(z:Int)< -323:=by omega
   have j:¬309<p-(z:Int):=by omega
   obtain⟨⟨u,B,v⟩,_⟩:=A (G0h l (by omega) (i.1 m) q);exact Rnd.uniq (A0v _) (v f c j) (i.1 m)
def A8x (c:UInt8) (l:LU8):LU8×Bool:=if l.head? =some c then(l.tail,true)else(l,false)
def C5d (l:LU8):LU8×Bool:=if(A8x 101 l).2 then((A8x 101 l).1,true)else A8x 69 l
def B3n (l:LU8):LU8×Bool:=if(A8x 43 l).2 then((A8x 43 l).1,false)else A8x 45 l
def C1k (n:Bool) (wh fr:LU8) (en:Bool) (ex r3:LU8):Option (Bool×LU8×LU8×Bool×LU8):=if r3=[]then some (n,wh,fr,en,ex)else none
def B4k (n:Bool) (wh fr r2:LU8):Option (Bool×LU8×LU8×Bool×LU8):=
 if(C5d r2).2=true then(if(B3n (C5d r2).1).1.takeWhile isD=[]then none else C1k n wh fr (B3n (C5d r2).1).2 ((B3n (C5d r2).1).1.takeWhile isD) ((B3n (C5d r2).1).1.dropWhile isD))else C1k n wh fr false [] r2
def C5e (n:Bool) (wh r:LU8):Option (Bool×LU8×LU8×Bool×LU8):=
 if(A8x 46 r).2=true then(if(A8x 46 r).1.takeWhile isD=[]then none else B4k n wh ((A8x 46 r).1.takeWhile isD) ((A8x 46 r).1.dropWhile isD))else B4k n wh [] r
def E9w (n:Bool) (wh r:LU8):Option (Bool×LU8×LU8×Bool×LU8):=
 if wh=[]\/(wh.head? =some 48/\1<wh.length)then none else C5e n wh r
def A9i (l:LU8):Option (Bool×LU8×LU8×Bool×LU8):=E9w (A8x 45 l).2 ((A8x 45 l).1.takeWhile isD) ((A8x 45 l).1.dropWhile isD)
def NoD (l:LU8):Prop:=∀c,l.head? =some c->isD c=false
theorem B0p {a b:LU8} (d:A4h a) (g:NoD b):(a++b).takeWhile isD=a/\(a++b).dropWhile isD=b:=by
 induction a with
 |nil=>
  cases b with
  |nil=>exact⟨rfl,rfl⟩
  |cons c b=>have:=g c rfl;simp[this]
 |cons c a ih=>
  have h:=d c List.mem_cons_self;obtain⟨e,f⟩:=ih (λx hx=>d x (List.mem_cons_of_mem _ hx));rw[List.cons_append,List.takeWhile_cons,List.dropWhile_cons,h,if_pos rfl,if_pos rfl,e,f];exact⟨rfl,rfl⟩
theorem F6w (fr t:LU8) (a:NoD t):NoD (frP fr++t):=by
 unfold frP;split
 ·simpa using a
 ·intro c h;simp at h;subst h;decide
theorem A4c {c:UInt8} {l:LU8} (h:l.head? ≠some c):A8x c l=(l,false):=by rw[A8x,if_neg h]
theorem A4j (c:UInt8) (l:LU8):A8x c (c::l)=(l,true):=by simp[A8x]
theorem C5f {a b:LU8} (c:a≠[]):(a++b).head? =a.head? :=by
 cases a with
 |nil=>exact absurd rfl c
 |cons x a=>rfl
theorem C5g {a b:LU8} {c:UInt8} (f:a≠[]) (e:A4h a) (d:isD c=false):(a++b).head? ≠some c:=by
 cases a with
 |nil=>exact absurd rfl f
 |cons x a=>
  intro h;simp at h;subst h;rw[e x List.mem_cons_self]at d;cases d
theorem F6x {s ex:LU8} {en:Bool} (g:E1s s en) (f:ex≠[]) (e:A4h ex):B3n (s++ex)=(ex,en):=by
 rcases g with⟨rfl,rfl⟩|⟨rfl,rfl⟩|⟨rfl,rfl⟩
 ·rw[List.nil_append]
  have a:=C5g (b:=[]) (c:=43) f e (by decide);have d:=C5g (b:=[]) (c:=45) f e (by decide);rw[List.append_nil]at a d;rw[B3n,A4c a,A4c d];rfl
 ·rw[B3n,List.singleton_append,A4j];rfl
 ·rw[B3n,List.singleton_append,A4c (by simp),A4j];rfl
theorem E9x {n:Bool} {c fr t:LU8} (d:A4h fr) (e:NoD t) (b:t.head? ≠some 46):C5e n c (frP fr++t)=B4k n c fr t:=by
 by_cases a:fr=[]
 ·subst a
  rw[frP,if_pos rfl,List.nil_append,C5e,A4c b];rfl
 ·rw[frP,if_neg a,C5e,List.cons_append,A4j]
  have:=B0p d e;simp only[if_true];rw[this.1,this.2,if_neg a]
theorem E2j (neg:Bool):(sgP neg).length<=1:=by cases neg<;>simp[sgP]
theorem B6x {neg:Bool} {a fr s ex:LU8} {en:Bool} (o:A4h a) (i:A4h fr) (p:A4h ex) (n:E1s s en) (h:ex=[]->en=false) (d:a≠[]) (f:¬(a.head? =some 48/\1<a.length))
 (w:World) (l:(sgP neg++(a++(frP fr++exP s ex))).length<=1000000000000000):
 Calls Tryz.prog 22 #[.string (ofL (sgP neg++(a++(frP fr++exP s ex))))] w λe w'=>∃r,A8v (A1p ([],(a.length:Int)+E0q (ofL a) (ofL fr) en (ofL ex)) (dv a++dv fr)).1 (A1p ([],(a.length:Int)+E0q (ofL a) (ofL fr) en (ofL ex)) (dv a++dv fr)).2 r/\
  e=.returned (.tuple #[.int .u64 ((A2z neg r).1:Nat),.int .i64 ((A2z neg r).2:Nat)])/\Fr (λ_=>False) w w':=by
 obtain⟨k,j,b⟩:=F6j (neg:=neg) o i p n h d f;refine(B4j _ w l).mono ?_;rintro e w' ⟨⟨m,_⟩,g⟩;obtain⟨r,hr,rfl⟩:=m _ b j;refine⟨r,?_,rfl,g⟩;have c:=B8y ([],(a.length:Int)) (E0q (ofL a) (ofL fr) en (ofL ex)) (dv a++dv fr);simp only at c;rw[c];simp only at hr ⊢;unfold Tk.at at hr;simp only at hr;refine hr.far ?_;unfold E0q;rw[D1d];generalize (A1p ([],(a.length:Int)) (dv a++dv fr)).2=P;generalize num (dv ex)=q;cases en
 ·simp only[Bool.false_eq_true,if_false];omega
 ·simp only[if_true];omega
theorem A4d (a b:LU8):dv (a++b)=dv a++dv b:=by simp[dv]
theorem A3e (a:LU8):(dv a).length=a.length:=by simp[dv]
theorem D4f (k:Nat):dv (List.replicate k 48)=List.replicate k 0:=by simp[dv]
theorem A3s (m:Nat) (h:m<10):(UInt8.ofNat (48+m)).toNat=48+m:=UInt8.toNat_ofNat_of_lt' (by show _<256;omega)
theorem F6y (d:Nat):num [d]=d:=by simp[num]
theorem C5h (n:Nat):num (dv (dgs n))=n:=by
 induction n using Nat.strongRecOn with
 |_ n ih=>
  by_cases h:n<10
  ·rw[A6a h]
   show num [(UInt8.ofNat (48+n)).toNat-48]=n
   rw[A3s n h,F6y];omega
  ·rw[A9h h,A4d]
   show num (_++[(UInt8.ofNat (48+n % 10)).toNat-48])=n
   rw[A4x,ih (n/10) (by omega),A3s _ (by omega)];omega
theorem D1r (m:Nat) (h:m<10):isD (UInt8.ofNat (48+m))=true:=by
 unfold isD;rw[A3s m h];simp;omega
theorem A4h.append {a b:LU8} (e:A4h a) (f:A4h b):A4h (a++b):=by
 intro c d;rw[List.mem_append]at d;rcases d with d|d
 ·exact e c d
 ·exact f c d
theorem D7f (k:Nat):A4h (List.replicate k 48):=by
 intro c a;rw[List.mem_replicate]at a;rw[a.2];decide
theorem A4k:A4h []:=by intro c a;cases a
theorem F6z:A4h [48]:=D7f 1
theorem B2g (n:Nat):A4h (dgs n):=by
 induction n using Nat.strongRecOn with
 |_ n ih=>
  by_cases h:n<10
  ·rw[A6a h];intro c a;rw[List.mem_singleton]at a;rw[a];exact D1r n h
  ·rw[A9h h]
   exact(ih _ (by omega)).append (by intro c a;rw[List.mem_singleton]at a;rw[a];exact D1r _ (by omega))
theorem E9y (n:Nat) (c:n≠0):(dgs n).head? ≠some 48:=by
 induction n using Nat.strongRecOn with
 |_ n ih=>
  by_cases h:n<10
  ·rw[A6a h]
   intro a;have a:UInt8.ofNat (48+n)=48:=Option.some.inj a;have:=congrArg UInt8.toNat a;rw[A3s n h]at this;have b:(48:UInt8).toNat=48:=rfl;omega
  ·rw[A9h h,C5f (by intro h;have:=B9f (n/10);rw[h]at this;simp at this)]
   exact ih _ (by omega) (by omega)
theorem A4h.digs {l:LU8} (h:A4h l):B0m (dv l):=by
 intro d a;unfold dv at a;rw[List.mem_map]at a;obtain⟨c,b,rfl⟩:=a;have:=h c b;unfold isD at this;simp at this;omega
theorem A4h.take {l:LU8} (h:A4h l) (k:Nat):A4h (l.take k):=λc hc=>h c (List.mem_of_mem_take hc)
theorem A4h.drop {l:LU8} (h:A4h l) (k:Nat):A4h (l.drop k):=λc hc=>h c (List.mem_of_mem_drop hc)
structure Tok (t wh fr s ex:LU8) (en:Bool):Prop where
 eq:t=wh++(frP fr++exP s ex)
 w:A4h wh
 f:A4h fr
 x:A4h ex
 sg:E1s s en
 no:ex=[]->en=false
 w0:wh≠[]
 w1:¬(wh.head? =some 48/\1<wh.length)
theorem D4g (a fr:LU8):E0q (ofL a) (ofL fr) false (ofL [])=0:=by
 unfold E0q;rw[D1d];simp[dv,num]
theorem E2k {t a fr s ex:LU8} {en:Bool} (neg:Bool) (h:Tok t a fr s ex en) (j:t.length<=1000) (b:a.length+fr.length<=768) (w:World):
 Calls Tryz.prog 22 #[.string (ofL (sgP neg++t))] w λe w'=>∃r,(∀n,n≠0->n<9218868437227405312->(r=n↔A3u (num (dv a++dv fr)) (E0q (ofL a) (ofL fr) en (ofL ex)-fr.length) n))/\
  e=.returned (.tuple #[.int .u64 ((A2z neg r).1:Nat),.int .i64 ((A2z neg r).2:Nat)])/\Fr (λ_=>False) w w':=by
 have c:(sgP neg++(a++(frP fr++exP s ex))).length<=1000000000000000:=by
  rw[<-h.eq,List.length_append];have:=E2j neg;omega
 rw[h.eq];refine(B6x h.w h.f h.x h.sg h.no h.w0 h.w1 w c).mono ?_;rintro e w' ⟨r,hr,i,g⟩;refine⟨r,λn hn hn2=>?_,i,g⟩
 have:=E9v (by rw[List.length_append,A3e,A3e];exact b) (by
  intro d b;rw[List.mem_append]at b;rcases b with b|b
  ·exact h.w.digs d b
  ·exact h.f.digs d b) hn hn2 hr
 rw[this,List.length_append,A3e,A3e,show(a.length:Int)+E0q (ofL a) (ofL fr) en (ofL ex)-((a.length+fr.length:Nat):Int)=E0q (ofL a) (ofL fr) en (ofL ex)-fr.length by omega]
theorem B1q.symm {c d:Nat} {a b:Int} (h:B1q c a d b):B1q d b c a:=Eq.symm h
theorem E2m (l:LU8) (d:A4h l) (b:l≠[]) (e:l.head? ≠some 48):p10 (l.length-1)<=num (dv l):=by
 cases l with
 |nil=>exact absurd rfl b
 |cons c r=>
  have a:=d c List.mem_cons_self
  have:c.toNat-48≠0:=by
   intro h;apply e;unfold isD at a;simp at a;have:c.toNat=(48:UInt8).toNat:=by show c.toNat=48;omega
   rw[List.head?_cons,UInt8.toNat_inj.1 this]
  have:=C2v (c.toNat-48) (dv r) this;rw[A3e]at this;exact this
theorem G0p:mid 0=1:=by decide+kernel
theorem G0q:4*p2 1074<p10 324/\p10 324<5*p2 1074/\9*p2 1074<2*p10 324:=by decide+kernel
theorem B1q.shift (c k:Nat) (a:Int):B1q c a (c*p10 k) (a-k):=by
 unfold B1q;rcases Int.lt_or_le a 0 with b|b
 ·rw[show a.toNat=0 by omega,show(a-k).toNat=0 by omega,show(-(a-k)).toNat=k+(-a).toNat by omega,A1h,show p10 0=1 from rfl,Nat.mul_one,Nat.mul_one,Nat.mul_assoc]
 ·obtain⟨m,rfl⟩:∃m:Nat,a=m:=⟨a.toNat,by omega⟩
  rw[show(-(m:Int)).toNat=0 by omega,show p10 0=1 from rfl,Nat.mul_one,Nat.mul_assoc,Nat.mul_assoc,<-A1h,<-A1h];congr 2;omega
theorem C7y {a:List Nat} {p:Int} {r:Nat} (i:a.length<=768) (c:num a=0) (h:A8v (A1p ([],p) a).1 (A1p ([],p) a).2 r):r=0:=by
 obtain⟨z,rest,e,hr,f⟩:=B9k p a i;rw[f]at h;rcases hr with rfl|⟨d,b,rfl,g⟩
 ·exact(h.2 (if_pos (.inl rfl))).1.1 (.inl rfl)
 ·exfalso
  have:=C2v d b g;have j:=A0v b.length;rw[e,A2s,A8m]at c;omega
theorem D7g {t b fr s ex:LU8} {en:Bool} (neg:Bool) (h:Tok t b fr s ex en) (j:t.length<=1000) (g:b.length+fr.length<=768) (c:num (dv b++dv fr)=0) (w:World):
 Calls Tryz.prog 22 #[.string (ofL (sgP neg++t))] w λe w'=>e=.returned (.tuple #[.int .u64 ((A2z neg 0).1:Nat),.int .i64 ((A2z neg 0).2:Nat)])/\Fr (λ_=>False) w w':=by
 have a:(sgP neg++(b++(frP fr++exP s ex))).length<=1000000000000000:=by
  rw[<-h.eq,List.length_append];have:=E2j neg;omega
 rw[h.eq];refine(B6x h.w h.f h.x h.sg h.no h.w0 h.w1 w a).mono ?_;rintro e w' ⟨r,hr,i,d⟩;have:=C7y (by rw[List.length_append,A3e,A3e];exact g) c hr;subst this;exact⟨i,d⟩
theorem E2n (m:Nat) (h:m<10):(ByteArray.mk #[48,49,50,51,52,53,54,55,56,57]).extract m (m+1)=ofL [UInt8.ofNat (48+m)]:=by
 have:m=0\/m=1\/m=2\/m=3\/m=4\/m=5\/m=6\/m=7\/m=8\/m=9:=by omega
 rcases this with rfl|rfl|rfl|rfl|rfl|rfl|rfl|rfl|rfl|rfl<;>rfl
theorem B9m {t b fr s ex:LU8} {en:Bool} (h:Tok t b fr s ex en) (g:t.length<=1000) (f:b.length+fr.length<=768) {m:Nat} (l:m<9218868437227405312)
 (j:m=0->num (dv b++dv fr)=0) (k:m≠0->A3u (num (dv b++dv fr)) (E0q (ofL b) (ofL fr) en (ofL ex)-fr.length) m) (w:World):
 Calls Tryz.prog 22 #[.string (ofL t)] w λe w'=>e=.returned (.tuple #[.int .u64 m,.int .i64 0])/\Fr (λ_=>False) w w':=by
 have i:A2z false m=(m,0):=by unfold A2z;rw[if_neg (by omega)];rfl
 by_cases c:m=0
 ·refine(D7g false h g f (j c) w).mono ?_
  rintro e w' ⟨a,d⟩;subst c;rw[i]at a;exact⟨a,d⟩
 ·refine(E2k false h g f w).mono ?_
  rintro e w' ⟨r,hr,a,d⟩;have:=(hr m c l).2 (k c);subst this;rw[i]at a;exact⟨a,d⟩
end Go.Proofs.YtmkkibaacclhnaaGreatDoor
