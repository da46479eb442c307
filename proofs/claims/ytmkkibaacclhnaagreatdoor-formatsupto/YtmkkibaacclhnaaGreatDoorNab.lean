/-
  Part Nab.
-/
import Derived.Test.YtmkkibaacclhnaaGreatDoorProg
import Derived.WalkKit
import Derived.WalkSpells
import Derived.WalkLawsBesides
import Derived.ArgAppend
import Derived.Deep.QuietTactic
import Derived.BigQuiet
import Derived.RegionTactic
namespace Go.Proofs.YtmkkibaacclhnaaGreatDoor
open Go.RowKit
set_option maxHeartbeats 16000000
abbrev LU8:=List UInt8
theorem bqF {α:Type} [BEq α] [LawfulBEq α] {a b:α} (h:a≠b):(a==b)=false:=beq_eq_false_iff_ne.2 h
theorem dcT {p:Prop} [Decidable p] (h:p):decide p=true:=decide_eq_true h
theorem dcF {p:Prop} [Decidable p] (h:¬p):decide p=false:=decide_eq_false h
def V (n:Nat):Nat:=if n/4503599627370496=0 then n else(4503599627370496+n % 4503599627370496)*2^(n/4503599627370496-1)
theorem E8s (E m:Nat) (h:(E=0/\m<=9007199254740992)\/(4503599627370496<=m/\m<=9007199254740992)):V (E*4503599627370496+m)=m*2^E:=by
 unfold V;by_cases d:m<4503599627370496
 ·obtain⟨rfl,_⟩:E=0/\m<=9007199254740992:=by omega
  rw[if_pos (by omega)];simp
 ·by_cases c:m=9007199254740992
  ·subst c
   have b:(E*4503599627370496+9007199254740992)/4503599627370496=E+2:=by omega
   have a:(E*4503599627370496+9007199254740992) % 4503599627370496=0:=by omega
   rw[b,a,if_neg (by omega),show E+2-1=E+1 from by omega,Nat.pow_succ];omega
  ·have b:(E*4503599627370496+m)/4503599627370496=E+1:=by omega
   have a:(E*4503599627370496+m) % 4503599627370496=m-4503599627370496:=by omega
   rw[b,a,if_neg (by omega),show E+1-1=E from by omega,show 4503599627370496+(m-4503599627370496)=m from by omega]
theorem F9x (n:Nat):∃E m,n=E*4503599627370496+m/\V n=m*2^E/\V (n+1)=(m+1)*2^E/\((E=0/\m<9007199254740992)\/(4503599627370496<=m/\m<9007199254740992)):=by
 by_cases h:n/4503599627370496=0
 ·refine⟨0,n,by omega,?_,?_,.inl ⟨rfl,by omega⟩⟩
  ·have:=E8s 0 n (.inl ⟨rfl,by omega⟩);simpa using this
  ·have:=E8s 0 (n+1) (.inl ⟨rfl,by omega⟩);simpa using this
 ·have e:n=(n/4503599627370496-1)*4503599627370496+(4503599627370496+n % 4503599627370496):=by omega
  refine⟨n/4503599627370496-1,4503599627370496+n % 4503599627370496,e,?_,?_,.inr ⟨by omega,by omega⟩⟩
  ·have:=E8s (n/4503599627370496-1) (4503599627370496+n % 4503599627370496) (.inr ⟨by omega,by omega⟩)
   rwa[<-e]at this
  ·have:=E8s (n/4503599627370496-1) (4503599627370496+n % 4503599627370496+1) (.inr ⟨by omega,by omega⟩)
   rw[<-Nat.add_assoc,<-e]at this;exact this
theorem C2n (n:Nat):V n<V (n+1):=by
 obtain⟨E,m,_,a,b,_⟩:=F9x n;rw[a,b,Nat.add_mul];have:=Nat.two_pow_pos E;omega
theorem F9y {a b:Nat} (h:a<=b):V a<=V b:=by
 induction b with
 |zero=>obtain rfl:a=0:=by omega
        exact Nat.le_refl _
 |succ b ih=>
  by_cases e:a=b+1
  ·rw[e];exact Nat.le_refl _
  ·exact Nat.le_trans (ih (by omega)) (Nat.le_of_lt (C2n b))
theorem F6a {a b:Nat} (h:a<b):V a<V b:=Nat.lt_of_lt_of_le (C2n a) (F9y h)
theorem F9z:V 0=0:=by simp[V]
def mid (r:Nat):Nat:=V r+V (r+1)
theorem C7i {a b:Nat} (h:a<b):mid a<mid b:=by
 have c:=F6a h;have d:=F6a (show a+1<b+1 by omega);unfold mid;omega
def Rnd (X Y r:Nat):Prop:=
 (r=0\/mid (r-1)*Y<2*X\/(mid (r-1)*Y=2*X/\r % 2=0))/\(2*X<mid r*Y\/(2*X=mid r*Y/\r % 2=0))
theorem Rnd.le {X Y r s:Nat} (j:0<Y) (c:Rnd X Y r) (k:Rnd X Y s):s<=r:=by
 rcases Nat.lt_or_ge r s with g|h
 ·exfalso
  have a:=c.2;have b:=k.1
  have i:mid r<=mid (s-1):=by
   by_cases e:r=s-1
   ·rw[<-e];exact Nat.le_refl _
   ·exact Nat.le_of_lt (C7i (by omega))
  have d:mid r*Y<=mid (s-1)*Y:=Nat.mul_le_mul_right _ i;have n:2*X=mid r*Y/\r % 2=0:=by omega
  have f:mid (s-1)*Y=2*X/\s % 2=0:=by omega
  have l:mid r=mid (s-1):=Nat.eq_of_mul_eq_mul_right j (by omega)
  have m:r=s-1:=by
   by_cases e:r=s-1
   ·exact e
   ·have:=C7i (show r<s-1 by omega);omega
  omega
 ·exact h
theorem Rnd.uniq {X Y r s:Nat} (b:0<Y) (a:Rnd X Y r) (c:Rnd X Y s):r=s:=Nat.le_antisymm (c.le b a) (a.le b c)
theorem G0a {X Y D R m E r:Nat} (l:0<Y) (k:0<D) (I:R<D) (J:(E=0/\m<9007199254740992)\/(4503599627370496<=m/\m<9007199254740992))
 (B:X*D=(m*D+R)*2^E*Y) (hr:r=E*4503599627370496+m+(if D<2*R\/(2*R=D/\m % 2=1)then 1 else 0)):Rnd X Y r:=by
 have z:=Nat.two_pow_pos E;have u:V (E*4503599627370496+m)=m*2^E:=E8s E m (by omega);have w:V (E*4503599627370496+m+1)=(m+1)*2^E:=by rw[Nat.add_assoc];exact E8s E (m+1) (by omega)
 obtain⟨c,p⟩:∃c,c=E*4503599627370496+m:=⟨_,rfl⟩;rw[<-p]at u w hr;have y:c % 2=m % 2:=by omega
 have n:0<2^E*Y:=Nat.mul_pos z l;have d:X*D=(m*D+R)*(2^E*Y):=by rw[B,Nat.mul_assoc]
 obtain⟨Z,e⟩:∃Z,2^E*Y=Z:=⟨_,rfl⟩;rw[e]at d n
 have C:m*Z<=X:=by
  refine Nat.le_of_mul_le_mul_right ?_ k;rw[d,Nat.mul_right_comm];exact Nat.mul_le_mul_right _ (by omega)
 have A:X<(m+1)*Z:=by
  refine Nat.lt_of_mul_lt_mul_right (a:=D) ?_;rw[d,Nat.mul_right_comm];exact Nat.mul_lt_mul_of_pos_right (by rw[Nat.add_mul];omega) n
 have g:mid c*Y=(2*m+1)*Z:=by
  unfold mid;rw[u,w,<-Nat.add_mul,Nat.mul_assoc,e];congr 1;omega
 have i:∀a b:Nat,(a<b↔(2*m*D+a)*Z<(2*m*D+b)*Z):=λa b=>
  ⟨λh=>Nat.mul_lt_mul_of_pos_right (by omega) n,λh=>by have:=Nat.lt_of_mul_lt_mul_right h;omega⟩
 have v:2*X*D=(2*m*D+2*R)*Z:=by rw[Nat.mul_assoc,d,<-Nat.mul_assoc,Nat.mul_add,<-Nat.mul_assoc]
 have t:mid c*Y*D=(2*m*D+D)*Z:=by rw[g,Nat.mul_right_comm,Nat.add_mul,Nat.one_mul]
 have G:2*X<mid c*Y↔2*R<D:=by
  rw[i (2*R) D,<-v,<-t];exact⟨λh=>Nat.mul_lt_mul_of_pos_right h k,λh=>Nat.lt_of_mul_lt_mul_right h⟩
 have x:mid c*Y<2*X↔D<2*R:=by
  rw[i D (2*R),<-v,<-t];exact⟨λh=>Nat.mul_lt_mul_of_pos_right h k,λh=>Nat.lt_of_mul_lt_mul_right h⟩
 have o:c=0\/mid (c-1)*Y<2*X:=by
  by_cases F:c=0
  ·exact .inl F
  ·right
   have H:V (c-1)<V c:=F6a (by omega);have s:mid (c-1)<2*(m*2^E):=by unfold mid;rw[show c-1+1=c from by omega];omega
   have q:mid (c-1)*Y<2*(m*2^E)*Y:=Nat.mul_lt_mul_of_pos_right s l;rw[Nat.mul_assoc,Nat.mul_assoc,e]at q;omega
 have j:2*X<mid (c+1)*Y:=by
  have H:V (c+1)<V (c+1+1):=C2n _;have s:2*((m+1)*2^E)<mid (c+1):=by unfold mid;omega
  have q:2*((m+1)*2^E)*Y<mid (c+1)*Y:=Nat.mul_lt_mul_of_pos_right s l;rw[Nat.mul_assoc,Nat.mul_assoc,e]at q;omega
 by_cases f:D<2*R\/(2*R=D/\m % 2=1)
 ·rw[if_pos f]at hr
  subst hr;refine⟨.inr ?_,.inl j⟩;rw[Nat.add_sub_cancel];rcases f with f|⟨f,K⟩
  ·exact .inl (x.2 f)
  ·exact .inr ⟨by omega,by omega⟩
 ·rw[if_neg f,Nat.add_zero]at hr
  subst hr;refine⟨?_,?_⟩
  ·rcases o with h|h
   ·exact .inl h
   ·exact .inr (.inl h)
  ·by_cases h:2*R<D
   ·exact .inl (G.2 h)
   ·exact .inr ⟨by omega,by omega⟩
structure Fr (S:Nat->Prop) (w w':World):Prop where
 os:w'.os=w.os
 tape:w'.tape=w.tape
 output:w'.output=w.output
 size:w.heap.size<=w'.heap.size
 block:∀k,k<w.heap.size->¬S k->w'.heap[k]? =w.heap[k]?
theorem Fr.refl (S:Nat->Prop) (w:World):Fr S w w:=⟨rfl,rfl,rfl,Nat.le_refl _,λ_ _ _=>rfl⟩
theorem Fr.trans {S:Nat->Prop} {a b c:World} (h:Fr S a b) (k:Fr S b c):Fr S a c:=
 ⟨k.os.trans h.os,k.tape.trans h.tape,k.output.trans h.output,Nat.le_trans h.size k.size,λi hi hs=>(k.block i (Nat.lt_of_lt_of_le hi h.size) hs).trans (h.block i hi hs)⟩
theorem Fr.trans' {S T:Nat->Prop} {a b c:World} (h:Fr S a b) (k:Fr T b c) (e:∀i,T i->S i\/a.heap.size<=i):Fr S a c:=
 ⟨k.os.trans h.os,k.tape.trans h.tape,k.output.trans h.output,Nat.le_trans h.size k.size,λi hi hs=>
  (k.block i (Nat.lt_of_lt_of_le hi h.size) (λht=>by rcases e i ht with d|d;exact hs d;omega)).trans (h.block i hi hs)⟩
theorem Fr.mono {S T:Nat->Prop} {a b:World} (h:Fr S a b) (c:∀i,S i->T i):Fr T a b:=
 ⟨h.os,h.tape,h.output,h.size,λi hi ht=>h.block i hi (λhs=>ht (c i hs))⟩
theorem Fr.drew {S:Nat->Prop} {a w:World} (h:Fr S a w):Fr S a w.drew:=⟨h.os,h.tape,h.output,h.size,h.block⟩
theorem Fr.drewN {S:Nat->Prop} {a w:World} (h:Fr S a w) (n:Nat):Fr S a (w.drewN n):=⟨h.os,h.tape,h.output,h.size,h.block⟩
theorem Fr.alloc {S:Nat->Prop} {a w:World} (h:Fr S a w) (o:Obj):Fr S a (w.alloc o):=
 ⟨h.os,h.tape,h.output,by have:=h.size;simp;omega,λi hi hs=>(Below.heap_alloc w o i (Nat.lt_of_lt_of_le hi h.size)).trans (h.block i hi hs)⟩
theorem Fr.setCell {S:Nat->Prop} {a w:World} (h:Fr S a w) {p:Addr} (c:S p.block\/a.heap.size<=p.block) (u:Value):Fr S a (w.setCell p u):=
 ⟨h.os,h.tape,h.output,by have:=h.size;simpa[World.setCell]using this,λi hi hs=>
  (Below.heap_setCell w p u i (by rintro rfl;rcases c with b|b;exact hs b;omega)).trans (h.block i hi hs)⟩
theorem Fr.grown {S:Nat->Prop} {a w w':World} {b:Option Nat} (h:Fr S a w) (c:w.grownBy w' b) (hr:∀k,b=some k->S k\/a.heap.size<=k):Fr S a w':=
 ⟨c.os.trans h.os,c.tape.trans h.tape,c.output.trans h.output,Nat.le_trans h.size c.size,λi hi hs=>
  (c.block i (Nat.lt_of_lt_of_le hi h.size) (λe=>by rcases hr i e.symm with d|d;exact hs d;omega)).trans (h.block i hi hs)⟩
theorem Fr.cell {S:Nat->Prop} {w w':World} (h:Fr S w w') {p:Addr} (a:p.block<w.heap.size) (b:¬S p.block):w'.cell? p=w.cell? p:=World.cell?_of_block (w:=w) (h.block p.block a b)
theorem Fr.heap {S:Nat->Prop} {w w':World} (h:Fr S w w') {k:Nat} {o:Obj} (a:w.heap[k]? =some o) (b:¬S k):w'.heap[k]? =some o:=(h.block k (lt_of_block a) b).trans a
theorem Fr.below {w w':World} (h:Fr (λ_=>False) w w'):Below w.heap.size w w':=⟨h.os,h.tape,h.output,h.size,λk hk=>h.block k hk id⟩
theorem Fr.ofBelow {S:Nat->Prop} {w w':World} (h:Below w.heap.size w w'):Fr S w w':=⟨h.os,h.tape,h.output,h.size,λk hk _=>h.block k hk⟩
def val:List Nat->Nat
 |[]=>0
 |x::r=>x+4294967296*val r
def A1w (ws:List Nat):Prop:=∀x∈ws,x<4294967296
def Top (ws:List Nat):Prop:=ws.getLast? ≠some 0
def vs (ws:List Nat):List Value:=ws.map (λx:Nat=>Value.int .u32 (x:Int))
theorem A8a (a b:List Nat):val (a++b)=val a+4294967296^a.length*val b:=by
 induction a with
 |nil=>simp[val]
 |cons x r ih=>simp only[List.cons_append,val,ih,List.length_cons,Nat.pow_succ,Nat.mul_add,Nat.add_assoc];congr 2;rw[<-Nat.mul_assoc,Nat.mul_comm 4294967296]
theorem A5q (a:List Nat) (x:Nat):val (a++[x])=val a+4294967296^a.length*x:=by rw[A8a];simp[val]
theorem C7j (a:List Nat) (h:A1w a):val a<4294967296^a.length:=by
 induction a with
 |nil=>simp[val]
 |cons x r ih=>
  have b:=ih (λy hy=>h y (List.mem_cons_of_mem _ hy));have c:=h x List.mem_cons_self;simp only[val,List.length_cons,Nat.pow_succ];omega
theorem B8p (ws:List Nat):(vs ws).length=ws.length:=by simp[vs]
theorem B8q (a b:List Nat):vs (a++b)=vs a++vs b:=by simp[vs]
def A6f (w:World) (b g:Nat) (ws:List Nat):Prop:=
 ∃cap T,w.heap[b]? =some (.cells #[.slice (some ⟨g,0,none⟩) ws.length cap] T (0,0))/\w.ownsRow 0 127 1 (.slice (some ⟨g,0,none⟩) ws.length cap) ws.length (vs ws)/\b≠g
theorem A9a {w w':World} {v:Value} {n:Nat} {xs:List Value} {g cap:Nat} (e:v=.slice (some ⟨g,0,none⟩) n cap) (h:w.ownsRow 0 127 1 v n xs) (i:w'.heap[g]? =w.heap[g]?):w'.ownsRow 0 127 1 v n xs:=by
 obtain⟨k,c⟩:=h;refine⟨k,?_⟩;rcases c with c|⟨l,d,b,a,f,j,r⟩
 ·exact Or.inl c
 ·rw[e]at a;simp at a;obtain⟨rfl,rfl⟩:=a
  exact Or.inr ⟨g,cap,b,e,f,i.trans j,r⟩
theorem A2a {w:World} {n:Nat} {xs:List Value} {base g cap:Nat} {e:TypeId} {size:Nat} (h:w.ownsRow base e size (.slice (some ⟨g,0,none⟩) n cap) n xs):n<=cap:=by
 rcases h.2 with⟨f,_⟩|⟨i,a,c,b,_,_,d,_⟩
 ·simp at f
 ·simp at b;obtain⟨rfl,rfl⟩:=b;exact d
theorem A9u {w:World} {n:Nat} {xs:List Value} {g cap:Nat} (h:w.ownsRow 0 127 1 (.slice (some ⟨g,0,none⟩) n cap) n xs):g<w.heap.size:=(h.lt g rfl).2
theorem A6f.frame {S:Nat->Prop} {w w':World} {b g:Nat} {ws:List Nat} (h:A6f w b g ws) (a:Fr S w w') (d:¬S b) (i:¬S g):A6f w' b g ws:=by
 obtain⟨cap,T,e,c,f⟩:=h;exact⟨cap,T,a.heap e d,A9a rfl c (a.block g (A9u c) i),f⟩
theorem A6f.drewN {w:World} {b g:Nat} {ws:List Nat} (h:A6f w b g ws) (n:Nat):A6f (w.drewN n) b g ws:=h
theorem A6f.lt {w:World} {b g:Nat} {ws:List Nat} (h:A6f w b g ws):b<w.heap.size/\g<w.heap.size/\b≠g:=by
 obtain⟨cap,T,a,d,c⟩:=h;exact⟨lt_of_block a,A9u d,c⟩
theorem A1j {w:World} {base e size:Nat} {v:Value} {n:Nat} {xs:List Value} (h:w.ownsRow base e size v n xs):w.ownsRow 0 e size v n xs:=by
 obtain⟨d,b⟩:=h;refine⟨d,?_⟩;rcases b with b|⟨g,cap,a,f,i,c⟩
 ·exact .inl b
 ·exact .inr ⟨g,cap,a,f,Nat.zero_le _,c⟩
theorem B6u {P:Program} (w:World) (t D e:TypeId) (i:TypeInfo) (z:Value) (size d:Nat) (F:P.underlying t=some (.slice e)) (E:P.info? e=some i) (I:i.zero=some z)
 (h:i.size=size) (A:i.bytes=d) (x:z.cells.size=size) (B:0<size)
 (v:Value) (n:Nat) (xs:List Value) (f:w.ownsRow 0 e size v n xs)
 (a:Addr) (m c:Nat) (b:List Value) (H:b.length=m*size) (l:∀j u,b[j]? =some u->w.cell? (a.add j)=some u) (J:∀u∈b,u.oneCell'=true)
 (y:n+m<=maxLen) (o:(n+m)*d<=140737488355328):
 ∃q w',(Builtin.append_ #[t,t] D #[v,.slice (some a) m c]).run P w=.ok q w'/\w'.ownsRow 0 e size q (n+m) (xs++b)/\w.grownBy w' v.ownBlock/\
  (∀g',q.ownBlock=some g'->v.ownBlock=some g'\/w.heap.size<=g'):=by
 rcases f.2 with⟨rfl,rfl⟩|⟨g,cap,L,rfl,K,S,O,N,M,G⟩
 ·have Q:xs=[]:=List.eq_nil_of_length_eq_zero (by simpa using f.1)
  subst Q;obtain⟨q,w',C,s,p,R⟩:=run_append_own (P:=P) w w.heap.size t D e i z size d F E I h A x B _ 0 [] (World.ownsRow_nil w _ e size) a m c b H l J y o (Nat.le_refl _);exact⟨q,w',C,A1j s,p,λg' hg'=>.inr (s.lt g' hg').1⟩
 ·by_cases r:n+m<=cap
  ·obtain⟨w',C,s,p⟩:=run_append_fits (P:=P) w 0 t D e i size F E h g n cap xs f a m c b H l J r
   exact⟨_,w',C,s,p,λg' hg'=>.inl hg'⟩
  ·obtain⟨q,w',C,s,p⟩:=run_append_arg_grows (P:=P) w t D e i z size d F E I h A x B ⟨g,0,none⟩ n cap xs f.1 (f.cells (g:=g) rfl) a m c b H l (by omega) y o
   exact⟨q,w',C,A1j s,⟨p.os,p.tape,p.output,p.size,λk hk _=>p.block k hk (by simp)⟩,λg' hg'=>.inr (s.lt g' hg').1⟩
theorem A0g {P:Program} (w:World) {b:Array Oper} {rest:List Oper} {o:Oper} {a:Act} {Q:Exit->Act->World->Prop} (f:o.guard=none) (s x:Operand) (t:TypeId)
 (g:o.op=.call {callee:=.builtin .append,args:=#[s,x],argTypes:=#[t,t]})
 (e:TypeId) (i:TypeInfo) (z:Value) (size bytes:Nat) (ht:P.underlying t=some (.slice e)) (hi:P.info? e=some i) (hz:i.zero=some z)
 (hsize:i.size=size) (hby:i.bytes=bytes) (hzs:z.cells.size=size) (hsz:0<size)
 (v:Value) (n:Nat) (xs:List Value) (hs:a.eval s=v) (hown:w.ownsRow 0 e size v n xs)
 (ad:Addr) (m c:Nat) (news:List Value) (hx:a.eval x=.slice (some ad) m c) (hl:news.length=m*size) (hnews:∀j u,news[j]? =some u->w.cell? (ad.add j)=some u) (h1:∀u∈news,u.oneCell'=true)
 (h63:n+m<=maxLen) (hbytes:(n+m)*bytes<=140737488355328)
 (h:∀d w',w'.ownsRow 0 e size d (n+m) (xs++news)->w.grownBy w' v.ownBlock->(∀g',d.ownBlock=some g'->v.ownBlock=some g'\/w.heap.size<=g')->wpList P b Q rest (a.put o.dst d) w'):wpList P b Q (o::rest) a w:=by
 refine wpList_plain f λ_ hK=>?_
 obtain⟨d,w',hr,p,l,k⟩:=B6u (P:=P) w t o.type e i z size bytes ht hi hz hsize hby hzs hsz v n xs hown ad m c news hl hnews h1 h63 hbytes;unfold Oper.wp execOp;simp only[g,resolve,invoke,builtin,Sem.run_bind,Sem.run_pure,Result.andThen_ok,List.map_toArray,List.map_cons,List.map_nil,hs,hx,hr];exact hK _ _ (h d w' p l k)
theorem A4g {w:World} {base:Nat} {e:TypeId} {size:Nat} {v:Value} {k:Nat} {xs:List Value} (h:w.ownsRow base e size v (k+1) xs):∃g cap,v=.slice (some ⟨g,0,none⟩) (k+1) cap:=by
 rcases h.2 with⟨_,b⟩|⟨g,cap,_,a,_⟩
 ·omega
 ·exact⟨g,cap,a⟩
theorem A6f.put {w:World} {b g cap T:Nat} {u:Value} {ws:List Nat} (d:w.heap[b]? =some (.cells #[u] T (0,0))) (c:w.ownsRow 0 127 1 (.slice (some ⟨g,0,none⟩) ws.length cap) ws.length (vs ws)) (a:b≠g):
 A6f (w.setCell ⟨b,0,none⟩ (.slice (some ⟨g,0,none⟩) ws.length cap)) b g ws:=
 ⟨cap,T,one_setCell d,A9a rfl c (Below.heap_setCell _ _ _ _ (by simpa using a.symm)),a⟩
theorem A1w.nil:A1w []:=by intro x a;cases a
theorem A1w.append {a b:List Nat} (d:A1w a) (e:A1w b):A1w (a++b):=by
 intro x c;rw[List.mem_append]at c;rcases c with c|c
 ·exact d x c
 ·exact e x c
theorem A1w.left {a b:List Nat} (h:A1w (a++b)):A1w a:=λx hx=>h x (List.mem_append_left _ hx)
theorem A1w.one {x:Nat} (h:x<4294967296):A1w [x]:=by intro y a;simp at a;omega
theorem A1w.take {a:List Nat} (h:A1w a) (k:Nat):A1w (a.take k):=λx hx=>h x (List.mem_of_mem_take hx)
theorem E0u (a:List Nat) (b:A1w a) (h:a=[]\/4294967296^(a.length-1)<=val a):Top a:=by
 rcases List.eq_nil_or_concat a with rfl|⟨i,x,rfl⟩
 ·simp[Top]
 ·rcases h with h|h
  ·simp at h
  ·rw[List.concat_eq_append]at*
   rw[A5q]at h;have:=C7j i b.left;simp only[List.length_append,List.length_cons,List.length_nil,Nat.zero_add,Nat.add_sub_cancel]at h;intro e;simp at e;subst e;omega
theorem B8r (a:List Nat) (b:Top a) (h:a≠[]):4294967296^(a.length-1)<=val a:=by
 rcases List.eq_nil_or_concat a with rfl|⟨i,x,rfl⟩
 ·exact absurd rfl h
 ·rw[List.concat_eq_append]at*
  rw[A5q];simp only[List.length_append,List.length_cons,List.length_nil,Nat.zero_add,Nat.add_sub_cancel];have c:x≠0:=by intro e;apply b;simp[e]
  exact Nat.le_trans (Nat.le_mul_of_pos_right _ (by omega)) (Nat.le_add_left _ _)
theorem F4q (a:List Nat) (b:Top a) (k:Nat) (h:val a<4294967296^k):a.length<=k:=by
 by_cases e:a=[]
 ·simp[e]
 ·have:=B8r a b e
  have c:4294967296^(a.length-1)<4294967296^k:=Nat.lt_of_le_of_lt this h;have:=(Nat.pow_lt_pow_iff_right (by omega:1<4294967296)).1 c;omega
theorem E8t (a:List Nat) (b:Top a) (h:val a=0):a=[]:=by
 have:=F4q a b 0 (by omega);exact List.eq_nil_of_length_eq_zero (by omega)
theorem A8h (a b:List Nat) (c:A1w a) (d:Top b) (h:a.length<b.length):val a<val b:=by
 have f:=C7j a c;have i:=B8r b d (by intro e;subst e;simp at h);have g:4294967296^a.length<=4294967296^(b.length-1):=Nat.pow_le_pow_right (by omega) (by omega);omega
theorem A9v (a b:List Nat) (c:A1w a) (h:a.length=b.length) (i:Nat) (j:i<a.length) (e:a.drop (i+1)=b.drop (i+1)) (k:a[i]<b[i]):val a<val b:=by
 have g:a=a.take i++(a[i]::a.drop (i+1)):=by rw[List.getElem_cons_drop,List.take_append_drop]
 have d:b=b.take i++(b[i]::b.drop (i+1)):=by rw[List.getElem_cons_drop,List.take_append_drop]
 have f:=C7j (a.take i) (c.take i);rw[g,d,A8a,A8a,e];simp only[List.length_take,val];rw[Nat.min_eq_left (by omega),Nat.min_eq_left (by omega)];rw[List.length_take,Nat.min_eq_left (by omega)]at f;have:4294967296^i*(a[i]+4294967296*val (b.drop (i+1))+1)<=4294967296^i*(b[i]+4294967296*val (b.drop (i+1))):=Nat.mul_le_mul_left _ (by omega);rw[Nat.mul_add,Nat.mul_one]at this;omega
def Nt (w:World) (b g N:Nat):Prop:=∃ws,A6f w b g ws/\A1w ws/\Top ws/\val ws=N
theorem Nt.frame {S:Nat->Prop} {w w':World} {b g N:Nat} (h:Nt w b g N) (a:Fr S w w') (c:¬S b) (e:¬S g):Nt w' b g N:=by
 obtain⟨ws,d,f⟩:=h;exact⟨ws,d.frame a c e,f⟩
theorem Nt.lt {w:World} {b g N:Nat} (h:Nt w b g N):b<w.heap.size/\g<w.heap.size/\b≠g:=h.choose_spec.1.lt
def Sm (N:Nat):Prop:=N<4294967296^1000
theorem Sm.len {ws:List Nat} (h:Sm (val ws)) (a:Top ws):ws.length<=1000:=F4q ws a 1000 h
theorem Tryz.info127:(Tryz.prog.info? 127).map (λi=>(i.zero,i.size,i.bytes))=some (some (.int .u32 0),1,4):=by kernel_rfl
theorem E8u (x f y:Nat) (c:x<4294967296) (b:f<4294967296) (d:y<4294967296):IntKind.u64.wrap ((y:Int)+IntKind.u64.wrap ((x:Int)*(f:Int)))=((y+x*f:Nat):Int):=by
 have:x*f<=4294967295*4294967295:=Nat.mul_le_mul (by omega) (by omega);have a:((x*f:Nat):Int)=(x:Int)*(f:Int):=Int.natCast_mul x f;rw[<-a,IntWalk.u64_in ((x*f:Nat):Int) (by omega),IntWalk.u64_in _ (by omega)];omega
theorem F4r (a ws:List Nat) (f c y k:Nat) (d:k<ws.length) (b:a.length=k) (h:val a+4294967296^k*y=f*val (ws.take k)+c):
 val (a++[(y+ws[k]*f) % 4294967296])+4294967296^(k+1)*((y+ws[k]*f)/4294967296)=f*val (ws.take (k+1))+c:=by
 have e:ws.take (k+1)=ws.take k++[ws[k]]:=by rw[List.take_succ_eq_append_getElem d]
 rw[e,A5q,A5q,b,List.length_take_of_le (by omega),Nat.pow_succ,Nat.mul_assoc,Nat.add_assoc,<-Nat.mul_add,Nat.mod_add_div,Nat.mul_add,Nat.mul_add];rw[<-Nat.mul_assoc f,Nat.mul_comm f (4294967296^k),Nat.mul_assoc,Nat.mul_comm f ws[k]];omega
theorem F6b {w wr:World} {b g cap T:Nat} {ws h:List Nat} {f c y k:Nat} (l:A1w ws) (o:k<ws.length) (a:h.length=k) (n:A1w h) (u:y<4294967296) (v:f<4294967296)
 (q:val h+4294967296^k*y=f*val (ws.take k)+c) (t:wr.heap[b]? =some (.cells #[.slice (some ⟨g,0,none⟩) ws.length cap] T (0,0)))
 (r:wr.ownsRow 0 127 1 (.slice (some ⟨g,0,none⟩) ws.length cap) ws.length (vs (h++ws.drop k))) (s:Fr (λi=>i=b\/i=g) w wr) (p:b≠g):
 ∃(d:List Nat) (m:Nat),d.length=k+1/\A1w d/\m<4294967296/\Hid (val d+4294967296^(k+1)*m=f*val (ws.take (k+1))+c)/\(((y+ws[k]*f:Nat):Int)/4294967296=(m:Int))/\
  (wr.setCell ⟨g,k,none⟩ (.int .u32 (((y+ws[k]*f:Nat):Int) % 4294967296))).heap[b]? =some (.cells #[.slice (some ⟨g,0,none⟩) ws.length cap] T (0,0))/\
  (wr.setCell ⟨g,k,none⟩ (.int .u32 (((y+ws[k]*f:Nat):Int) % 4294967296))).ownsRow 0 127 1 (.slice (some ⟨g,0,none⟩) ws.length cap) ws.length (vs (d++ws.drop (k+1)))/\
  Fr (λi=>i=b\/i=g) w (wr.setCell ⟨g,k,none⟩ (.int .u32 (((y+ws[k]*f:Nat):Int) % 4294967296))):=by
 have j:ws[k]<4294967296:=l _ (List.getElem_mem o);have z:ws[k]*f<=4294967295*4294967295:=Nat.mul_le_mul (by omega) (by omega);refine⟨h++[(y+ws[k]*f) % 4294967296],(y+ws[k]*f)/4294967296,by simp[a],?_,by omega,F4r h ws f c y k o a q,by omega,?_,?_,s.setCell (.inl (.inr rfl)) _⟩
 ·intro x j;rw[List.mem_append]at j;rcases j with j|j
  ·exact n x j
  ·simp at j;omega
 ·rw[Below.heap_setCell _ _ _ _ (by simpa using p)];exact t
 ·have:=(r.stored k (.int .u32 (((y+ws[k]*f:Nat):Int) % 4294967296))).1
  have e:(vs (h++ws.drop k)).set k (.int .u32 (((y+ws[k]*f:Nat):Int) % 4294967296))=vs (h++[(y+ws[k]*f) % 4294967296]++ws.drop (k+1)):=by
   rw[List.drop_eq_getElem_cons o,vs,vs];simp only[List.map_append,List.map_cons,List.append_assoc,List.cons_append,List.nil_append];rw[List.set_append_right _ _ (by simp[a]),List.length_map,a,Nat.sub_self,List.set_cons_zero];congr 3
  rwa[e]at this
theorem C4g (b g:Nat) (ws:List Nat) (f c:Nat) (w:World) (hl:ws.length<=1000000) (Q:f<4294967296) (hc:c<4294967296) (A:A1w ws) (hN:A6f w b g ws):
 Calls Tryz.prog 122 #[.pointer (some ⟨b,0,none⟩),.int .u32 f,.int .u32 c] w λe w'=>e=.returned (.tuple #[])/\∃r j y,A6f w' b r (if y=0 then j else j++[y])/\j.length=ws.length/\A1w j/\y<4294967296/\val j+4294967296^ws.length*y=f*val ws+c/\Fr (λi=>i=b\/i=g) w w'/\(r=g\/w.heap.size<=r):=by
 obtain⟨cap,T,Z,ho,p⟩:=hN;have a0:=cell_of_one Z;go_enter Tryz.func122,Tryz.ntmps122;go_wp2
 go_loopw [6,16] (λcy i wr=>∃(k:Nat) (j:List Nat) (y:Nat),k<=ws.length/\j.length=k/\A1w j/\y<4294967296/\Hid (val j+4294967296^k*y=f*val (ws.take k)+c)/\cy=.int .u64 y/\i=.int .i64 k/\
  wr.heap[b]? =some (.cells #[.slice (some ⟨g,0,none⟩) ws.length cap] T (0,0))/\wr.ownsRow 0 127 1 (.slice (some ⟨g,0,none⟩) ws.length cap) ws.length (vs (j++ws.drop k))/\Fr (λi=>i=b\/i=g) w wr)
  (λ_ i _=>ws.length-(intOf i).toNat)
 case atStart=>exact⟨0,[],c,Nat.zero_le _,rfl,(by intro x I;cases I),hc,(by simp[Hid,val]),rfl,rfl,Z,(by simpa using ho),Fr.refl _ _⟩
 case round=>
  obtain⟨k,j,y,W,d,s,F,L,rfl,rfl,a,l,C⟩:=hrel;have V:=cell_of_one a;by_cases q:k<ws.length
  ·have I:ws[k]<4294967296:=A _ (List.getElem_mem q)
   have a1:wr.cell? ⟨g,k,none⟩=some (.int .u32 (ws[k]:Nat)):=by
    rw[l.cellAt k (by omega),vs,List.getElem?_map,List.getElem?_append_right (by omega),d,Nat.sub_self,List.getElem?_drop,Nat.add_zero,List.getElem?_eq_getElem q];rfl
   have a3:=l.frozenAt k;obtain⟨M,y',r1,r2,r3,r4,O,X,R,U⟩:=F6b A q d s F Q L.out a l C p;have R5:Hid _:=O;have R6:Hid _:=X;have R7:Hid _:=R;have R8:Hid _:=U;clear O X R U l C L;go_wp2;go_roundw
   case rel=>
    rw[E8u _ _ _ I Q F];exact⟨k+1,M,y',q,r1,r2,r3,r4,by rw[R5.out],by go_num,R6.out,R7.out,R8.out⟩
   case measure=>simp[intOf];omega
  ·have H:k=ws.length:=by omega
   have K:Hid _:=L;subst H;simp only[List.drop_length,List.append_nil]at l;rw[List.take_length]at K;by_cases v:y=0
   ·subst v
    go_wp2;go_end0;exact⟨rfl,g,j,0,⟨cap,T,by rw[if_pos rfl,d];exact a,by rw[if_pos rfl,d];exact l,p⟩,d,s,by omega,K.out,C,.inl rfl⟩
   ·have a2:((y:Int)!=0)=true:=by simp;omega
    obtain⟨i0,hi,J,N,G⟩:=info_parts Tryz.info127
    go_wp2_with (first
     |(at_builtin;refine A0g _ rfl _ _ 211 rfl 127 i0 (.int .u32 0) 1 4 Tryz.underlying211 hi J N G rfl (by decide) _ _ _ rfl (l.alloc _) ⟨wr.heap.size,0,none⟩ 1 1 [.int .u32 y] rfl rfl ?c1 ?c2 ?c3 ?c4 ?_)
     |go_in)
    case c1=>exact cell_one_new _ _ _
    case c2=>intro u Y;simp at Y;subst Y;rfl
    case c3=>unfold maxLen;omega
    case c4=>omega
    intro v' w1 n o m;obtain⟨r,z,rfl⟩:=A4g n;have E:=m r rfl;clear m
    have t:w1.heap[b]? =some (.cells #[.slice (some ⟨g,0,none⟩) ws.length cap] T (0,0)):=by
     rw[o.block b (by have:=lt_of_block a;simp;omega) (by simpa[Value.ownBlock]using p),Below.heap_alloc _ _ _ (lt_of_block a)];exact a
    have P:=cell_of_one t;have S:=free_of_one t;go_wp2;go_end0
    have B:b≠r:=by
     rcases E with h|h
     ·simp[Value.ownBlock]at h;rw[<-h];exact p
     ·have:=lt_of_block a;omega
    refine⟨rfl,r,j,y,?_,d,s,F,K.out,((C.alloc _).grown o (λk W=>.inl (.inr (by simpa[Value.ownBlock]using W.symm)))).setCell (.inl (.inl rfl)) _,?_⟩
    ·rw[if_neg v]
     have D:(j++[y]).length=ws.length+1:=by simp[d]
     have:=A6f.put (ws:=j++[y]) (cap:=z) t (by rw[D,B8q];exact n) B;rwa[D]at this
    ·rcases E with h|h
     ·simp[Value.ownBlock]at h;exact .inl h.symm
     ·have:=C.size;exact .inr (by omega)
theorem A6w (b g N f c:Nat) (w:World) (v:Sm N) (p:f<4294967296) (j:0<f) (n:c<4294967296) (q:Nt w b g N):
 Calls Tryz.prog 122 #[.pointer (some ⟨b,0,none⟩),.int .u32 f,.int .u32 c] w λe w'=>e=.returned (.tuple #[])/\∃d,Nt w' b d (f*N+c)/\Fr (λi=>i=b\/i=g) w w'/\(d=g\/w.heap.size<=d):=by
 obtain⟨ws,z,A,l,rfl⟩:=q;have B:=v.len l;refine(C4g b g ws f c w (by omega) p n A z).mono ?_;rintro e w' ⟨rfl,d,s,y,x,h,k,t,o,u,r⟩;refine⟨rfl,d,⟨_,x,?_,?_,?_⟩,u,r⟩
 ·by_cases a:y=0
  ·rw[if_pos a];exact k
  ·rw[if_neg a];exact k.append (A1w.one t)
 ·by_cases a:y=0
  ·rw[if_pos a]
   subst a;refine E0u s k ?_;by_cases m:ws=[]
   ·left;subst m;exact List.eq_nil_of_length_eq_zero (by simpa using h)
   ·right
    have:=B8r ws l m;rw[h];have C:val ws<=f*val ws:=Nat.le_mul_of_pos_left _ j;omega
  ·rw[if_neg a];simp[Top,a]
 ·by_cases a:y=0
  ·rw[if_pos a];subst a;omega
  ·rw[if_neg a,A5q,h];exact o
def E0v (w:World) (b:Nat):Nat:=match w.cell? ⟨b,0,none⟩with|some (.slice _ n _)=>n|_=>0
theorem C7k {w:World} {b n cap T:Nat} {a:Option Addr} (h:w.heap[b]? =some (.cells #[.slice a n cap] T (0,0))):E0v w b=n:=by simp[E0v,cell_of_one h]
theorem D0v {w:World} {g n cap:Nat} {xs:List Nat} {x:Nat} (h:w.ownsRow 0 127 1 (.slice (some ⟨g,0,none⟩) (n+1) cap) (n+1) (vs (xs++[x]))):w.ownsRow 0 127 1 (.slice (some ⟨g,0,none⟩) n cap) n (vs xs):=by
 obtain⟨a,e⟩:=h;simp[vs]at a;refine⟨by simp[vs,a],?_⟩;rcases e with⟨_,e⟩|⟨p,c,b,d,j,k,o,m,f,i⟩
 ·omega
 ·simp at d;obtain⟨rfl,rfl⟩:=d
  refine .inr ⟨g,cap,b,rfl,j,k,by omega,m,f,?_⟩;have:=congrArg (List.take n) i;rw[List.take_take,Nat.min_eq_left (by omega),B8q,List.take_append_of_le_length (by simp[vs,a]),List.take_of_length_le (l:=vs xs) (by simp[vs,a])]at this;simpa using this
theorem E8v (b g:Nat) (ws:List Nat) (w:World) (y:ws.length<=1000000) (q:A6f w b g ws):
 Calls Tryz.prog 167 #[.pointer (some ⟨b,0,none⟩)] w λe w'=>e=.returned (.tuple #[])/\∃us,A6f w' b g us/\(∃k,ws=us++List.replicate k 0)/\Top us/\Fr (λi=>i=b) w w':=by
 obtain⟨cap,T,t,s,d⟩:=q;go_enter Tryz.func167,Tryz.ntmps167;go_wp2
 go_loopw [] (λwr=>∃us:List Nat,(∃k,ws=us++List.replicate k 0)/\wr.heap[b]? =some (.cells #[.slice (some ⟨g,0,none⟩) us.length cap] T (0,0))/\wr.ownsRow 0 127 1 (.slice (some ⟨g,0,none⟩) us.length cap) us.length (vs us)/\Fr (λi=>i=b) w wr)
  (λwr=>E0v wr b)
 case atStart=>exact⟨ws,⟨0,by simp⟩,t,s,Fr.refl _ _⟩
 case round=>
  obtain⟨us,⟨k,j⟩,a,c,m⟩:=hrel;have l:=cell_of_one a;have v:=free_of_one a;have f:us.length<=1000000:=by have:=congrArg List.length j;simp at this;omega
  rcases List.eq_nil_or_concat us with rfl|⟨xs,x,rfl⟩
  ·have p:decide ((0:Int)<((([]:List Nat).length:Nat):Int))=false:=by simp
   simp only[List.length_nil]at*
   go_wp2_with fail;go_quiet (fail)
   go_wp2;go_end0;exact⟨rfl,[],⟨cap,T,a,c,d⟩,⟨k,j⟩,by simp[Top],m.drewN nq⟩
  ·rw[List.concat_eq_append]at*
   simp only[List.length_append,List.length_cons,List.length_nil,Nat.zero_add]at a c l f;have o:=A2a c;have p:(0:Int)<((xs.length+1:Nat):Int):=by omega
   have r:wr.cell? ⟨g,xs.length,none⟩=some (.int .u32 (x:Nat)):=by
    rw[c.cellAt xs.length (by omega),vs,List.getElem?_map];simp
   by_cases n:x=0
   ·subst n
    go_wp2_with fail;go_quiet (fail)
    go_wp2;go_region;go_wp2;have h:((wr.drewN (nq+1)).setCell ⟨b,0,none⟩ (.slice (some ⟨g,0,none⟩) xs.length cap)).heap[b]? =some (.cells #[.slice (some ⟨g,0,none⟩) xs.length cap] T (0,0)):=one_setCell (w:=wr.drewN (nq+1)) a;go_roundw
    case rel=>
     exact⟨xs,⟨k+1,by rw[j,List.append_assoc];rfl⟩,h,A9a rfl (D0v c) (Below.heap_setCell (wr.drewN (nq+1)) _ _ _ (by simpa using d.symm)),(m.drewN _).setCell (.inl rfl) _⟩
    case measure=>rw[C7k h,C7k a];omega
   ·have u:((x:Int)==0)=false:=by simp;omega
    go_wp2_with fail;go_quiet (fail)
    go_wp2;go_end0;exact⟨rfl,xs++[x],⟨cap,T,by rw[List.length_append];exact a,by rw[List.length_append];exact c,d⟩,⟨k,j⟩,by simp[Top,n],m.drewN nq⟩
theorem B4c (k:Nat):val (List.replicate k 0)=0:=by induction k with|zero=>rfl|succ k ih=>simp[List.replicate_succ,val,ih]
theorem E0w (b g:Nat) (ws:List Nat) (w:World) (c:ws.length<=1000000) (a:A1w ws) (f:A6f w b g ws):
 Calls Tryz.prog 167 #[.pointer (some ⟨b,0,none⟩)] w λe w'=>e=.returned (.tuple #[])/\Nt w' b g (val ws)/\Fr (λi=>i=b) w w':=by
 refine(E8v b g ws w c f).mono ?_;rintro e w' ⟨rfl,us,j,⟨k,rfl⟩,d,h⟩;exact⟨rfl,⟨us,j,a.left,d,by rw[A8a,B4c,Nat.mul_zero,Nat.add_zero]⟩,h⟩
theorem B4d (n:Nat) (w:World) (m:n<18446744073709551616):
 Calls Tryz.prog 111 #[.int .u64 n] w λe w'=>∃b g,e=.returned (.pointer (some ⟨b,0,none⟩))/\Nt w' b g n/\Fr (λ_=>False) w w'/\w.heap.size<=b/\w.heap.size<=g:=by
 go_enter Tryz.func111,Tryz.ntmps111
 go_wp2_with fail
 have c:A6f ((w.alloc (Obj.cells #[Value.int IntKind.u32 ((n:Int) % 4294967296),Value.int IntKind.u32 ((n:Int)/4294967296)] 127)).alloc (Obj.cells #[Value.slice (some {block:=w.heap.size,off:=0}) 2 2] 213)) (w.heap.size+1) w.heap.size [n % 4294967296,n/4294967296]:=by
  refine⟨2,213,?_,?_,by omega⟩
  ·have:=heap_alloc_new (w.alloc (Obj.cells #[Value.int IntKind.u32 ((n:Int) % 4294967296),Value.int IntKind.u32 ((n:Int)/4294967296)] 127)) (Obj.cells #[Value.slice (some {block:=w.heap.size,off:=0}) 2 2] 213)
   rw[World.size_alloc]at this;exact this
  ·exact(World.ownsRow_lit w (size:=1) #[Value.int IntKind.u32 ((n:Int) % 4294967296),Value.int IntKind.u32 ((n:Int)/4294967296)] 2 (Nat.zero_le _) (by decide) rfl).alloc _
 have j:Fr (λ_=>False) w ((w.alloc (Obj.cells #[Value.int IntKind.u32 ((n:Int) % 4294967296),Value.int IntKind.u32 ((n:Int)/4294967296)] 127)).alloc (Obj.cells #[Value.slice (some {block:=w.heap.size,off:=0}) 2 2] 213)):=((Fr.refl _ w).alloc _).alloc _;refine(E0w _ _ _ _ (by simp) ?_ c).mono ?_
 ·intro x h;simp at h;omega
 ·rintro e w' ⟨rfl,a,f⟩
  have d:val [n % 4294967296,n/4294967296]=n:=by simp only[val];omega
  rw[d]at a;have l:Hid _:=a;have k:Hid _:=f;clear a f c d;go_wp2;go_ret;exact⟨_,_,rfl,l.out,j.trans' k.out (λi hi=>.inr (by omega)),by omega,Nat.le_refl _⟩
theorem B2e {w:World} {g cap:Nat} {ws:List Nat} (a:w.ownsRow 0 127 1 (.slice (some ⟨g,0,none⟩) ws.length cap) ws.length (vs ws)) (k:Nat) (b:k<ws.length):w.cell? ⟨g,k,none⟩=some (.int .u32 (ws[k]:Nat)):=by
 rw[a.cellAt k (by omega),vs,List.getElem?_map,List.getElem?_eq_getElem b];rfl
theorem D0w (b g c h:Nat) (ws ms:List Nat) (w:World) (V:ws.length<=1000000) (L:ms.length<=1000000) (p:A1w ws) (o:A1w ms) (v:Top ws) (u:Top ms) (H:A6f w b g ws) (P:A6f w c h ms):
 Calls Tryz.prog 120 #[.pointer (some ⟨b,0,none⟩),.pointer (some ⟨c,0,none⟩)] w λe w'=>∃r:Int,e=.returned (.int .i64 r)/\(r<0↔val ws<val ms)/\(r=0↔val ws=val ms)/\ -1000000<=r/\r<=1000000/\∃m,w'=w.drewN m:=by
 obtain⟨cap,T,R,A,Q⟩:=H;obtain⟨C,S,s,n,B⟩:=P;have D:=cell_of_one R;have y:=cell_of_one s;by_cases l:ws.length=ms.length
 ·have E:((ws.length:Int)!=(ms.length:Int))=false:=by simp;omega
  have x:ws.length<=ms.length:=by omega
  have z:ms.length<=ws.length:=by omega
  have t:Hid (ws.length=ms.length):=l;clear l;go_enter Tryz.func120,Tryz.ntmps120
  go_wp2_with fail;go_quiet (fail)
  go_wp2
  go_loopw [5] (λi wr=>∃k:Nat,k<=ws.length/\i=.int .i64 ((k:Int)-1)/\Hid (ws.drop k=ms.drop k)/\∃m,wr=w.drewN m) (λi _=>(intOf i+1).toNat)
  case atStart=>exact⟨ws.length,Nat.le_refl _,rfl,by simp[Hid];exact(by rw[t.out];simp),_,rfl⟩
  case round=>
   obtain⟨k,U,rfl,q,m,rfl⟩:=hrel;rcases Nat.eq_zero_or_pos k with rfl|O
   ·go_wp2
    go_ret;have:ws=ms:=by simpa[Hid]using q
    exact⟨0,rfl,by rw[this];omega,by simp[this],by omega,by omega,by first|exact⟨_,rfl⟩|(simp only[World.drewN_drewN];exact⟨_,rfl⟩)⟩
   ·obtain⟨j,rfl⟩:∃j,k=j+1:=⟨k-1,by omega⟩
    have K:=B2e A j (by omega);have M:=B2e n j (by omega);have f:j<ws.length:=by omega
    have d:j<ms.length:=by omega
    have J:=A2a A;have I:=A2a n;rcases Nat.lt_trichotomy ws[j] ms[j]with a|a|a
    ·go_wp2_with fail;go_quiet (fail)
     go_wp2;go_ret;have:=A9v ws ms p t.out j f q.out a;exact⟨-1,rfl,by omega,by omega,by omega,by omega,by first|exact⟨_,rfl⟩|(simp only[World.drewN_drewN];exact⟨_,rfl⟩)⟩
    ·have G:ms[j]<=ws[j]:=by omega
     have F:ws[j]<=ms[j]:=by omega
     have N:Hid _:=a;clear a
     go_wp2_with fail;go_quiet (fail)
     go_wp2_with fail;go_quiet (fail)
     go_wp2;go_roundw
     case rel=>exact⟨j,by omega,by go_num,by show _=_;rw[List.drop_eq_getElem_cons f,List.drop_eq_getElem_cons d,N.out,q.out],by first|exact⟨_,rfl⟩|(simp only[World.drewN_drewN];exact⟨_,rfl⟩)⟩
     case measure=>simp[intOf]<;>omega
    ·go_wp2_with fail;go_quiet (fail)
     go_wp2_with fail;go_quiet (fail)
     go_wp2;go_ret;have:=A9v ms ws o t.symm j d q.symm a;exact⟨1,rfl,by omega,by omega,by omega,by omega,by first|exact⟨_,rfl⟩|(simp only[World.drewN_drewN];exact⟨_,rfl⟩)⟩
 ·have E:((ws.length:Int)!=(ms.length:Int))=true:=by simp;omega
  go_enter Tryz.func120,Tryz.ntmps120
  go_wp2_with fail;go_quiet (fail)
  go_wp2_with fail;go_quiet (fail)
  go_wp2;go_ret;rcases Nat.lt_or_gt_of_ne l with a|a
  ·have:=A8h ws ms p u a
   exact⟨_,rfl,by omega,by omega,by omega,by omega,by first|exact⟨_,rfl⟩|(simp only[World.drewN_drewN];exact⟨_,rfl⟩)⟩
  ·have:=A8h ms ws o v a
   exact⟨_,rfl,by omega,by omega,by omega,by omega,by first|exact⟨_,rfl⟩|(simp only[World.drewN_drewN];exact⟨_,rfl⟩)⟩
theorem D6k (b g c h N M:Nat) (w:World) (n:Sm N) (a:Sm M) (i:Nt w b g N) (l:Nt w c h M):
 Calls Tryz.prog 120 #[.pointer (some ⟨b,0,none⟩),.pointer (some ⟨c,0,none⟩)] w λe w'=>∃r:Int,e=.returned (.int .i64 r)/\(r<0↔N<M)/\(r=0↔N=M)/\ -1000000<=r/\r<=1000000/\∃m,w'=w.drewN m:=by
 obtain⟨ws,o,p,d,rfl⟩:=i;obtain⟨ms,j,k,f,rfl⟩:=l;exact D0w b g c h ws ms w (by have:=n.len d;omega) (by have:=a.len f;omega) p k d f o j
end Go.Proofs.YtmkkibaacclhnaaGreatDoor
