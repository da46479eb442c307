/-
  Part Ws.
-/
import Derived.Test.YtmkkibaacclhnaaGreatDoorPop
import Derived.Test.YtmkkibaacclhnaaGreatDoorPg
import Derived.Test.YtmkkibaacclhnaaGreatDoorStr
import Derived.Shelf.RegionOpenPlain
import Derived.Lib.Bytealg
import Derived.Laws.Externs
import Derived.Test.YtmkkibaacclhnaaGreatDoorPl
import Derived.Lib.Builder
import Derived.Test.YtmkkibaacclhnaaGreatDoorPd
import Derived.Lib.AppendStr
namespace Go.Proofs.YtmkkibaacclhnaaGreatDoor
open Go.RowKit
set_option maxRecDepth 100000
set_option maxHeartbeats 16000000
theorem A1a {w:World} {e n k cap:Nat} {a:Option Addr} {size:Nat} {xs:List Value} (h:w.ownsRow 0 e size (.slice a n cap) k xs):n=k:=by
 rcases h.2 with⟨h,b⟩|⟨_,_,_,h,_⟩
 ·simp at h;omega
 ·simp at h;exact h.2.1
theorem A5s {w:World} {e n k cap:Nat} {a:Option Addr} {size:Nat} {xs:List Value} (h:w.ownsRow 0 e size (.slice a n cap) k xs) (b:0<k):∃g,a=some ⟨g,0,none⟩:=by
 rcases h.2 with⟨_,c⟩|⟨g,_,_,h,_⟩
 ·omega
 ·simp at h;exact⟨g,h.1⟩
def D1w (i:Nat):Value:=.int .i64 (i:Int)
structure DR (w0 w:World) (blk n cap:Nat) (xs:List Nat):Prop where
 fr:Fr (λi=>i=blk) w0 w
 row:w.ownsRow 0 3 1 (.slice (some ⟨blk,0,none⟩) n cap) n (xs.map D1w)
theorem DR.len {w0 w:World} {a n cap:Nat} {xs:List Nat} (h:DR w0 w a n cap xs):xs.length=n:=by
 have:=h.row.1;simpa using this
theorem DR.drewN {w0 w:World} {a n cap:Nat} {xs:List Nat} (h:DR w0 w a n cap xs) (k:Nat):DR w0 (w.drewN k) a n cap xs:=⟨h.fr.drewN k,h.row⟩
theorem DR.drew {w0 w:World} {a n cap:Nat} {xs:List Nat} (h:DR w0 w a n cap xs):DR w0 w.drew a n cap xs:=⟨h.fr.drew,h.row⟩
theorem DR.cell {w0 w:World} {a n cap:Nat} {xs:List Nat} (h:DR w0 w a n cap xs) (j x:Nat) (b:xs[j]? =some x):w.cell? ⟨a,j,none⟩=some (.int .i64 (x:Int)):=
 A2c h.row j _ (by rw[List.getElem?_map,b];rfl)
theorem DR.free {w0 w:World} {a n cap:Nat} {xs:List Nat} (h:DR w0 w a n cap xs) (j:Nat):w.frozen? ⟨a,j,none⟩=false:=C5k h.row j
theorem Tryz.mixedR:Tryz.prog.follows Departure.mixedOrders=true:=by kernel_rfl
theorem D4m (P Q R:List Nat) (x y:Nat):((P++x::(Q++y::R)).set P.length y).set (P.length+1+Q.length) x=P++y::(Q++x::R):=by
 rw[List.set_append_right _ _ (Nat.le_refl _),Nat.sub_self,List.set_cons_zero,List.set_append_right _ _ (by omega),show P.length+1+Q.length-P.length=Q.length+1 by omega,List.set_cons_succ,List.set_append_right _ _ (Nat.le_refl _),Nat.sub_self,List.set_cons_zero]
theorem DR.swap {w0 w:World} {a n cap:Nat} {P Q R:List Nat} {x y:Nat} (h:DR w0 w a n cap (P++x::(Q++y::R))) (i j:Nat) (b:i=P.length) (c:j=P.length+1+Q.length):
 DR w0 ((w.setCell ⟨a,i,none⟩ (.int .i64 (y:Int))).setCell ⟨a,j,none⟩ (.int .i64 (x:Int))) a n cap (P++y::(Q++x::R)):=by
 subst b c;refine⟨(h.fr.setCell (p:=⟨a,P.length,none⟩) (.inl rfl) _).setCell (p:=⟨a,P.length+1+Q.length,none⟩) (.inl rfl) _,?_⟩;have:=B1s (B1s h.row P.length (D1w y)) (P.length+1+Q.length) (D1w x);rw[<-List.map_set,<-List.map_set,D4m]at this;exact this
theorem DR.swap' {w0 w:World} {a n cap:Nat} {P Q R:List Nat} {x y:Nat} (h:DR w0 w a n cap (P++x::(Q++y::R))) (i j:Nat) (b:i=P.length) (c:j=P.length+1+Q.length):
 DR w0 ((w.setCell ⟨a,j,none⟩ (.int .i64 (x:Int))).setCell ⟨a,i,none⟩ (.int .i64 (y:Int))) a n cap (P++y::(Q++x::R)):=by
 subst b c;refine⟨(h.fr.setCell (p:=⟨a,P.length+1+Q.length,none⟩) (.inl rfl) _).setCell (p:=⟨a,P.length,none⟩) (.inl rfl) _,?_⟩;have:=B1s (B1s h.row (P.length+1+Q.length) (D1w x)) P.length (D1w y);rw[<-List.map_set,<-List.map_set,List.set_comm _ _ (by omega),D4m]at this;exact this
theorem B1u (P Q:List Nat) (x:Nat):(P++x::Q)[P.length]? =some x:=by
 rw[List.getElem?_append_right (Nat.le_refl _),Nat.sub_self];rfl
theorem B9q (P Q R:List Nat) (x y:Nat):(P++x::(Q++y::R))[P.length+1+Q.length]? =some y:=by
 rw[List.getElem?_append_right (by omega),show P.length+1+Q.length-P.length=Q.length+1 by omega,List.getElem?_cons_succ,List.getElem?_append_right (Nat.le_refl _),Nat.sub_self];rfl
theorem B0t (w0 w:World) (c n cap k:Nat) (X A M B Y:List Nat) (g:Value) (h:DR w0 w c n cap (X++A++M++B++Y)) (P:A.length=k) (O:B.length=k) (hn:n<=10000000):
 Calls Tryz.prog 224 #[.slice (some ⟨c,0,none⟩) n cap,.int .i64 (X.length:Int),.int .i64 ((X.length+k+M.length:Nat):Int),.int .i64 (k:Int),g] w λe w'=>e=.returned (.tuple #[])/\DR w0 w' c n cap (X++B++M++A++Y):=by
 have m:=h.len;simp only[List.length_append]at m;have H:=hid h;have D:=hid (And.intro P O);obtain⟨a,F⟩:∃a,X.length=a:=⟨_,rfl⟩;obtain⟨b,J⟩:∃b,X.length+k+M.length=b:=⟨_,rfl⟩;rw[J,F];have W:b+k<=n:=by omega
 have V:a+k<=b:=by omega
 have Q:=hid (And.intro F J);clear h P O m F J;go_enter Tryz.func224,Tryz.ntmps224;go_wp2
 go_loopw [10] (λs wr=>∃(i:Nat) (t v o z:List Nat),i<=k/\s=.int .i64 (i:Int)/\Hid (A=t++v/\B=o++z/\t.length=i/\o.length=i)/\Hid (DR w0 wr c n cap (X++o++v++M++t++z++Y))) (λs _=>k-(intOf s).toNat)
 case atStart=>exact⟨0,[],A,[],B,by omega,rfl,hid ⟨rfl,rfl,rfl,rfl⟩,by simpa using H⟩
 case round=>
  obtain⟨i,t,v,o,z,S,rfl,u,K⟩:=hrel;by_cases a4:i<k
  ·obtain⟨x,f,I⟩:∃x f,v=x::f:=by
    cases v with
    |nil=>have d:=u.out;have C:=D.out;simp at d;rw[d.1]at C;omega
    |cons x f=>exact⟨x,f,rfl⟩
   obtain⟨y,E,G⟩:∃y E,z=y::E:=by
    cases z with
    |nil=>have d:=u.out;have C:=D.out;simp at d;rw[d.2.1]at C;omega
    |cons x f=>exact⟨x,f,rfl⟩
   subst I G;have r:DR w0 wr c n cap ((X++o)++x::((f++M++t)++y::(E++Y))):=by simpa using K.out
   have l:(X++o).length=a+i:=by have d:=u.out;have C:=Q.out;rw[List.length_append];omega
   have j:(X++o).length+1+(f++M++t).length=b+i:=by
    have d:=u.out;have C:=Q.out;have R:=D.out;have h4:=congrArg List.length d.1;simp only[List.length_append,List.length_cons]at h4 ⊢;omega
   obtain⟨p,N⟩:∃p,a+i=p:=⟨_,rfl⟩;obtain⟨q,L⟩:∃q,b+i=q:=⟨_,rfl⟩;rw[N]at l;rw[L]at j;have c1:=r.cell p x (by rw[<-l];exact B1u _ _ _);have U:=r.cell q y (by rw[<-j];exact B9q _ _ _ _ _);have f1:=r.free p;have f2:=r.free q;have Z:(a:Int)+(i:Int)=(p:Int):=by omega
   have qi:(b:Int)+(i:Int)=(q:Int):=by omega
   have a0:IntKind.i64.wrap ((a:Int)+(i:Int))=(p:Int):=by rw[Z];exact IntWalk.i64_in _ (by omega)
   have a1:IntKind.i64.wrap ((b:Int)+(i:Int))=(q:Int):=by rw[qi];exact IntWalk.i64_in _ (by omega)
   have T:p<n:=by omega
   have a5:q<n:=by omega
   have a2:(p:Int)<(n:Int):=by omega
   have a3:(q:Int)<(n:Int):=by omega
   have S1:=hid (r.swap p q l.symm j.symm);have S2:=hid (r.swap' p q l.symm j.symm)
   have c3:(wr.setCell ⟨c,p,none⟩ (.int .i64 (y:Int))).cell? ⟨c,q,none⟩=some (.int .i64 (y:Int)):=by
    rw[World.cell?_setCell_other _ _ _ _ (by intro e;simp only[Addr.mk.injEq]at e;omega)];exact U
   have f3:(wr.setCell ⟨c,p,none⟩ (.int .i64 (y:Int))).frozen? ⟨c,q,none⟩=false:=by rw[World.frozen?_setCell];exact f2
   have mixed:=Tryz.mixedR;have HE:=hid (And.intro l j);clear r l j N L S;go_wp2
   go_big_region_o
   go_wp2;go_roundw
   case rel=>
    refine⟨i+1,t++[x],f,o++[y],E,by omega,by go_num,hid ?_,hid ?_⟩
    ·have d:=u.out
     simp[d.1,d.2.1,d.2.2.1,d.2.2.2]
    ·have:=S1.drew
     simpa using this
   case measure=>simp[intOf];omega
  ·obtain rfl:i=k:=by omega
   go_wp2;go_end0;refine⟨rfl,?_⟩;have d:=u.out;have C:=D.out
   have l:v=[]:=by
    have:=congrArg List.length d.1;simp at this;exact List.eq_nil_of_length_eq_zero (by omega)
   have j:z=[]:=by
    have:=congrArg List.length d.2.1;simp at this;exact List.eq_nil_of_length_eq_zero (by omega)
   subst l j;have R:=K.out;simp at d;rw[d.1,d.2.1];simpa using R
theorem C8f (l:List Nat) (k:Nat) (h:k<=l.length):∃a b,l=a++b/\a.length=k:=⟨l.take k,l.drop k,(List.take_append_drop k l).symm,by simp[h]⟩
def B3q (w0 w:World) (blk n cap:Nat) (X A B Y:List Nat) (m i j:Nat):Prop:=
 ∃P A' B' S,A'.length=i/\B'.length=j/\0<i/\0<j/\X.length+P.length+i=m/\B++A=P++B'++A'++S/\DR w0 w blk n cap (X++P++A'++B'++S++Y)
theorem B3q.bound {w0 w:World} {a n cap m i j:Nat} {X A B Y:List Nat} (h:B3q w0 w a n cap X A B Y m i j):0<i/\0<j/\i<=m/\m+j<=n:=by
 obtain⟨P,A',e,S,g,l,k,f,c,d,b⟩:=h;have:=b.len;simp only[List.length_append]at this;omega
theorem B3q.more {w0 w:World} {a n cap m i j:Nat} {X A B Y:List Nat} {g:Value} (h:B3q w0 w a n cap X A B Y m i j) (s:j<i) (l:n<=10000000):
 Calls Tryz.prog 224 #[.slice (some ⟨a,0,none⟩) n cap,.int .i64 ((m-i:Nat):Int),.int .i64 (m:Int),.int .i64 (j:Int),g] w λe w'=>e=.returned (.tuple #[])/\B3q w0 w' a n cap X A B Y m (i-j) j:=by
 obtain⟨P,A',f,S,u,v,y,t,x,q,o⟩:=h;obtain⟨k,c,rfl,b⟩:=C8f A' j (by omega);rw[List.length_append]at u;have p:DR w0 w a n cap ((X++P)++k++c++f++(S++Y)):=by simpa using o
 have:=B0t w0 w a n cap j (X++P) k c f (S++Y) g p b v l;rw[List.length_append,show X.length+P.length=m-i by omega,show m-i+j+c.length=m by omega]at this;refine this.mono ?_;rintro e w' ⟨r,d⟩;refine⟨r,P++f,c,k,S,by omega,b,by omega,t,by rw[List.length_append];omega,by simpa using q,by simpa using d⟩
theorem B3q.less {w0 w:World} {a n cap m i j:Nat} {X A B Y:List Nat} {g:Value} (h:B3q w0 w a n cap X A B Y m i j) (t:i<j) (k:n<=10000000):
 Calls Tryz.prog 224 #[.slice (some ⟨a,0,none⟩) n cap,.int .i64 ((m-i:Nat):Int),.int .i64 ((m+j-i:Nat):Int),.int .i64 (i:Int),g] w λe w'=>e=.returned (.tuple #[])/\B3q w0 w' a n cap X A B Y m i (j-i):=by
 obtain⟨P,A',r,S,u,x,v,y,p,q,l⟩:=h;obtain⟨b,f,rfl,c⟩:=C8f r (j-i) (by omega);rw[List.length_append]at x;have o:DR w0 w a n cap ((X++P)++A'++b++f++(S++Y)):=by simpa using l
 have:=B0t w0 w a n cap i (X++P) A' b f (S++Y) g o u (by omega) k;rw[List.length_append,show X.length+P.length=m-i by omega,show m-i+i+b.length=m+j-i by omega]at this;refine this.mono ?_;rintro e w' ⟨s,d⟩;refine⟨s,P,f,b,A'++S,by omega,c,v,by omega,p,by simpa using q,by simpa using d⟩
theorem B3q.last {w0 w:World} {a n cap m i:Nat} {X A B Y:List Nat} {g:Value} (h:B3q w0 w a n cap X A B Y m i i) (d:n<=10000000):
 Calls Tryz.prog 224 #[.slice (some ⟨a,0,none⟩) n cap,.int .i64 ((m-i:Nat):Int),.int .i64 (m:Int),.int .i64 (i:Int),g] w λe w'=>e=.returned (.tuple #[])/\DR w0 w' a n cap (X++B++A++Y):=by
 obtain⟨P,A',c,S,o,p,s,r,q,k,f⟩:=h;have j:DR w0 w a n cap ((X++P)++A'++[]++c++(S++Y)):=by simpa using f
 have:=B0t w0 w a n cap i (X++P) A' [] c (S++Y) g j o p d;rw[List.length_append,show X.length+P.length=m-i by omega,show m-i+i+([]:List Nat).length=m by simp;omega]at this;refine this.mono ?_;rintro e w' ⟨l,b⟩;refine⟨l,?_⟩;rw[List.append_assoc X B A,k];simpa using b
theorem D7n (w0 w:World) (a n cap m b:Nat) (X A B Y:List Nat) (g:Value) (h:DR w0 w a n cap (X++A++B++Y)) (J:0<A.length) (I:0<B.length) (L:X.length+A.length=m) (Z:m+B.length=b) (C:n<=10000000):
 Calls Tryz.prog 219 #[.slice (some ⟨a,0,none⟩) n cap,.int .i64 (X.length:Int),.int .i64 (m:Int),.int .i64 (b:Int),g] w λe w'=>e=.returned (.tuple #[])/\DR w0 w' a n cap (X++B++A++Y):=by
 have M:B3q w0 w a n cap X A B Y m A.length B.length:=⟨[],A,B,[],rfl,rfl,J,I,by simpa using L,by simp,by simpa using h⟩;have o:=h.len;simp only[List.length_append]at o;have H:(m:Int)-(X.length:Int)=(A.length:Int):=by omega
 have G:(b:Int)-(m:Int)=(B.length:Int):=by omega
 have HM:=hid (λ(i j:Nat) (w':World) (h:B3q w0 w' a n cap X A B Y m i j) (f:j<i)=>h.more (g:=g) f C);have T:=hid (λ(i j:Nat) (w':World) (h:B3q w0 w' a n cap X A B Y m i j) (f:i<j)=>h.less (g:=g) f C);have U:=hid (λ(i:Nat) (w':World) (h:B3q w0 w' a n cap X A B Y m i i)=>h.last (g:=g) C);have O:=hid M;have Q:m<=10000000:=by omega
 have W:b<=10000000:=by omega
 generalize K:X.length=x at*;generalize A.length=al at*;generalize B.length=bl at*;have HX:=hid K;clear h J I L Z o M K;go_enter Tryz.func219,Tryz.ntmps219;go_wp2
 go_loopw [10,11] (λs t wr=>∃(i j:Nat),s=.int .i64 (i:Int)/\t=.int .i64 (j:Int)/\Hid (B3q w0 wr a n cap X A B Y m i j)) (λs t _=>(intOf s).toNat+(intOf t).toNat)
 case atStart=>exact⟨al,bl,rfl,rfl,O⟩
 case round=>
  clear O H G;obtain⟨i,j,rfl,rfl,y⟩:=hrel;obtain⟨R,S,a0,V⟩:=y.bound;have H:(m:Int)-(i:Int)=((m-i:Nat):Int):=by omega
  have G:(m:Int)+(j:Int)-(i:Int)=((m+j-i:Nat):Int):=by omega
  have w1:IntKind.i64.wrap ((m:Int)+(j:Int))=(m:Int)+(j:Int):=IntWalk.i64_in _ (by omega);by_cases f:i=j
  ·subst f
   have l:=U.out _ _ y.out;generalize m-i=p at*;have u:=hid l;clear l
   go_wp2_with (first|(go_at_call 224;refine Calls.mono u.out ?_;rintro x N ⟨rfl,k⟩;have v:=hid k;clear k)|fail)
   go_end0;exact⟨rfl,v.out⟩
  ·by_cases F:j<i
   ·have l:=HM.out _ _ _ y.out F
    have P:(i:Int)-(j:Int)=((i-j:Nat):Int):=by omega
    have E:¬((i:Int)=(j:Int)):=by omega
    have D:(j:Int)<(i:Int):=by omega
    have c:i-j+j<i+j:=by omega
    generalize i-j=d at*;generalize m-i=p at*;have u:=hid l;have r:=hid c;clear l c
    go_wp2_with (first|(go_at_call 224;refine Calls.mono u.out ?_;rintro x N ⟨rfl,k⟩;have v:=hid k;clear k)|fail)
    go_roundw
    case rel=>exact⟨d,j,rfl,rfl,v⟩
    case measure=>have:=r.out;simp[intOf];omega
   ·have z:i<j:=by omega
    have l:=T.out _ _ _ y.out z;have P:(j:Int)-(i:Int)=((j-i:Nat):Int):=by omega
    have E:¬((i:Int)=(j:Int)):=by omega
    have D:¬((j:Int)<(i:Int)):=by omega
    have c:i+(j-i)<i+j:=by omega
    generalize j-i=d at*;generalize m+j-i=q at*;generalize m-i=p at*;have u:=hid l;have r:=hid c;clear l c
    go_wp2_with (first|(go_at_call 224;refine Calls.mono u.out ?_;rintro x N ⟨rfl,k⟩;have v:=hid k;clear k)|fail)
    go_roundw
    case rel=>exact⟨i,d,rfl,rfl,v⟩
    case measure=>have:=r.out;simp[intOf];omega
theorem B6c (a b:LU8) (w:World):
 Calls Tryz.prog 174 #[.string (ofL a),.string (ofL b)] w λe w'=>e=.returned (.int .i64 (Lib.compareBytes a b))/\w'=w:=by
 go_enter Tryz.func174,Tryz.ntmps174;go_wp2;rw[run_callFunc_extern Tryz.func204 (by kernel_rfl) (by kernel_rfl) (by kernel_rfl) (e:=Extern.BytealgCompare.compare) (by kernel_rfl),Lib.run_compareString];simp only[Result.andThen];rw[Oper.upon_value];go_wp2;go_ret;exact⟨rfl,rfl⟩
theorem C8g (a b:LU8) (w:World):
 Calls Tryz.prog 130 #[.string (ofL a),.string (ofL b)] w λe w'=>e=.returned (.int .i64 (Lib.compareBytes a b))/\w'=w:=by
 go_enter Tryz.func130,Tryz.ntmps130
 go_wp2_with (first|(go_at_call 174;refine Calls.mono (B6c a b _) ?_;rintro x c ⟨rfl,rfl⟩)|fail)
 go_ret;exact⟨rfl,rfl⟩
structure Im where
 k:Int
 n:Int
 b:Nat
 s:LU8
def imC (x:Im):List Value:=[.int .i64 x.k,.int .i64 x.n,.int .u64 (x.b:Int),.string (ofL x.s)]
def F7g (l:List Im):List Value:=l.flatMap imC
theorem A4y (l:List Im) (i j:Nat) (x:Im) (a:l[i]? =some x) (c:j<4):(F7g l)[i*4+j]? =(imC x)[j]? :=by
 induction l generalizing i with
 |nil=>simp at a
 |cons y l ih=>
  have h:F7g (y::l)=imC y++F7g l:=rfl;have b:(imC y).length=4:=rfl;rw[h];cases i with
  |zero=>
   simp at a;subst a;rw[List.getElem?_append_left (by omega)];simp
  |succ i=>
   rw[List.getElem?_append_right (by omega),b,show(i+1)*4+j-4=i*4+j by omega];exact ih i (by simpa using a)
def B9r (w:World) (V:Value) (l:List Im):Prop:=w.ownsRow 0 29 4 V l.length (F7g l)
theorem B9r.fr {w w':World} {V:Value} {l:List Im} {S:Nat->Prop} (h:B9r w V l) (a:Fr S w w') (b:∀i,V.ownBlock=some i->¬S i):B9r w' V l:=A7e h a b
def A5y (l:List Im) (i:Nat):LU8:=((l[i]?).map (·.s)).getD []
theorem F7h (w:World) (n a b:Nat) (V:Value) (l:List Im) (o:w.heap[n]? =some (.cells #[V] 22 (0,0))) (c:B9r w V l) (q:a<l.length) (h:b<l.length) (z:l.length<=10000000):
 Calls Tryz.prog 129 #[.int .i64 (a:Int),.int .i64 (b:Int),.pointer (some ⟨n,0,none⟩)] w λe w'=>e=.returned (.int .i64 (Lib.compareBytes (A5y l a) (A5y l b)))/\∃k,w'=w.drewN k:=by
 obtain⟨g,m,cap,rfl⟩:=A0h c;obtain rfl:=A1a c;obtain⟨p,rfl⟩:=A5s c (by omega);obtain⟨x,f⟩:∃x,l[a]? =some x:=⟨l[a],List.getElem?_eq_getElem q⟩;obtain⟨y,d⟩:∃y,l[b]? =some y:=⟨l[b],List.getElem?_eq_getElem h⟩;have B:=A0a o (show(#[Value.slice (some ⟨p,0,none⟩) l.length cap])[0]? =some (.slice (some ⟨p,0,none⟩) l.length cap)from rfl);have A:=A2c c (a*4+3) (.string (ofL x.s)) (by rw[A4y l a 3 x f (by omega)];rfl);have v:=A2c c (b*4+3) (.string (ofL y.s)) (by rw[A4y l b 3 y d (by omega)];rfl);have u:(a:Int)<(l.length:Int):=by omega
 have r:(b:Int)<(l.length:Int):=by omega
 have t:=hid (λw=>C8g x.s y.s w);have j:A5y l a=x.s:=by unfold A5y;rw[f];rfl
 have i:A5y l b=y.s:=by unfold A5y;rw[d];rfl
 rw[j,i];generalize Lib.compareBytes x.s y.s=R at*;generalize x.s=xs at*;generalize y.s=ys at*;clear o c f d j i;go_enter Tryz.func129,Tryz.ntmps129;go_wp2;go_quiet ((go_at_call 130;exact Calls.quiet_of_same (t.out _)));go_wp2;go_ret;exact⟨rfl,_,rfl⟩
def A9k (vi vb:Value) (nx ind:Int) (so:Bool) (op:Nat) (ad vo:Value):Array Value:=#[vi,vb,.int .i64 nx,.int .i64 ind,.bool so,.int .i64 (op:Int),ad,vo]
structure WAt (B:Nat) (w:World) (vi vb:Value) (nx ind:Int) (so:Bool) (op:Nat) (ad vo:Value) (bs:LU8):Prop where
 blk:w.heap[B]? =some (.cells (A9k vi vb nx ind so op ad vo) 69 (0,0))
 adr:ad=.pointer none\/ad=.pointer (some ⟨B,6,none⟩)
 row:w.ownsRow 0 5 1 vo bs.length (us bs)
theorem Tryz.under64B:Tryz.prog.underlying 64=some (.pointer 67):=by kernel_rfl
theorem Tryz.under165B:Tryz.prog.underlying 165=some .unsafePointer:=by kernel_rfl
theorem Tryz.size67B:(Tryz.prog.info? 67).map (·.size)=some 2:=by kernel_rfl
theorem Tryz.lies67B:liesAt Tryz.prog Tryz.prog.depth 69 (8/Tryz.prog.cellsOf 69) 6 67 1=true:=by kernel_rfl
theorem B0u (B:Nat) (w:World) (k m:Value) (g a:Int) (so:Bool) (f:Nat) (o d:Value) (bs:LU8) (h:WAt B w k m g a so f o d bs):
 Calls Tryz.prog 71 #[.pointer (some ⟨B,6,none⟩)] w λe w'=>e=.returned (.tuple #[])/\WAt B w' k m g a so f (.pointer (some ⟨B,6,none⟩)) d bs/\Fr (λi=>i=B) w w':=by
 have v:=A0a h.blk (show(A9k k m g a so f o d)[6]? =some o from rfl);have u:=A0b (j:=6) h.blk;rcases h.adr with n|n
 ·subst n
  have H:=hid h;have q:=heap_setCell_same w B 6 _ 69 (.pointer (some ⟨B,6,none⟩)) h.blk;have t:(w.setCell ⟨B,6,none⟩ (.pointer (some ⟨B,6,none⟩))).cell? ⟨B,6,none⟩=some (.pointer (some ⟨B,6,none⟩)):=A0a q rfl;have s:=hid (show WAt B (w.setCell ⟨B,6,none⟩ (.pointer (some ⟨B,6,none⟩))) k m g a so f (.pointer (some ⟨B,6,none⟩)) d bs from⟨q,.inr rfl,A0q h.row (A8y h.row h.blk (by decide)) _⟩);have r:=hid ((Fr.refl (λi=>i=B) w).setCell (p:=⟨B,6,none⟩) (.inl rfl) (.pointer (some ⟨B,6,none⟩)));have c:w.shape? B=some (69,8):=by simp[World.shape?,h.blk,A9k]
  clear h q;obtain⟨j,l,b⟩:=Option.map_eq_some_iff.1 Tryz.size67B;go_enter Tryz.func71,Tryz.ntmps71;go_wp2;rw[Lib.run_to_unsafe w ⟨B,6,none⟩ Tryz.under64B Tryz.under165B l (by rw[b];decide) c (show 6<8 by omega)];simp only[Result.andThen];rw[Oper.upon_value];go_wp2;rw[run_callFunc_extern Tryz.func125 (by kernel_rfl) (by kernel_rfl) (by kernel_rfl) (e:=Extern.AbiNoEscape.same) (by kernel_rfl)];rw[Lib.run_noEscape];simp only[Result.andThen];rw[Oper.upon_value];go_wp2;rw[Lib.run_from_unsafe w ⟨B,6,none⟩ Tryz.under165B Tryz.under64B l c Tryz.lies67B];simp only[Result.andThen];rw[Oper.upon_value];go_wp2;go_end0;exact⟨rfl,s.out,r.out⟩
 ·subst n
  have H:=hid h;have r:=hid (Fr.refl (λi=>i=B) w);clear h;obtain⟨j,l,b⟩:=Option.map_eq_some_iff.1 Tryz.size67B;go_enter Tryz.func71,Tryz.ntmps71;go_wp2;rw[Lib.run_neq_ptr_same _ ⟨B,6,none⟩ Tryz.under64B l];simp only[Result.andThen];rw[Oper.upon_value];go_wp2;go_end0;exact⟨rfl,H.out,r.out⟩
theorem WAt.put {B:Nat} {W e:World} {j i:Value} {l d:Int} {so:Bool} {g:Nat} {k m f:Value} {bs b:LU8} (h:WAt B W j i l d so g k m bs) (n:e.heap[B]? =W.heap[B]?) (a:e.ownsRow 0 5 1 f b.length (us b)):
 WAt B (e.setCell ⟨B,7,none⟩ f) j i l d so g k f b:=by
 have c:=n.trans h.blk;exact⟨heap_setCell_same e B 7 _ 69 f c,h.adr,A0q a (A8y a c (by decide)) _⟩
def A2d (B:Nat) (w:World) (vi vb:Value) (nx ind:Int) (so:Bool) (op:Nat) (vo:Value) (bs:LU8) (w':World):Prop:=
 ∃vo',WAt B w' vi vb nx ind so op (.pointer (some ⟨B,6,none⟩)) vo' bs/\Fr (λi=>i=B\/vo.ownBlock=some i) w w'/\∀g,vo'.ownBlock=some g->vo.ownBlock=some g\/w.heap.size<=g
theorem A2d.of {B:Nat} {w W j:World} {m n:Value} {l b:Int} {so:Bool} {k:Nat} {c e:Value} {bs a:LU8} (h:WAt B W m n l b so k (.pointer (some ⟨B,6,none⟩)) c bs) (o:Fr (λi=>i=B) w W) (d:Fr (λi=>c.ownBlock=some i) W j) (f:j.ownsRow 0 5 1 e a.length (us a)) (r:∀g,e.ownBlock=some g->c.ownBlock=some g\/W.heap.size<=g):
 j.heap[B]? =some (.cells (A9k m n l b so k (.pointer (some ⟨B,6,none⟩)) c) 69 (0,0))/\A2d B w m n l b so k c a (j.setCell ⟨B,7,none⟩ e):=by
 have q:=d.block B (lt_of_block h.blk) (A8y h.row h.blk (by decide));have s:=o.size;refine⟨q.trans h.blk,e,h.put q f,?_,λg hg=>(r g hg).imp id (λh=>by omega)⟩;exact((o.mono (λi hi=>.inl hi)).trans (d.mono (λi hi=>.inr hi))).setCell (p:=⟨B,7,none⟩) (.inl (.inl rfl)) e
theorem A1r (B:Nat) (w:World) (q r:Value) (p b:Int) (so:Bool) (m:Nat) (I t:Value) (bs:LU8) (c:UInt8) (h:WAt B w q r p b so m I t bs) (Z:bs.length<=100000000000):
 Calls Tryz.prog 44 #[.pointer (some ⟨B,6,none⟩),.int .u8 (c.toNat:Int)] w λe w'=>e=.returned .nilIface/\A2d B w q r p b so m t (bs++[c]) w':=by
 have T:=hid (B0u B w q r p b so m I t bs h);obtain⟨S,M,z,F,x⟩:=info_parts Tryz.info5;obtain⟨C,g⟩:∃C:Int,(c.toNat:Int)=C:=⟨_,rfl⟩;have y:=hid (show us [c]=[.int .u8 C]from by rw[C8e,g]);rw[g];clear h g;go_enter Tryz.func44,Tryz.ntmps44
 go_wp2_with fail
 refine Calls.mono T.out ?_;rintro e Q ⟨rfl,i,J⟩;obtain⟨o,O,s,rfl⟩:=A0h i.row;have A:O=bs.length:=A1a i.row;subst A;have N:=A0a i.blk (show(A9k q r p b so m (.pointer (some ⟨B,6,none⟩)) (.slice o bs.length s))[7]? =some (.slice o bs.length s)from rfl);have R:=hid i;have U:=hid J;have n:=hid i.row;clear i J
 go_wp2_with (first
  |(at_builtin;refine A0g _ rfl _ _ 65 rfl 5 S (.int .u8 0) 1 1 Tryz.underlying65 M z F x rfl (by decide) _ _ _ rfl (n.alloc _) ⟨Q.heap.size,0,none⟩ 1 1 [.int .u8 C] rfl rfl ?c1 ?c2 ?c3 ?c4 ?_)
  |fail)
 case c1=>
  intro j u k
  match j,k with
  |0,k=>simp at k;subst k;simp[Addr.add]
  |(j+1),k=>simp at k
 case c2=>intro u K;simp at K;rcases K with rfl<;>rfl
 case c3=>unfold maxLen;omega
 case c4=>omega
 intro X w2 d a f;obtain⟨D,G,L⟩:=B2i (l:=bs) (e:=[c]) (v:=.slice o bs.length s) d y.out rfl a f;obtain⟨E,H⟩:=A2d.of R.out U.out G D L;have W:=A0a E (show(A9k q r p b so m (.pointer (some ⟨B,6,none⟩)) (.slice o bs.length s))[7]? =some (.slice o bs.length s)from rfl);have V:=A0b (j:=7) E;obtain⟨Y,n3,c3,rfl⟩:=A0h D;have P:=hid H;clear d a f D G L E H N;go_wp2;go_ret;exact⟨rfl,P.out⟩
theorem B7q {P:Program} (w:World) (t u p e:TypeId) (i:TypeInfo) (y:P.underlying t=some (.slice e)) (A:P.underlying u=some .string) (x:P.info? e=some i) (C:i.zero=some (.int .u8 0))
 (a:i.size=1) (m:i.bytes=1) (v:Value) (n:Nat) (xs:List Value) (c:w.ownsRow 0 e 1 v n xs) (s:ByteArray) (k:n+s.size<=maxLen) (d:n+s.size<=140737488355328):
 ∃r w',(Builtin.append_ #[t,u] p #[v,.string s]).run P w=.ok r w'/\w'.ownsRow 0 e 1 r (n+s.size) (xs++Lib.strCells s)/\w.grownBy w' v.ownBlock/\(∀h,r.ownBlock=some h->v.ownBlock=some h\/w.heap.size<=h):=by
 obtain⟨r,w',hr,M,F,O⟩:=Lib.run_append_own_string (P:=P) w 0 t u p e i y A x C a m v n xs c s k d (Nat.zero_le _);refine⟨r,w',hr,M,F,?_⟩;have z:n+s.size<=9223372036854775807:=by simp only[maxLen]at k;omega
 rcases c.2 with⟨rfl,rfl⟩|⟨g,cap,q,rfl,G,I,K,J,B,D⟩
 ·have L:xs=[]:=List.eq_nil_of_length_eq_zero (by simpa using c.1)
  subst L;obtain⟨N,Q,b,H,_,_⟩:=Lib.run_append_own_string (P:=P) w w.heap.size t u p e i y A x C a m (.slice none 0 0) 0 [] (World.ownsRow_nil w _ e 1) s k d (Nat.le_refl _);rw[hr]at b;injection b with e1 e2
  subst e1 e2
  exactλh f=>.inr (H.lt h f).1
 ·by_cases l:n+s.size<=cap
  ·have E:q.size=cap:=by simpa using B
   have b:=Lib.run_append_room_string (P:=P) w t u p e i y A x a g n cap q I s l (by omega);rw[hr]at b;injection b with e1 e2
   subst e1
   exactλh f=>.inl f
  ·have o:∀j u,xs[j]? =some u->w.cell? ((⟨g,0,none⟩:Addr).add j)=some u:=c.cells (g:=g) rfl
   have b:=Lib.run_append_grow_string (P:=P) w t u p e i (.int .u8 0) y A x C ⟨g,0,none⟩ n cap xs (by rw[a];simpa using c.1) o s (by omega) (by omega) (by rw[m];exact growslice_fits (by omega) (by omega));rw[hr]at b;injection b with e1 e2
   subst e1;intro h f;refine .inr ?_;have:w.heap.size=h:=by simpa[Value.ownBlock]using f
   omega
theorem B3r {P:Program} (w:World) {c:Array Oper} {rest:List Oper} {o:Oper} {a:Act} {Q:Exit->Act->World->Prop} (d:o.guard=none) (f x:Operand) (t u:TypeId)
 (k:o.op=.call {callee:=.builtin .append,args:=#[f,x],argTypes:=#[t,u]})
 (e:TypeId) (i:TypeInfo) (ht:P.underlying t=some (.slice e)) (hu:P.underlying u=some .string) (hi:P.info? e=some i) (hz:i.zero=some (.int .u8 0)) (hsize:i.size=1) (hby:i.bytes=1)
 (v:Value) (n:Nat) (xs:List Value) (hs:a.eval f=v) (hown:w.ownsRow 0 e 1 v n xs) (s:ByteArray) (hx:a.eval x=.string s) (h63:n+s.size<=maxLen) (hbytes:n+s.size<=140737488355328)
 (h:∀b w',w'.ownsRow 0 e 1 b (n+s.size) (xs++Lib.strCells s)->w.grownBy w' v.ownBlock->(∀g',b.ownBlock=some g'->v.ownBlock=some g'\/w.heap.size<=g')->wpList P c Q rest (a.put o.dst b) w'):wpList P c Q (o::rest) a w:=by
 refine wpList_plain d λ_ hK=>?_
 obtain⟨b,w',hr,j,g,l⟩:=B7q (P:=P) w t u o.type e i ht hu hi hz hsize hby v n xs hown s h63 hbytes;unfold Oper.wp execOp;simp only[k,resolve,invoke,builtin,Sem.run_bind,Sem.run_pure,Result.andThen_ok,List.map_toArray,List.map_cons,List.map_nil,hs,hx,hr];exact hK _ _ (h b w' j g l)
theorem D1x (l:LU8):Lib.strCells (ofL l)=us l:=by
 simp[Lib.strCells,us,ofL]
theorem A1k (B:Nat) (w:World) (o p:Value) (n b:Int) (so:Bool) (g:Nat) (G r:Value) (bs s:LU8) (h:WAt B w o p n b so g G r bs) (Y:bs.length+s.length<=100000000000):
 Calls Tryz.prog 42 #[.pointer (some ⟨B,6,none⟩),.string (ofL s)] w λe w'=>e=.returned (.tuple #[.int .i64 (s.length:Int),.nilIface])/\A2d B w o p n b so g r (bs++s) w':=by
 have T:=hid (B0u B w o p n b so g G r bs h);obtain⟨R,J,v,C,t⟩:=info_parts Tryz.info5;have A:=A0c s;have u:=hid (D1x s);generalize Q:ofL s=S at*;have L:=A;clear h Q;go_enter Tryz.func42,Tryz.ntmps42
 go_wp2_with fail
 refine Calls.mono T.out ?_;rintro e F ⟨rfl,f,H⟩;obtain⟨m,N,q,rfl⟩:=A0h f.row;have x:N=bs.length:=A1a f.row;subst x;have K:=A0a f.blk (show(A9k o p n b so g (.pointer (some ⟨B,6,none⟩)) (.slice m bs.length q))[7]? =some (.slice m bs.length q)from rfl);have P:=hid f;have U:=hid H;have l:=hid f.row;clear f H
 go_wp2_with (first
  |(at_builtin;refine B3r _ rfl _ _ 65 9 rfl 5 R Tryz.underlying65 Tryz.underlying9 J v C t _ _ _ rfl l.out S rfl ?c3 ?c4 ?_)
  |fail)
 case c3=>unfold maxLen;omega
 case c4=>omega
 intro M I c a d;have y:I.ownsRow 0 5 1 M (bs++s).length (us (bs++s)):=by rw[B9n,<-u.out,List.length_append];exact c
 have D:Fr (λi=>(Value.slice m bs.length q).ownBlock=some i) F I:=(Fr.refl _ F).grown a (λk hk=>.inl hk);obtain⟨z,E⟩:=A2d.of P.out U.out D y d;have W:=A0a z (show(A9k o p n b so g (.pointer (some ⟨B,6,none⟩)) (.slice m bs.length q))[7]? =some (.slice m bs.length q)from rfl);have V:=A0b (j:=7) z;obtain⟨X,Z,c3,rfl⟩:=A0h y;have O:=hid E;clear c a d y D z E K;go_wp2;go_ret2;exact⟨rfl,O.out⟩
theorem E2y (r:Nat):(A3z r).length<=4:=by
 unfold A3z
 repeat' split
 all_goals simp
theorem B0v (B:Nat) (w:World) (l m:Value) (f a:Int) (so:Bool) (c:Nat) (F s:Value) (bs:LU8) (r:Nat) (h:WAt B w l m f a so c F s bs) (V:bs.length<=99999999990) (hr:r<55296\/(57344<=r/\r<=1114111)):
 Calls Tryz.prog 126 #[.pointer (some ⟨B,6,none⟩),.int .i32 (r:Int)] w λe w'=>(∃k:Int,e=.returned (.tuple #[.int .i64 k,.nilIface]))/\A2d B w l m f a so c s (bs++A3z r) w':=by
 have N:=hid (B0u B w l m f a so c F s bs h);have d:=hid (λv w (ho:World.ownsRow w 0 5 1 v bs.length (us bs))=>C5j v bs r w ho (by omega) hr);obtain⟨E,t⟩:∃E,A3z r=E:=⟨_,rfl⟩;rw[t]at d ⊢;have P:E.length<=4:=by rw[<-t];exact E2y r
 generalize (r:Int)=R at*;clear h hr t;go_enter Tryz.func126,Tryz.ntmps126
 go_wp2_with fail
 refine Calls.mono N.out ?_;rintro e U ⟨rfl,i,H⟩;obtain⟨n,K,q,rfl⟩:=A0h i.row;have u:K=bs.length:=A1a i.row;subst u;have I:=A0a i.blk (show(A9k l m f a so c (.pointer (some ⟨B,6,none⟩)) (.slice n bs.length q))[7]? =some (.slice n bs.length q)from rfl);have G:=hid i;have O:=hid H;clear i H
 go_wp2_with fail
 refine Calls.mono (d.out _ _ G.row) ?_;rintro e M ⟨T,rfl,p,y,b⟩;obtain⟨x,A⟩:=A2d.of G.out O.out y p b;have J:=A0a x (show(A9k l m f a so c (.pointer (some ⟨B,6,none⟩)) (.slice n bs.length q))[7]? =some (.slice n bs.length q)from rfl);have S:=A0b (j:=7) x;obtain⟨C,o,D,rfl⟩:=A0h p;have g:o=(bs++E).length:=A1a p;have z:o<=100000000000:=by rw[g,List.length_append];omega
 have Q:(M.setCell ⟨B,7,none⟩ (.slice C o D)).cell? ⟨B,7,none⟩=some (.slice C o D):=World.cell?_setCell_same _ _ _ J;have L:=hid A;clear p y b x A I g;go_wp2;go_ret2;exact⟨⟨_,rfl⟩,L.out⟩
end Go.Proofs.YtmkkibaacclhnaaGreatDoor
