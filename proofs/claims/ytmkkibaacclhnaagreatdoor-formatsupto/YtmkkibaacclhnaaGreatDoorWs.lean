/-
  Part Ws.
-/
import Derived.Test.YtmkkibaacclhnaaGreatDoorPop
import Derived.Test.YtmkkibaacclhnaaGreatDoorPg
import Derived.Test.YtmkkibaacclhnaaGreatDoorStr
import Derived.Shelf.RegionOpenPlain
import Derived.Lib.Bytealg
import Derived.Laws.Externs
import Derived.Test.YtmkkibaacclhnaaGreatDoorPl
import Derived.Lib.Builder
import Derived.Test.YtmkkibaacclhnaaGreatDoorPd
import Derived.Lib.AppendStr
namespace Go.Proofs.YtmkkibaacclhnaaGreatDoor
open Go.RowKit
set_option maxRecDepth 100000
set_option maxHeartbeats 16000000
theorem A1a {w:World} {e n k cap:Nat} {a:Option Addr} {size:Nat} {xs:List Value} (h:w.ownsRow 0 e size (.slice a n cap) k xs):n=k:=by
 rcases h.2 with⟨h,b⟩|⟨_,_,_,h,_⟩
 ·simp at h;omega
 ·simp at h;exact h.2.1
theorem A5s {w:World} {e n k cap:Nat} {a:Option Addr} {size:Nat} {xs:List Value} (h:w.ownsRow 0 e size (.slice a n cap) k xs) (c:0<k):∃g,a=some ⟨g,0,none⟩:=by
 rcases h.2 with⟨_,b⟩|⟨g,_,_,h,_⟩
 ·omega
 ·simp at h;exact⟨g,h.1⟩
def D1w (i:Nat):Value:=.int .i64 (i:Int)
structure DR (w0 w:World) (blk n cap:Nat) (xs:List Nat):Prop where
 fr:Fr (λi=>i=blk) w0 w
 row:w.ownsRow 0 3 1 (.slice (some ⟨blk,0,none⟩) n cap) n (xs.map D1w)
theorem DR.len {w0 w:World} {a n cap:Nat} {xs:List Nat} (h:DR w0 w a n cap xs):xs.length=n:=by
 have:=h.row.1;simpa using this
theorem DR.drewN {w0 w:World} {a n cap:Nat} {xs:List Nat} (h:DR w0 w a n cap xs) (k:Nat):DR w0 (w.drewN k) a n cap xs:=⟨h.fr.drewN k,h.row⟩
theorem DR.drew {w0 w:World} {a n cap:Nat} {xs:List Nat} (h:DR w0 w a n cap xs):DR w0 w.drew a n cap xs:=⟨h.fr.drew,h.row⟩
theorem DR.cell {w0 w:World} {a n cap:Nat} {xs:List Nat} (h:DR w0 w a n cap xs) (j x:Nat) (b:xs[j]? =some x):w.cell? ⟨a,j,none⟩=some (.int .i64 (x:Int)):=
 A2c h.row j _ (by rw[List.getElem?_map,b];rfl)
theorem DR.free {w0 w:World} {a n cap:Nat} {xs:List Nat} (h:DR w0 w a n cap xs) (j:Nat):w.frozen? ⟨a,j,none⟩=false:=C5k h.row j
theorem Tryz.mixedR:Tryz.prog.follows Departure.mixedOrders=true:=by kernel_rfl
theorem D4m (P Q R:List Nat) (x y:Nat):((P++x::(Q++y::R)).set P.length y).set (P.length+1+Q.length) x=P++y::(Q++x::R):=by
 rw[List.set_append_right _ _ (Nat.le_refl _),Nat.sub_self,List.set_cons_zero,List.set_append_right _ _ (by omega),show P.length+1+Q.length-P.length=Q.length+1 by omega,List.set_cons_succ,List.set_append_right _ _ (Nat.le_refl _),Nat.sub_self,List.set_cons_zero]
theorem DR.swap {w0 w:World} {a n cap:Nat} {P Q R:List Nat} {x y:Nat} (h:DR w0 w a n cap (P++x::(Q++y::R))) (i j:Nat) (b:i=P.length) (c:j=P.length+1+Q.length):
 DR w0 ((w.setCell ⟨a,i,none⟩ (.int .i64 (y:Int))).setCell ⟨a,j,none⟩ (.int .i64 (x:Int))) a n cap (P++y::(Q++x::R)):=by
 subst b c;refine⟨(h.fr.setCell (p:=⟨a,P.length,none⟩) (.inl rfl) _).setCell (p:=⟨a,P.length+1+Q.length,none⟩) (.inl rfl) _,?_⟩;have:=B1s (B1s h.row P.length (D1w y)) (P.length+1+Q.length) (D1w x);rw[<-List.map_set,<-List.map_set,D4m]at this;exact this
theorem DR.swap' {w0 w:World} {a n cap:Nat} {P Q R:List Nat} {x y:Nat} (h:DR w0 w a n cap (P++x::(Q++y::R))) (i j:Nat) (b:i=P.length) (c:j=P.length+1+Q.length):
 DR w0 ((w.setCell ⟨a,j,none⟩ (.int .i64 (x:Int))).setCell ⟨a,i,none⟩ (.int .i64 (y:Int))) a n cap (P++y::(Q++x::R)):=by
 subst b c;refine⟨(h.fr.setCell (p:=⟨a,P.length+1+Q.length,none⟩) (.inl rfl) _).setCell (p:=⟨a,P.length,none⟩) (.inl rfl) _,?_⟩;have:=B1s (B1s h.row (P.length+1+Q.length) (D1w x)) P.length (D1w y);rw[<-List.map_set,<-List.map_set,List.set_comm _ _ (by omega),D4m]at this;exact this
theorem B1u (P Q:List Nat) (x:Nat):(P++x::Q)[P.length]? =some x:=by
 rw[List.getElem?_append_right (Nat.le_refl _),Nat.sub_self];rfl
theorem B9q (P Q R:List Nat) (x y:Nat):(P++x::(Q++y::R))[P.length+1+Q.length]? =some y:=by
 rw[List.getElem?_append_right (by omega),show P.length+1+Q.length-P.length=Q.length+1 by omega,List.getElem?_cons_succ,List.getElem?_append_right (Nat.le_refl _),Nat.sub_self];rfl
theorem B0t (w0 w:World) (c n cap k:Nat) (X A M B Y:List Nat) (g:Value) (h:DR w0 w c n cap (X++A++M++B++Y)) (N:A.length=k) (O:B.length=k) (hn:n<=10000000):
 Calls Tryz.prog 224 #[.slice (some ⟨c,0,none⟩) n cap,.int .i64 (X.length:Int),.int .i64 ((X.length+k+M.length:Nat):Int),.int .i64 (k:Int),g] w λe w'=>e=.returned (.tuple #[])/\DR w0 w' c n cap (X++B++M++A++Y):=by
 have o:=h.len;simp only[List.length_append]at o;have H:=hid h;have E:=hid (And.intro N O);obtain⟨a,I⟩:∃a,X.length=a:=⟨_,rfl⟩;obtain⟨b,J⟩:∃b,X.length+k+M.length=b:=⟨_,rfl⟩;rw[J,I];have Z:b+k<=n:=by omega
 have W:a+k<=b:=by omega
 have K:=hid (And.intro I J);clear h N O o I J;go_enter Tryz.func224,Tryz.ntmps224;go_wp2
 go_loopw [10] (λs wr=>∃(i:Nat) (r u j v:List Nat),i<=k/\s=.int .i64 (i:Int)/\Hid (A=r++u/\B=j++v/\r.length=i/\j.length=i)/\Hid (DR w0 wr c n cap (X++j++u++M++r++v++Y))) (λs _=>k-(intOf s).toNat)
 case atStart=>exact⟨0,[],A,[],B,by omega,rfl,hid ⟨rfl,rfl,rfl,rfl⟩,by simpa using H⟩
 case round=>
  obtain⟨i,r,u,j,v,hi,rfl,C,P⟩:=hrel;by_cases a0:i<k
  ·obtain⟨x,f,F⟩:∃x f,u=x::f:=by
    cases u with
    |nil=>have d:=C.out;have z:=E.out;simp at d;rw[d.1]at z;omega
    |cons x f=>exact⟨x,f,rfl⟩
   obtain⟨y,D,G⟩:∃y D,v=y::D:=by
    cases v with
    |nil=>have d:=C.out;have z:=E.out;simp at d;rw[d.2.1]at z;omega
    |cons x f=>exact⟨x,f,rfl⟩
   subst F G;have t:DR w0 wr c n cap ((X++j)++x::((f++M++r)++y::(D++Y))):=by simpa using P.out
   have l:(X++j).length=a+i:=by have d:=C.out;have z:=K.out;rw[List.length_append];omega
   have m:(X++j).length+1+(f++M++r).length=b+i:=by
    have d:=C.out;have z:=K.out;have L:=E.out;have V:=congrArg List.length d.1;simp only[List.length_append,List.length_cons]at V ⊢;omega
   obtain⟨p,Q⟩:∃p,a+i=p:=⟨_,rfl⟩;obtain⟨q,R⟩:∃q,b+i=q:=⟨_,rfl⟩;rw[Q]at l;rw[R]at m;have c1:=t.cell p x (by rw[<-l];exact B1u _ _ _);have T:=t.cell q y (by rw[<-m];exact B9q _ _ _ _ _);have f1:=t.free p;have U:=t.free q;have pi:(a:Int)+(i:Int)=(p:Int):=by omega
   have qi:(b:Int)+(i:Int)=(q:Int):=by omega
   have a5:IntKind.i64.wrap ((a:Int)+(i:Int))=(p:Int):=by rw[pi];exact IntWalk.i64_in _ (by omega)
   have a6:IntKind.i64.wrap ((b:Int)+(i:Int))=(q:Int):=by rw[qi];exact IntWalk.i64_in _ (by omega)
   have a1:p<n:=by omega
   have a3:q<n:=by omega
   have a2:(p:Int)<(n:Int):=by omega
   have a4:(q:Int)<(n:Int):=by omega
   have S:=hid (t.swap p q l.symm m.symm);have S2:=hid (t.swap' p q l.symm m.symm)
   have c3:(wr.setCell ⟨c,p,none⟩ (.int .i64 (y:Int))).cell? ⟨c,q,none⟩=some (.int .i64 (y:Int)):=by
    rw[World.cell?_setCell_other _ _ _ _ (by intro e;simp only[Addr.mk.injEq]at e;omega)];exact T
   have f3:(wr.setCell ⟨c,p,none⟩ (.int .i64 (y:Int))).frozen? ⟨c,q,none⟩=false:=by rw[World.frozen?_setCell];exact U
   have mixed:=Tryz.mixedR;have HE:=hid (And.intro l m);clear t l m Q R hi;go_wp2
   go_big_region_o
   go_wp2;go_roundw
   case rel=>
    refine⟨i+1,r++[x],f,j++[y],D,by omega,by go_num,hid ?_,hid ?_⟩
    ·have d:=C.out
     simp[d.1,d.2.1,d.2.2.1,d.2.2.2]
    ·have:=S.drew
     simpa using this
   case measure=>simp[intOf];omega
  ·obtain rfl:i=k:=by omega
   go_wp2;go_end0;refine⟨rfl,?_⟩;have d:=C.out;have z:=E.out
   have l:u=[]:=by
    have:=congrArg List.length d.1;simp at this;exact List.eq_nil_of_length_eq_zero (by omega)
   have m:v=[]:=by
    have:=congrArg List.length d.2.1;simp at this;exact List.eq_nil_of_length_eq_zero (by omega)
   subst l m;have L:=P.out;simp at d;rw[d.1,d.2.1];simpa using L
theorem C8f (l:List Nat) (k:Nat) (h:k<=l.length):∃a b,l=a++b/\a.length=k:=⟨l.take k,l.drop k,(List.take_append_drop k l).symm,by simp[h]⟩
def B3q (w0 w:World) (blk n cap:Nat) (X A B Y:List Nat) (m i j:Nat):Prop:=
 ∃P A' B' S,A'.length=i/\B'.length=j/\0<i/\0<j/\X.length+P.length+i=m/\B++A=P++B'++A'++S/\DR w0 w blk n cap (X++P++A'++B'++S++Y)
theorem B3q.bound {w0 w:World} {a n cap m i j:Nat} {X A B Y:List Nat} (h:B3q w0 w a n cap X A B Y m i j):0<i/\0<j/\i<=m/\m+j<=n:=by
 obtain⟨P,A',c,S,d,e,f,g,k,l,b⟩:=h;have:=b.len;simp only[List.length_append]at this;omega
theorem B3q.more {w0 w:World} {a n cap m i j:Nat} {X A B Y:List Nat} {g:Value} (h:B3q w0 w a n cap X A B Y m i j) (u:j<i) (v:n<=10000000):
 Calls Tryz.prog 224 #[.slice (some ⟨a,0,none⟩) n cap,.int .i64 ((m-i:Nat):Int),.int .i64 (m:Int),.int .i64 (j:Int),g] w λe w'=>e=.returned (.tuple #[])/\B3q w0 w' a n cap X A B Y m (i-j) j:=by
 obtain⟨P,A',f,S,l,o,x,p,y,q,r⟩:=h;obtain⟨d,c,rfl,b⟩:=C8f A' j (by omega);rw[List.length_append]at l;have s:DR w0 w a n cap ((X++P)++d++c++f++(S++Y)):=by simpa using r
 have:=B0t w0 w a n cap j (X++P) d c f (S++Y) g s b o v;rw[List.length_append,show X.length+P.length=m-i by omega,show m-i+j+c.length=m by omega]at this;refine this.mono ?_;rintro e w' ⟨t,k⟩;refine⟨t,P++f,c,d,S,by omega,b,by omega,p,by rw[List.length_append];omega,by simpa using q,by simpa using k⟩
theorem B3q.less {w0 w:World} {a n cap m i j:Nat} {X A B Y:List Nat} {g:Value} (h:B3q w0 w a n cap X A B Y m i j) (v:i<j) (x:n<=10000000):
 Calls Tryz.prog 224 #[.slice (some ⟨a,0,none⟩) n cap,.int .i64 ((m-i:Nat):Int),.int .i64 ((m+j-i:Nat):Int),.int .i64 (i:Int),g] w λe w'=>e=.returned (.tuple #[])/\B3q w0 w' a n cap X A B Y m i (j-i):=by
 obtain⟨P,A',k,S,l,o,p,y,q,r,s⟩:=h;obtain⟨b,c,rfl,d⟩:=C8f k (j-i) (by omega);rw[List.length_append]at o;have t:DR w0 w a n cap ((X++P)++A'++b++c++(S++Y)):=by simpa using s
 have:=B0t w0 w a n cap i (X++P) A' b c (S++Y) g t l (by omega) x;rw[List.length_append,show X.length+P.length=m-i by omega,show m-i+i+b.length=m+j-i by omega]at this;refine this.mono ?_;rintro e w' ⟨u,f⟩;refine⟨u,P,c,b,A'++S,by omega,d,p,by omega,q,by simpa using r,by simpa using f⟩
theorem B3q.last {w0 w:World} {a n cap m i:Nat} {X A B Y:List Nat} {g:Value} (h:B3q w0 w a n cap X A B Y m i i) (p:n<=10000000):
 Calls Tryz.prog 224 #[.slice (some ⟨a,0,none⟩) n cap,.int .i64 ((m-i:Nat):Int),.int .i64 (m:Int),.int .i64 (i:Int),g] w λe w'=>e=.returned (.tuple #[])/\DR w0 w' a n cap (X++B++A++Y):=by
 obtain⟨P,A',c,S,d,f,q,r,s,j,k⟩:=h;have l:DR w0 w a n cap ((X++P)++A'++[]++c++(S++Y)):=by simpa using k
 have:=B0t w0 w a n cap i (X++P) A' [] c (S++Y) g l d f p;rw[List.length_append,show X.length+P.length=m-i by omega,show m-i+i+([]:List Nat).length=m by simp;omega]at this;refine this.mono ?_;rintro e w' ⟨o,b⟩;refine⟨o,?_⟩;rw[List.append_assoc X B A,j];simpa using b
theorem D7n (w0 w:World) (a n cap m b:Nat) (X A B Y:List Nat) (g:Value) (h:DR w0 w a n cap (X++A++B++Y)) (K:0<A.length) (L:0<B.length) (M:X.length+A.length=m) (T:m+B.length=b) (E:n<=10000000):
 Calls Tryz.prog 219 #[.slice (some ⟨a,0,none⟩) n cap,.int .i64 (X.length:Int),.int .i64 (m:Int),.int .i64 (b:Int),g] w λe w'=>e=.returned (.tuple #[])/\DR w0 w' a n cap (X++B++A++Y):=by
 have G:B3q w0 w a n cap X A B Y m A.length B.length:=⟨[],A,B,[],rfl,rfl,K,L,by simpa using M,by simp,by simpa using h⟩;have o:=h.len;simp only[List.length_append]at o;have I:(m:Int)-(X.length:Int)=(A.length:Int):=by omega
 have J:(b:Int)-(m:Int)=(B.length:Int):=by omega
 have R:=hid (λ(i j:Nat) (w':World) (h:B3q w0 w' a n cap X A B Y m i j) (c:j<i)=>h.more (g:=g) c E);have Q:=hid (λ(i j:Nat) (w':World) (h:B3q w0 w' a n cap X A B Y m i j) (c:i<j)=>h.less (g:=g) c E);have P:=hid (λ(i:Nat) (w':World) (h:B3q w0 w' a n cap X A B Y m i i)=>h.last (g:=g) E);have H:=hid G;have a1:m<=10000000:=by omega
 have U:b<=10000000:=by omega
 generalize N:X.length=x at*;generalize A.length=al at*;generalize B.length=bl at*;have HX:=hid N;clear h K L M T o G N;go_enter Tryz.func219,Tryz.ntmps219;go_wp2
 go_loopw [10,11] (λs t wr=>∃(i j:Nat),s=.int .i64 (i:Int)/\t=.int .i64 (j:Int)/\Hid (B3q w0 wr a n cap X A B Y m i j)) (λs t _=>(intOf s).toNat+(intOf t).toNat)
 case atStart=>exact⟨al,bl,rfl,rfl,H⟩
 case round=>
  clear H I J;obtain⟨i,j,rfl,rfl,y⟩:=hrel;obtain⟨V,Z,W,a0⟩:=y.bound;have I:(m:Int)-(i:Int)=((m-i:Nat):Int):=by omega
  have J:(m:Int)+(j:Int)-(i:Int)=((m+j-i:Nat):Int):=by omega
  have w1:IntKind.i64.wrap ((m:Int)+(j:Int))=(m:Int)+(j:Int):=IntWalk.i64_in _ (by omega);by_cases c:i=j
  ·subst c
   have k:=P.out _ _ y.out;generalize m-i=p at*;have u:=hid k;clear k
   go_wp2_with (first|(go_at_call 224;refine Calls.mono u.out ?_;rintro x O ⟨rfl,l⟩;have v:=hid l;clear l)|fail)
   go_end0;exact⟨rfl,v.out⟩
  ·by_cases C:j<i
   ·have k:=R.out _ _ _ y.out C
    have S:(i:Int)-(j:Int)=((i-j:Nat):Int):=by omega
    have F:¬((i:Int)=(j:Int)):=by omega
    have D:(j:Int)<(i:Int):=by omega
    have f:i-j+j<i+j:=by omega
    generalize i-j=d at*;generalize m-i=p at*;have u:=hid k;have r:=hid f;clear k f
    go_wp2_with (first|(go_at_call 224;refine Calls.mono u.out ?_;rintro x O ⟨rfl,l⟩;have v:=hid l;clear l)|fail)
    go_roundw
    case rel=>exact⟨d,j,rfl,rfl,v⟩
    case measure=>have:=r.out;simp[intOf];omega
   ·have z:i<j:=by omega
    have k:=Q.out _ _ _ y.out z;have S:(j:Int)-(i:Int)=((j-i:Nat):Int):=by omega
    have F:¬((i:Int)=(j:Int)):=by omega
    have D:¬((j:Int)<(i:Int)):=by omega
    have f:i+(j-i)<i+j:=by omega
    generalize j-i=d at*;generalize m+j-i=q at*;generalize m-i=p at*;have u:=hid k;have r:=hid f;clear k f
    go_wp2_with (first|(go_at_call 224;refine Calls.mono u.out ?_;rintro x O ⟨rfl,l⟩;have v:=hid l;clear l)|fail)
    go_roundw
    case rel=>exact⟨i,d,rfl,rfl,v⟩
    case measure=>have:=r.out;simp[intOf];omega
theorem B6c (a b:LU8) (w:World):
 Calls Tryz.prog 174 #[.string (ofL a),.string (ofL b)] w λe w'=>e=.returned (.int .i64 (Lib.compareBytes a b))/\w'=w:=by
 go_enter Tryz.func174,Tryz.ntmps174;go_wp2;rw[run_callFunc_extern Tryz.func204 (by kernel_rfl) (by kernel_rfl) (by kernel_rfl) (e:=Extern.BytealgCompare.compare) (by kernel_rfl),Lib.run_compareString];simp only[Result.andThen];rw[Oper.upon_value];go_wp2;go_ret;exact⟨rfl,rfl⟩
theorem C8g (a b:LU8) (w:World):
 Calls Tryz.prog 130 #[.string (ofL a),.string (ofL b)] w λe w'=>e=.returned (.int .i64 (Lib.compareBytes a b))/\w'=w:=by
 go_enter Tryz.func130,Tryz.ntmps130
 go_wp2_with (first|(go_at_call 174;refine Calls.mono (B6c a b _) ?_;rintro x c ⟨rfl,rfl⟩)|fail)
 go_ret;exact⟨rfl,rfl⟩
structure Im where
 k:Int
 n:Int
 b:Nat
 s:LU8
def imC (x:Im):List Value:=[.int .i64 x.k,.int .i64 x.n,.int .u64 (x.b:Int),.string (ofL x.s)]
def F7g (l:List Im):List Value:=l.flatMap imC
theorem A4y (l:List Im) (i j:Nat) (x:Im) (a:l[i]? =some x) (c:j<4):(F7g l)[i*4+j]? =(imC x)[j]? :=by
 induction l generalizing i with
 |nil=>simp at a
 |cons y l ih=>
  have h:F7g (y::l)=imC y++F7g l:=rfl;have b:(imC y).length=4:=rfl;rw[h];cases i with
  |zero=>
   simp at a;subst a;rw[List.getElem?_append_left (by omega)];simp
  |succ i=>
   rw[List.getElem?_append_right (by omega),b,show(i+1)*4+j-4=i*4+j by omega];exact ih i (by simpa using a)
def B9r (w:World) (V:Value) (l:List Im):Prop:=w.ownsRow 0 29 4 V l.length (F7g l)
theorem B9r.fr {w w':World} {V:Value} {l:List Im} {S:Nat->Prop} (h:B9r w V l) (a:Fr S w w') (b:∀i,V.ownBlock=some i->¬S i):B9r w' V l:=A7e h a b
def A5y (l:List Im) (i:Nat):LU8:=((l[i]?).map (·.s)).getD []
theorem F7h (w:World) (i a b:Nat) (V:Value) (l:List Im) (p:w.heap[i]? =some (.cells #[V] 22 (0,0))) (c:B9r w V l) (r:a<l.length) (d:b<l.length) (B:l.length<=10000000):
 Calls Tryz.prog 129 #[.int .i64 (a:Int),.int .i64 (b:Int),.pointer (some ⟨i,0,none⟩)] w λe w'=>e=.returned (.int .i64 (Lib.compareBytes (A5y l a) (A5y l b)))/\∃k,w'=w.drewN k:=by
 obtain⟨g,m,cap,rfl⟩:=A0h c;obtain rfl:=A1a c;obtain⟨o,rfl⟩:=A5s c (by omega);obtain⟨x,f⟩:∃x,l[a]? =some x:=⟨l[a],List.getElem?_eq_getElem r⟩;obtain⟨y,h⟩:∃y,l[b]? =some y:=⟨l[b],List.getElem?_eq_getElem d⟩;have v:=A0a p (show(#[Value.slice (some ⟨o,0,none⟩) l.length cap])[0]? =some (.slice (some ⟨o,0,none⟩) l.length cap)from rfl);have z:=A2c c (a*4+3) (.string (ofL x.s)) (by rw[A4y l a 3 x f (by omega)];rfl);have A:=A2c c (b*4+3) (.string (ofL y.s)) (by rw[A4y l b 3 y h (by omega)];rfl);have t:(a:Int)<(l.length:Int):=by omega
 have u:(b:Int)<(l.length:Int):=by omega
 have q:=hid (λw=>C8g x.s y.s w);have j:A5y l a=x.s:=by unfold A5y;rw[f];rfl
 have n:A5y l b=y.s:=by unfold A5y;rw[h];rfl
 rw[j,n];generalize Lib.compareBytes x.s y.s=R at*;generalize x.s=xs at*;generalize y.s=ys at*;clear p c f h j n;go_enter Tryz.func129,Tryz.ntmps129;go_wp2;go_quiet ((go_at_call 130;exact Calls.quiet_of_same (q.out _)));go_wp2;go_ret;exact⟨rfl,_,rfl⟩
def A9k (vi vb:Value) (nx ind:Int) (so:Bool) (op:Nat) (ad vo:Value):Array Value:=#[vi,vb,.int .i64 nx,.int .i64 ind,.bool so,.int .i64 (op:Int),ad,vo]
structure WAt (B:Nat) (w:World) (vi vb:Value) (nx ind:Int) (so:Bool) (op:Nat) (ad vo:Value) (bs:LU8):Prop where
 blk:w.heap[B]? =some (.cells (A9k vi vb nx ind so op ad vo) 69 (0,0))
 adr:ad=.pointer none\/ad=.pointer (some ⟨B,6,none⟩)
 row:w.ownsRow 0 5 1 vo bs.length (us bs)
theorem Tryz.under64B:Tryz.prog.underlying 64=some (.pointer 67):=by kernel_rfl
theorem Tryz.under165B:Tryz.prog.underlying 165=some .unsafePointer:=by kernel_rfl
theorem Tryz.size67B:(Tryz.prog.info? 67).map (·.size)=some 2:=by kernel_rfl
theorem Tryz.lies67B:liesAt Tryz.prog Tryz.prog.depth 69 (8/Tryz.prog.cellsOf 69) 6 67 1=true:=by kernel_rfl
theorem B0u (B:Nat) (w:World) (l k:Value) (f a:Int) (so:Bool) (g:Nat) (o m:Value) (bs:LU8) (h:WAt B w l k f a so g o m bs):
 Calls Tryz.prog 71 #[.pointer (some ⟨B,6,none⟩)] w λe w'=>e=.returned (.tuple #[])/\WAt B w' l k f a so g (.pointer (some ⟨B,6,none⟩)) m bs/\Fr (λi=>i=B) w w':=by
 have v:=A0a h.blk (show(A9k l k f a so g o m)[6]? =some o from rfl);have u:=A0b (j:=6) h.blk;rcases h.adr with q|q
 ·subst q
  have H:=hid h;have r:=heap_setCell_same w B 6 _ 69 (.pointer (some ⟨B,6,none⟩)) h.blk;have t:(w.setCell ⟨B,6,none⟩ (.pointer (some ⟨B,6,none⟩))).cell? ⟨B,6,none⟩=some (.pointer (some ⟨B,6,none⟩)):=A0a r rfl;have s:=hid (show WAt B (w.setCell ⟨B,6,none⟩ (.pointer (some ⟨B,6,none⟩))) l k f a so g (.pointer (some ⟨B,6,none⟩)) m bs from⟨r,.inr rfl,A0q h.row (A8y h.row h.blk (by decide)) _⟩);have n:=hid ((Fr.refl (λi=>i=B) w).setCell (p:=⟨B,6,none⟩) (.inl rfl) (.pointer (some ⟨B,6,none⟩)));have c:w.shape? B=some (69,8):=by simp[World.shape?,h.blk,A9k]
  clear h r;obtain⟨j,d,b⟩:=Option.map_eq_some_iff.1 Tryz.size67B;go_enter Tryz.func71,Tryz.ntmps71;go_wp2;rw[Lib.run_to_unsafe w ⟨B,6,none⟩ Tryz.under64B Tryz.under165B d (by rw[b];decide) c (show 6<8 by omega)];simp only[Result.andThen];rw[Oper.upon_value];go_wp2;rw[run_callFunc_extern Tryz.func125 (by kernel_rfl) (by kernel_rfl) (by kernel_rfl) (e:=Extern.AbiNoEscape.same) (by kernel_rfl)];rw[Lib.run_noEscape];simp only[Result.andThen];rw[Oper.upon_value];go_wp2;rw[Lib.run_from_unsafe w ⟨B,6,none⟩ Tryz.under165B Tryz.under64B d c Tryz.lies67B];simp only[Result.andThen];rw[Oper.upon_value];go_wp2;go_end0;exact⟨rfl,s.out,n.out⟩
 ·subst q
  have H:=hid h;have n:=hid (Fr.refl (λi=>i=B) w);clear h;obtain⟨j,d,b⟩:=Option.map_eq_some_iff.1 Tryz.size67B;go_enter Tryz.func71,Tryz.ntmps71;go_wp2;rw[Lib.run_neq_ptr_same _ ⟨B,6,none⟩ Tryz.under64B d];simp only[Result.andThen];rw[Oper.upon_value];go_wp2;go_end0;exact⟨rfl,H.out,n.out⟩
theorem WAt.put {B:Nat} {W f:World} {l k:Value} {i d:Int} {so:Bool} {j:Nat} {g n e:Value} {bs b:LU8} (h:WAt B W l k i d so j g n bs) (m:f.heap[B]? =W.heap[B]?) (a:f.ownsRow 0 5 1 e b.length (us b)):
 WAt B (f.setCell ⟨B,7,none⟩ e) l k i d so j g e b:=by
 have c:=m.trans h.blk;exact⟨heap_setCell_same f B 7 _ 69 e c,h.adr,A0q a (A8y a c (by decide)) _⟩
def A2d (B:Nat) (w:World) (vi vb:Value) (nx ind:Int) (so:Bool) (op:Nat) (vo:Value) (bs:LU8) (w':World):Prop:=
 ∃vo',WAt B w' vi vb nx ind so op (.pointer (some ⟨B,6,none⟩)) vo' bs/\Fr (λi=>i=B\/vo.ownBlock=some i) w w'/\∀g,vo'.ownBlock=some g->vo.ownBlock=some g\/w.heap.size<=g
theorem A2d.of {B:Nat} {w W j:World} {n m:Value} {k b:Int} {so:Bool} {l:Nat} {f e:Value} {bs a:LU8} (h:WAt B W n m k b so l (.pointer (some ⟨B,6,none⟩)) f bs) (q:Fr (λi=>i=B) w W) (c:Fr (λi=>f.ownBlock=some i) W j) (d:j.ownsRow 0 5 1 e a.length (us a)) (r:∀g,e.ownBlock=some g->f.ownBlock=some g\/W.heap.size<=g):
 j.heap[B]? =some (.cells (A9k n m k b so l (.pointer (some ⟨B,6,none⟩)) f) 69 (0,0))/\A2d B w n m k b so l f a (j.setCell ⟨B,7,none⟩ e):=by
 have o:=c.block B (lt_of_block h.blk) (A8y h.row h.blk (by decide));have s:=q.size;refine⟨o.trans h.blk,e,h.put o d,?_,λg hg=>(r g hg).imp id (λh=>by omega)⟩;exact((q.mono (λi hi=>.inl hi)).trans (c.mono (λi hi=>.inr hi))).setCell (p:=⟨B,7,none⟩) (.inl (.inl rfl)) e
theorem A1r (B:Nat) (w:World) (s r:Value) (p b:Int) (so:Bool) (q:Nat) (G F:Value) (bs:LU8) (c:UInt8) (h:WAt B w s r p b so q G F bs) (Y:bs.length<=100000000000):
 Calls Tryz.prog 44 #[.pointer (some ⟨B,6,none⟩),.int .u8 (c.toNat:Int)] w λe w'=>e=.returned .nilIface/\A2d B w s r p b so q F (bs++[c]) w':=by
 have M:=hid (B0u B w s r p b so q G F bs h);obtain⟨R,Q,z,A,D⟩:=info_parts Tryz.info5;obtain⟨C,g⟩:∃C:Int,(c.toNat:Int)=C:=⟨_,rfl⟩;have t:=hid (show us [c]=[.int .u8 C]from by rw[C8e,g]);rw[g];clear h g;go_enter Tryz.func44,Tryz.ntmps44
 go_wp2_with fail
 refine Calls.mono M.out ?_;rintro e U ⟨rfl,i,H⟩;obtain⟨n,T,o,rfl⟩:=A0h i.row;have y:T=bs.length:=A1a i.row;subst y;have S:=A0a i.blk (show(A9k s r p b so q (.pointer (some ⟨B,6,none⟩)) (.slice n bs.length o))[7]? =some (.slice n bs.length o)from rfl);have P:=hid i;have N:=hid H;have m:=hid i.row;clear i H
 go_wp2_with (first
  |(at_builtin;refine A0g _ rfl _ _ 65 rfl 5 R (.int .u8 0) 1 1 Tryz.underlying65 Q z A D rfl (by decide) _ _ _ rfl (m.alloc _) ⟨U.heap.size,0,none⟩ 1 1 [.int .u8 C] rfl rfl ?c1 ?c2 ?c3 ?c4 ?_)
  |fail)
 case c1=>
  intro j u k
  match j,k with
  |0,k=>simp at k;subst k;simp[Addr.add]
  |(j+1),k=>simp at k
 case c2=>intro u J;simp at J;rcases J with rfl<;>rfl
 case c3=>unfold maxLen;omega
 case c4=>omega
 intro v' w2 f a d;obtain⟨E,K,L⟩:=B2i (l:=bs) (e:=[c]) (v:=.slice n bs.length o) f t.out rfl a d;obtain⟨x,I⟩:=A2d.of P.out N.out K E L;have W:=A0a x (show(A9k s r p b so q (.pointer (some ⟨B,6,none⟩)) (.slice n bs.length o))[7]? =some (.slice n bs.length o)from rfl);have X:=A0b (j:=7) x;obtain⟨V,Z,c3,rfl⟩:=A0h E;have O:=hid I;clear f a d E K L x I S;go_wp2;go_ret;exact⟨rfl,O.out⟩
theorem B7q {P:Program} (w:World) (t u q e:TypeId) (i:TypeInfo) (z:P.underlying t=some (.slice e)) (A:P.underlying u=some .string) (x:P.info? e=some i) (D:i.zero=some (.int .u8 0))
 (a:i.size=1) (l:i.bytes=1) (v:Value) (n:Nat) (xs:List Value) (b:w.ownsRow 0 e 1 v n xs) (s:ByteArray) (k:n+s.size<=maxLen) (d:n+s.size<=140737488355328):
 ∃r w',(Builtin.append_ #[t,u] q #[v,.string s]).run P w=.ok r w'/\w'.ownsRow 0 e 1 r (n+s.size) (xs++Lib.strCells s)/\w.grownBy w' v.ownBlock/\(∀h,r.ownBlock=some h->v.ownBlock=some h\/w.heap.size<=h):=by
 obtain⟨r,w',hr,G,H,N⟩:=Lib.run_append_own_string (P:=P) w 0 t u q e i z A x D a l v n xs b s k d (Nat.zero_le _);refine⟨r,w',hr,G,H,?_⟩;have y:n+s.size<=9223372036854775807:=by simp only[maxLen]at k;omega
 rcases b.2 with⟨rfl,rfl⟩|⟨g,cap,p,rfl,I,K,L,J,B,C⟩
 ·have M:xs=[]:=List.eq_nil_of_length_eq_zero (by simpa using b.1)
  subst M;obtain⟨O,Q,c,F,_,_⟩:=Lib.run_append_own_string (P:=P) w w.heap.size t u q e i z A x D a l (.slice none 0 0) 0 [] (World.ownsRow_nil w _ e 1) s k d (Nat.le_refl _);rw[hr]at c;injection c with e1 e2
  subst e1 e2
  exactλh f=>.inr (F.lt h f).1
 ·by_cases o:n+s.size<=cap
  ·have E:p.size=cap:=by simpa using B
   have c:=Lib.run_append_room_string (P:=P) w t u q e i z A x a g n cap p K s o (by omega);rw[hr]at c;injection c with e1 e2
   subst e1
   exactλh f=>.inl f
  ·have m:∀j u,xs[j]? =some u->w.cell? ((⟨g,0,none⟩:Addr).add j)=some u:=b.cells (g:=g) rfl
   have c:=Lib.run_append_grow_string (P:=P) w t u q e i (.int .u8 0) z A x D ⟨g,0,none⟩ n cap xs (by rw[a];simpa using b.1) m s (by omega) (by omega) (by rw[l];exact growslice_fits (by omega) (by omega));rw[hr]at c;injection c with e1 e2
   subst e1;intro h f;refine .inr ?_;have:w.heap.size=h:=by simpa[Value.ownBlock]using f
   omega
theorem B3r {P:Program} (w:World) {b:Array Oper} {rest:List Oper} {o:Oper} {a:Act} {Q:Exit->Act->World->Prop} (d:o.guard=none) (f x:Operand) (t u:TypeId)
 (l:o.op=.call {callee:=.builtin .append,args:=#[f,x],argTypes:=#[t,u]})
 (e:TypeId) (i:TypeInfo) (ht:P.underlying t=some (.slice e)) (hu:P.underlying u=some .string) (hi:P.info? e=some i) (hz:i.zero=some (.int .u8 0)) (hsize:i.size=1) (hby:i.bytes=1)
 (v:Value) (n:Nat) (xs:List Value) (hs:a.eval f=v) (hown:w.ownsRow 0 e 1 v n xs) (s:ByteArray) (hx:a.eval x=.string s) (h63:n+s.size<=maxLen) (hbytes:n+s.size<=140737488355328)
 (h:∀c w',w'.ownsRow 0 e 1 c (n+s.size) (xs++Lib.strCells s)->w.grownBy w' v.ownBlock->(∀g',c.ownBlock=some g'->v.ownBlock=some g'\/w.heap.size<=g')->wpList P b Q rest (a.put o.dst c) w'):wpList P b Q (o::rest) a w:=by
 refine wpList_plain d λ_ hK=>?_
 obtain⟨c,w',hr,g,j,k⟩:=B7q (P:=P) w t u o.type e i ht hu hi hz hsize hby v n xs hown s h63 hbytes;unfold Oper.wp execOp;simp only[l,resolve,invoke,builtin,Sem.run_bind,Sem.run_pure,Result.andThen_ok,List.map_toArray,List.map_cons,List.map_nil,hs,hx,hr];exact hK _ _ (h c w' g j k)
theorem D1x (l:LU8):Lib.strCells (ofL l)=us l:=by
 simp[Lib.strCells,us,ofL]
theorem A1k (B:Nat) (w:World) (q p:Value) (n b:Int) (so:Bool) (o:Nat) (D C:Value) (bs s:LU8) (h:WAt B w q p n b so o D C bs) (Y:bs.length+s.length<=100000000000):
 Calls Tryz.prog 42 #[.pointer (some ⟨B,6,none⟩),.string (ofL s)] w λe w'=>e=.returned (.tuple #[.int .i64 (s.length:Int),.nilIface])/\A2d B w q p n b so o C (bs++s) w':=by
 have J:=hid (B0u B w q p n b so o D C bs h);obtain⟨Q,P,x,y,z⟩:=info_parts Tryz.info5;have v:=A0c s;have r:=hid (D1x s);generalize N:ofL s=S at*;have O:=v;clear h N;go_enter Tryz.func42,Tryz.ntmps42
 go_wp2_with fail
 refine Calls.mono J.out ?_;rintro e H ⟨rfl,f,E⟩;obtain⟨l,T,m,rfl⟩:=A0h f.row;have u:T=bs.length:=A1a f.row;subst u;have R:=A0a f.blk (show(A9k q p n b so o (.pointer (some ⟨B,6,none⟩)) (.slice l bs.length m))[7]? =some (.slice l bs.length m)from rfl);have M:=hid f;have K:=hid E;have g:=hid f.row;clear f E
 go_wp2_with (first
  |(at_builtin;refine B3r _ rfl _ _ 65 9 rfl 5 Q Tryz.underlying65 Tryz.underlying9 P x y z _ _ _ rfl g.out S rfl ?c3 ?c4 ?_)
  |fail)
 case c3=>unfold maxLen;omega
 case c4=>omega
 intro U I d a c;have A:I.ownsRow 0 5 1 U (bs++s).length (us (bs++s)):=by rw[B9n,<-r.out,List.length_append];exact d
 have G:Fr (λi=>(Value.slice l bs.length m).ownBlock=some i) H I:=(Fr.refl _ H).grown a (λk hk=>.inl hk);obtain⟨t,F⟩:=A2d.of M.out K.out G A c;have W:=A0a t (show(A9k q p n b so o (.pointer (some ⟨B,6,none⟩)) (.slice l bs.length m))[7]? =some (.slice l bs.length m)from rfl);have X:=A0b (j:=7) t;obtain⟨V,Z,c3,rfl⟩:=A0h A;have L:=hid F;clear d a c A G t F R;go_wp2;go_ret2;exact⟨rfl,L.out⟩
theorem E2y (r:Nat):(A3z r).length<=4:=by
 unfold A3z
 repeat' split
 all_goals simp
theorem B0v (B:Nat) (w:World) (m l:Value) (g a:Int) (so:Bool) (i:Nat) (A x:Value) (bs:LU8) (r:Nat) (h:WAt B w m l g a so i A x bs) (T:bs.length<=99999999990) (hr:r<55296\/(57344<=r/\r<=1114111)):
 Calls Tryz.prog 126 #[.pointer (some ⟨B,6,none⟩),.int .i32 (r:Int)] w λe w'=>(∃k:Int,e=.returned (.tuple #[.int .i64 k,.nilIface]))/\A2d B w m l g a so i x (bs++A3z r) w':=by
 have I:=hid (B0u B w m l g a so i A x bs h);have c:=hid (λv w (ho:World.ownsRow w 0 5 1 v bs.length (us bs))=>C5j v bs r w ho (by omega) hr);obtain⟨E,s⟩:∃E,A3z r=E:=⟨_,rfl⟩;rw[s]at c ⊢;have M:E.length<=4:=by rw[<-s];exact E2y r
 generalize (r:Int)=R at*;clear h hr s;go_enter Tryz.func126,Tryz.ntmps126
 go_wp2_with fail
 refine Calls.mono I.out ?_;rintro e V ⟨rfl,d,D⟩;obtain⟨n,O,o,rfl⟩:=A0h d.row;have u:O=bs.length:=A1a d.row;subst u;have N:=A0a d.blk (show(A9k m l g a so i (.pointer (some ⟨B,6,none⟩)) (.slice n bs.length o))[7]? =some (.slice n bs.length o)from rfl);have y:=hid d;have J:=hid D;clear d D
 go_wp2_with fail
 refine Calls.mono (c.out _ _ y.row) ?_;rintro e P ⟨U,rfl,q,H,b⟩;obtain⟨t,F⟩:=A2d.of y.out J.out H q b;have L:=A0a t (show(A9k m l g a so i (.pointer (some ⟨B,6,none⟩)) (.slice n bs.length o))[7]? =some (.slice n bs.length o)from rfl);have S:=A0b (j:=7) t;obtain⟨z,p,C,rfl⟩:=A0h q;have f:p=(bs++E).length:=A1a q;have G:p<=100000000000:=by rw[f,List.length_append];omega
 have Q:(P.setCell ⟨B,7,none⟩ (.slice z p C)).cell? ⟨B,7,none⟩=some (.slice z p C):=World.cell?_setCell_same _ _ _ L;have K:=hid F;clear q H b t F N f;go_wp2;go_ret2;exact⟨⟨_,rfl⟩,K.out⟩
end Go.Proofs.YtmkkibaacclhnaaGreatDoor
