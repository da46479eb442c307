/-
  Part Vo.
-/
import Derived.Test.YtmkkibaacclhnaaGreatDoorYe
import Derived.StillTailTactics
import Derived.Deep.OwnRows
import Derived.Handy
import Derived.Laws.ResultCell
import Derived.Test.YtmkkibaacclhnaaGreatDoorProg
import Derived.Ground.NamesProg
import Derived.WalkKit
import Derived.WalkMore
import Derived.Below
import Derived.Shelf.Lay
import Derived.Shelf.Strings.Repeat
import Derived.Test.YtmkkibaacclhnaaGreatDoorWw
import Derived.Test.YtmkkibaacclhnaaGreatDoorWt
import Derived.Deep.RegionHeld3
namespace Go.Proofs.YtmkkibaacclhnaaGreatDoor
open Go.RowKit Go.Shelf
set_option maxRecDepth 100000
set_option maxHeartbeats 16000000
def B0i (d:Nat) (its:List Im) (obj:Bool) (q:Nat):Nat:=if obj=true then q+1+A0i d (its.drop (q+1))else q+A0i d (its.drop q)
def A1n (d:Nat) (its:List Im) (obj:Bool):Nat->Nat->List Nat
 |0,_=>[]
 |c+1,q=>q::A1n d its obj c (B0i d its obj q)
noncomputable def A7y (d:Nat) (indent:Int) (so:Bool) (its:List Im) (obj:Bool) (q:Nat):KT:=
 if obj=true then(A5y its q,A7h indent (A5y its q)++wrD indent so d (its.drop (q+1)))else([],wrD indent so d (its.drop q))
def A7n (d:Nat) (its:List Im) (obj:Bool) (q:Nat):Prop:=
 if obj=true then∃x,its[q]? =some x/\x.k=4/\A0z x=true/\A0i d (its.drop (q+1))≠0 else A0i d (its.drop q)≠0
theorem D0c {its:List Im} {q:Nat} {x:Im} {r:List Im} (h:its.drop q=x::r):its[q]? =some x/\r=its.drop (q+1)/\q<its.length:=by
 have a:(its.drop q)[0]? =some x:=by rw[h];rfl
 rw[List.getElem?_drop,Nat.add_zero]at a;refine⟨a,?_,(List.getElem?_eq_some_iff.1 a).1⟩;rw[<-List.drop_drop,h];rfl
theorem B0j {d:Nat} {its:List Im} {a:Bool} {c q m:Nat} (h:A0m (A0i d) a (c+1) (its.drop q)=some m):A7n d its a q/\q<B0i d its a q/\∃m',A0m (A0i d) a c (its.drop (B0i d its a q))=some m'/\q+m=B0i d its a q+m':=by
 cases a with
 |false=>
  rw[B2u]at h;by_cases e:A0i d (its.drop q)=0
  ·rw[if_pos e]at h;cases h
  ·rw[if_neg e,List.drop_drop]at h
   unfold A7n B0i;simp only[Bool.false_eq_true,if_false];cases f:A0m (A0i d) false c (its.drop (q+A0i d (its.drop q)))with
   |none=>rw[f]at h;cases h
   |some m'=>
    rw[f]at h;simp at h;exact⟨e,by omega,m',rfl,by omega⟩
 |true=>
  by_cases b:D5p (its.drop q)=none
  ·rw[A7x b]at h;cases h
  ·obtain⟨-,l⟩:=B0h (sz:=A0i d) (c:=c) b
   rw[l,List.drop_drop]at h;by_cases e:A0i d (its.drop (q+1))=0
   ·rw[if_pos e]at h;cases h
   ·rw[if_neg e,List.drop_drop]at h
    unfold A7n B0i;simp only[if_true];cases i:its.drop q with
    |nil=>rw[i]at b;exact absurd rfl b
    |cons x r=>
     obtain⟨j,n,o⟩:=D0c i
     have g:x.k=4/\A0z x=true:=by
      rw[i]at b;unfold D5p at b;simp only at b;by_cases g:x.k=4/\A0z x=true
      ·exact g
      ·rw[if_neg g]at b;exact absurd rfl b
     cases f:A0m (A0i d) true c (its.drop (q+1+A0i d (its.drop (q+1))))with
     |none=>rw[f]at h;cases h
     |some m'=>
      rw[f]at h;simp at h;exact⟨⟨x,j,g.1,g.2,e⟩,by omega,m',rfl,by omega⟩
theorem C3w {its:List Im} {q:Nat} {x:Im} (h:its[q]? =some x):A5y its q=x.s:=by unfold A5y;rw[h];rfl
theorem C6y (d:Nat) (indent:Int) (so:Bool) (its:List Im) (a:Bool) (c q m:Nat) (h:A0m (A0i d) a c (its.drop q)=some m):A7m (A0i d) (wrD indent so d) indent a c (its.drop q)=(A1n d its a c q).map (A7y d indent so its a):=by
 induction c generalizing q m with
 |zero=>rfl
 |succ c ih=>
  obtain⟨l,-,n,i,-⟩:=B0j h;have b:=ih _ _ i;cases a with
  |false=>
   conv=>lhs;unfold A7m
   rw[if_neg (by simp),List.drop_drop];rw[A1n,List.map_cons,<-b];rfl
  |true=>
   cases e:its.drop q with
   |nil=>
    rw[e]at h;have j:A0m (A0i d) true (c+1) []=none:=A7x rfl;rw[j]at h;cases h
   |cons x r=>
    obtain⟨f,g,k⟩:=D0c e
    conv=>lhs;unfold A7m
    rw[if_pos rfl];simp only;rw[A1n,List.map_cons,<-b,g,List.drop_drop];unfold A7y B0i;rw[if_pos rfl,if_pos rfl,C3w f]
theorem C0v (d:Nat) (its:List Im) (f:Bool) (c q m:Nat) (h:A0m (A0i d) f c (its.drop q)=some m):(A1n d its f c q).Pairwise (·< ·)/\(∀y,y∈A1n d its f c q->q<=y/\A7n d its f y)/\(A1n d its f c q).length=c:=by
 induction c generalizing q m with
 |zero=>exact⟨List.Pairwise.nil,λy g=>by simp[A1n]at g,rfl⟩
 |succ c ih=>
  obtain⟨j,i,l,k,-⟩:=B0j h;obtain⟨a,b,e⟩:=ih _ _ k;rw[A1n];refine⟨List.pairwise_cons.2 ⟨λy g=>Nat.lt_of_lt_of_le i (b y g).1,a⟩,λy g=>?_,by simp[e]⟩;rcases List.mem_cons.1 g with rfl|g
  ·exact⟨Nat.le_refl _,j⟩
  ·exact⟨Nat.le_trans (Nat.le_of_lt i) (b y g).1,(b y g).2⟩
theorem A7n.lt {d:Nat} {its:List Im} {a:Bool} {q:Nat} (h:A7n d its a q):q<its.length:=by
 unfold A7n at h;cases a with
 |true=>simp only[if_true]at h;obtain⟨x,b,_⟩:=h;exact(List.getElem?_eq_some_iff.1 b).1
 |false=>
  simp only[Bool.false_eq_true,if_false]at h;have:=A5w d (its.drop q);rw[List.length_drop]at this;omega
def B7t (key:Nat->LU8) (so:Bool) (L:List Nat) (p:Nat):List Nat:=
 L.take (if so=true then A5z (L.map key) (key p) L.length else L.length)++[p]++L.drop (if so=true then A5z (L.map key) (key p) L.length else L.length)
theorem E6h (a:Nat->LU8) (f:Nat->KT) (so:Bool) (b:so=true->∀q,(f q).1=a q) (L:List Nat) (p:Nat):B2z so (L.map f) (f p)=(B7t a so L p).map f:=by
 unfold B2z B7t;cases so with
 |false=>
  simp only[Bool.false_eq_true,if_false,List.length_map,List.take_length,List.drop_length,List.append_nil,List.map_append,List.map_cons,List.map_nil];have d:(L.map f).length=L.length:=by simp
  rw[List.take_of_length_le (by omega),List.drop_of_length_le (by omega),List.append_nil]
 |true=>
  have c:(L.map f).map (·.1)=L.map a:=by
   rw[List.map_map];apply List.map_congr_left;intro q _;exact b rfl q
  simp only[if_true,c,b rfl p,List.length_map,List.map_append,List.map_take,List.map_drop,List.map_cons,List.map_nil]
theorem F3b (a:Nat->LU8) (f:Nat->KT) (so:Bool) (b:so=true->∀q,(f q).1=a q) (L M:List Nat):(L.map f).foldl (B2z so) (M.map f)=(L.foldl (B7t a so) M).map f:=by
 induction L generalizing M with
 |nil=>rfl
 |cons p L ih=>
  rw[List.map_cons,List.foldl_cons,List.foldl_cons,E6h a f so b,ih]
theorem D9d (a:Nat->LU8) (L M:List Nat):L.foldl (B7t a false) M=M++L:=by
 induction L generalizing M with
 |nil=>simp
 |cons p L ih=>
  rw[List.foldl_cons,ih];unfold B7t;simp
theorem D9e (b:List (LU8)) (a:LU8) (k:Nat):(∀j,A5z b a k<=j->j<k->ltB a (b[j]?.getD [])=true)/\(A5z b a k=0\/ltB a (b[A5z b a k-1]?.getD [])=false):=by
 induction k with
 |zero=>exact⟨λj _ h=>absurd h (by omega),.inl rfl⟩
 |succ k ih=>
  by_cases h:ltB a (b[k]?.getD [])=true
  ·have e:A5z b a (k+1)=A5z b a k:=by simp only[A5z];rw[if_pos h]
   rw[e];refine⟨λj h1 h2=>?_,ih.2⟩;by_cases c:j=k
   ·subst c;exact h
   ·exact ih.1 j h1 (by omega)
  ·have e:A5z b a (k+1)=k+1:=by simp only[A5z];rw[if_neg h]
   rw[e];exact⟨λj h1 h2=>absurd h2 (by omega),.inr (by simpa using h)⟩
theorem D0d (a:Nat->LU8) (L:List Nat) (p:Nat) (o:L.Pairwise (KO a)) (r:∀y,y∈L->y<p):(B7t a true L p).Pairwise (KO a)/\(B7t a true L p).Perm (L++[p]):=by
 obtain⟨s,t⟩:=D9e (L.map a) (a p) L.length;have q:=B8j (L.map a) (a p) L.length;unfold B7t;simp only[if_true];generalize A5z (L.map a) (a p) L.length=k at*;have c:∀j (e:j<L.length),((L.map a)[j]?).getD []=a L[j]:=λj e=>by rw[List.getElem?_map,List.getElem?_eq_getElem e];rfl
 constructor
 ·rw[List.append_assoc]
  show(L.take k++p::L.drop k).Pairwise (KO a)
  refine C5y (by rw[List.take_append_drop];exact o) ?_ ?_
  ·intro y g
   obtain⟨j,e,rfl⟩:=List.getElem_of_mem g;rw[List.length_drop]at e;have:=s (k+j) (by omega) (by omega);rw[c _ (by omega)]at this;rw[List.getElem_drop];exact .inl this
  ·intro y g
   have m:y∈L:=List.mem_of_mem_take g
   have f:ltB (a p) (a y)=false:=by
    obtain⟨j,e,rfl⟩:=List.getElem_of_mem g;rw[List.length_take]at e;rw[List.getElem_take];rcases t with d|d
    ·omega
    ·rw[c _ (by omega)]at d
     by_cases i:j=k-1
     ·subst i;exact d
     ·have l:KO a L[j] L[k-1]:=List.pairwise_iff_getElem.1 o j (k-1) (by omega) (by omega) (by omega)
      by_cases b:ltB (a p) (a L[j])=true
      ·rcases l with h|⟨h,_⟩
       ·rw[B4z b h]at d;cases d
       ·rw[h]at b;rw[b]at d;cases d
      ·simpa using b
   rcases C0d (a y) (a p)with h|h|h
   ·exact .inl h
   ·exact .inr ⟨h,r y m⟩
   ·rw[h]at f;cases f
 ·rw[List.append_assoc]
  have n:(L.take k++([p]++L.drop k)).Perm (L.take k++(L.drop k++[p])):=List.Perm.append_left _ List.perm_append_comm;rw[<-List.append_assoc (L.take k) (L.drop k),List.take_append_drop]at n;exact n
theorem C0w (d:Nat->LU8) (L M:List Nat) (h:M.Pairwise (KO d)) (k:L.Pairwise (·< ·)) (g:∀y,y∈M->∀x,x∈L->y<x):(L.foldl (B7t d true) M).Pairwise (KO d)/\(L.foldl (B7t d true) M).Perm (M++L):=by
 induction L generalizing M with
 |nil=>exact⟨h,by simp⟩
 |cons p L ih=>
  obtain⟨a,b⟩:=D0d d M p h (λy f=>g y f p (by simp));obtain⟨i,j⟩:=List.pairwise_cons.1 k
  obtain⟨c,e⟩:=ih (B7t d true M p) a j (λy f x hx=>by
   have f:=b.mem_iff.1 f;rcases List.mem_append.1 f with f|f
   ·exact g y f x (by simp[hx])
   ·simp at f;subst f;exact i x hx)
  refine⟨c,e.trans ?_⟩;have:=b.append_right L;rw[List.append_assoc]at this;exact this
def D9f (key:Nat->LU8) (so:Bool) (L:List Nat):List Nat:=L.foldl (B7t key so) []
theorem B6s (a:Nat->LU8) (L:List Nat):D9f a false L=L:=by unfold D9f;rw[D9d];rfl
theorem F3c (c:Nat->LU8) (L Z:List Nat) (d:L.Pairwise (·< ·)) (e:Z.Perm L) (f:Z.Pairwise (KO c)):Z=D9f c true L:=by
 obtain⟨a,b⟩:=C0w c L [] List.Pairwise.nil d (λy hy=>by simp at hy);exact D8f (KO.tr c) (KO.irrefl c) (e.trans b.symm) f a
theorem E6i (a:Nat->LU8) (so:Bool) (L:List Nat) (b:L.Pairwise (·< ·)):(D9f a so L).Perm L:=by
 cases so with
 |false=>rw[B6s]
 |true=>exact(C0w a L [] List.Pairwise.nil b (λy hy=>by simp at hy)).2
theorem E6j (d:Nat) (indent:Int) (so:Bool) (its:List Im) (a:Bool) (c q m:Nat) (h:A0m (A0i d) a c (its.drop q)=some m):
 (F8m (so&&a) (A7m (A0i d) (wrD indent so d) indent a c (its.drop q))).map (·.2)=(D9f (A5y its) (so&&a) (A1n d its a c q)).map (λy=>(A7y d indent so its a y).2):=by
 rw[C6y d indent so its a c q m h]
 have:=F3b (A5y its) (A7y d indent so its a) (so&&a) (λht y=>by
  have:a=true:=by cases a<;>simp_all
  subst this;unfold A7y
  rw[if_pos rfl]) (A1n d its a c q) []
 unfold F8m;rw[show([]:List KT)=([]:List Nat).map (A7y d indent so its a)from rfl,this,List.map_map];rfl
theorem F8r (w:World) (o g a cap:Nat) (its:List Im) (beh:List Nat) (h:OL w o g a cap its beh its.length):
 Calls Tryz.prog 124 #[.pointer (some ⟨o,0,none⟩)] w (B1h w o g a cap its beh its.length none):=by
 obtain⟨d,e,f,i⟩:=h.three;have b:=hid (λn=>OPost.same h ((Fr.refl (λ_=>False) w).drewN n));clear h;have c:decide ((its.length:Int)<(its.length:Int))=false:=dcF (by omega);generalize its.length=n at*;go_enter Tryz.func124,Tryz.ntmps124;go_wp2;go_quiet (fail);go_wp2;go_ret;exact⟨rfl,_,_,b.out _⟩
theorem E6k (w:World) (o g f cap:Nat) (its:List Im) (beh:List Nat) (a:Nat) (x:Im) (h:OL w o g f cap its beh a) (d:its[a]? =some x) (_hl:its.length<=10000000) (e:x.k≠4):
 Calls Tryz.prog 124 #[.pointer (some ⟨o,0,none⟩)] w (B1h w o g f cap its beh a none):=by
 obtain⟨⟨t,u,v,y⟩,⟨m,p,q,r⟩,-⟩:=h.all d;have i:=hid (λn=>OPost.same h ((Fr.refl (λ_=>False) w).drewN n));have l:a<its.length:=(List.getElem?_eq_some_iff.1 d).1;have j:decide ((a:Int)<(its.length:Int))=true:=dcT (by omega);have c:(x.k==4)=false:=bqF e;clear h d e;obtain⟨k,n,b,s⟩:=x;simp only at m p q r c;generalize its.length=L at*;go_enter Tryz.func124,Tryz.ntmps124;go_wp2;go_quiet (fail);go_wp2;go_ret;exact⟨rfl,_,_,i.out _⟩
theorem F3d (w:World) (o g f cap:Nat) (its:List Im) (beh:List Nat) (a:Nat) (x:Im) (r:Option Nat) (bo:Bool) (h:OL w o g f cap its beh a) (q:its[a]? =some x) (_hl:its.length<=10000000) (u:x.k=4)
 (t:∀wx,OL wx o g f cap its beh a->Calls Tryz.prog 41 #[.pointer (some ⟨o,0,none⟩),.int .i64 0] wx (B1h wx o g f cap its beh a r)) (hr:bo=r.isSome):
 Calls Tryz.prog 124 #[.pointer (some ⟨o,0,none⟩)] w (B1h w o g f cap its beh a r):=by
 obtain⟨⟨G,H,I,J⟩,⟨C,D,E,F⟩,-⟩:=h.all q;have i:=hid (λn=>OPost.same h ((Fr.refl (λ_=>False) w).drewN n));have A:a<its.length:=(List.getElem?_eq_some_iff.1 q).1;have z:decide ((a:Int)<(its.length:Int))=true:=dcT (by omega)
 have v:=hid (λn=>(t (w.drewN n) (h.fr ((Fr.refl (λ_=>False) w).drewN n))).mono (R':=λe w'=>e=.returned (.bool bo)/\B1h w o g f cap its beh a r e w') (λe w' d=>by
  subst hr;cases r with
  |none=>obtain⟨c,l,B,p⟩:=d;exact⟨c,c,l,B,(i.out n).trans p⟩
  |some m=>obtain⟨c,l,p,y⟩:=d;exact⟨c,c,l,(i.out n).trans p,y⟩))
 clear h q t i hr;obtain⟨k,n,b,s⟩:=x;simp only at C D E F u;subst u;generalize its.length=L at*;go_enter Tryz.func124,Tryz.ntmps124;go_wp2
 go_still_tail 26,Tryz.mixedR
 go_wp2_with (first|(go_at_call 41;refine Calls.mono (v.out 1) ?_;rintro e K ⟨rfl,d⟩;have j:=hid d;clear d)|fail)
 go_ret;exact j.out
theorem F8s (p:D2z 0):F8q:=by
 intro w o g e cap its beh a h i r q;by_cases j:a=its.length
 ·subst j
  rw[List.drop_eq_nil_of_le (Nat.le_refl _)];exact F8r w o g e cap its beh h
 ·have b:a<its.length:=by have:=h.nxle;omega
  have m:its[a]? =some its[a]:=List.getElem?_eq_getElem b;have f:its.drop a=its[a]::its.drop (a+1):=List.drop_eq_getElem_cons b;obtain⟨x,n⟩:∃x,its[a]=x:=⟨_,rfl⟩;rw[n]at m f;rw[f];by_cases d:x.k=4
  ·have l:szO (A0i 0 (its.drop a))=D5p (x::its.drop (a+1)):=by
    rw[f]
    show szO (if A0z x=true/\x.k<5 then 1 else 0)=(if x.k=4/\A0z x=true then some 1 else none)
    by_cases c:A0z x=true
    ·rw[if_pos ⟨c,by omega⟩,if_pos ⟨d,c⟩];rfl
    ·rw[if_neg (λh=>c h.1),if_neg (λh=>c h.2)];rfl
   refine F3d w o g e cap its beh a x (D5p (x::its.drop (a+1))) _ h m i d (λwx hox=>?_) rfl;rw[<-l];exact p wx o g e cap its beh a hox i r q (by omega)
  ·have:D5p (x::its.drop (a+1))=none:=by
    show(if x.k=4/\A0z x=true then some 1 else none)=none
    rw[if_neg (λh=>d h.1)]
   rw[this];exact E6k w o g e cap its beh a x h m i d
theorem G4n (d:Nat) (a:D2z d) (m:F8q):G3n d:=by
 intro w o g j cap its beh l N b k s h f i c e n;rcases n with rfl|rfl
 ·exact D8x d a w o g j cap its beh l N b s h f i c e
 ·exact D8y d a m w o g j cap its beh l N b s h f i c e
theorem D5u (d:Nat) (E:∀e,d=e+1->G3n e):D2z d:=by
 intro w o g t cap its beh c h v z u F;by_cases C:c=its.length
 ·subst C
  rw[List.drop_eq_nil_of_le (Nat.le_refl _)];have:szO (A0i d [])=none:=by cases d<;>rfl
  rw[this];exact F8n d w o g t cap its beh h
 ·have y:c<its.length:=by have:=h.nxle;omega
  have r:its[c]? =some its[c]:=List.getElem?_eq_getElem y;have i:its.drop c=its[c]::its.drop (c+1):=List.drop_eq_getElem_cons y;obtain⟨x,D⟩:∃x,its[c]=x:=⟨_,rfl⟩;rw[D]at r i;have a:x∈its:=List.mem_of_getElem? r;by_cases l:A0z x=true
  ·by_cases q:x.k<5
   ·have p:A0i 0 (its.drop c)=1:=by rw[i,A0i,if_pos ⟨l,q⟩]
    have G:A0i d (its.drop c)=1:=by rw[<-p];exact B2b 0 d _ (by rw[p];omega) (Nat.zero_le _)
    rw[G];exact F2t d w o g t cap its beh c x h r v (z x a) (u x a) l q p
   ·cases d with
    |zero=>
     have p:A0i 0 (its.drop c)=0:=by rw[i,A0i,if_neg (λh=>q h.2)]
     rw[p];exact F2u w o g t cap its beh c x h r v (z x a) (u x a) l q
    |succ e=>
     obtain⟨j,B⟩:=A5i l q;have f:A0i (e+1) (its.drop c)=D2i (A0m (A0i e) (decide (x.k=6)) x.n.toNat (its.drop (c+1))):=by rw[i,A0i,if_pos l,if_neg q]
     obtain⟨k,n,b,s⟩:=x;simp only at j B f q;obtain⟨N,rfl⟩:∃N:Nat,n=N:=⟨n.toNat,by omega⟩;rw[Int.toNat_natCast]at f;cases A:A0m (A0i e) (decide (k=6)) N (its.drop (c+1))with
     |none=>
      rw[A]at f;rw[f];exact D3b e (E e rfl) w o g t cap its beh c N b k s h r v z u F l j A
     |some m=>
      rw[A]at f;rw[f];exact C9y e (E e rfl) w o g t cap its beh c N b m k s h r v z u F l j A f
  ·have p:A0i d (its.drop c)=0:=by
    rw[i];cases d with
    |zero=>rw[A0i,if_neg (λh=>l h.1)]
    |succ e=>rw[A0i,if_neg l]
   rw[p];exact F8p d w o g t cap its beh c x h r v (z x a) (u x a) (by simpa using l)
theorem E6m (d:Nat):D2z d:=by
 have a:D2z 0:=D5u 0 (λe he=>by omega);have b:=F8s a
 induction d with
 |zero=>exact a
 |succ d ih=>exact D5u (d+1) (λe he=>by
   have:d=e:=by omega
   subst this
   exact G4n d ih b)
theorem Tryz.info3B:(Tryz.prog.info? 3).map (λi=>(i.zero,i.size,i.bytes))=some (some (.int .i64 0),1,8):=by kernel_rfl
theorem D0e (w:World) (n:Nat) (a:n<=10000000):(w.alloc (.cells (madeCells #[Value.int .i64 0] n) 3)).ownsRow 0 3 1 (.slice (some ⟨w.heap.size,0,none⟩) n n) n ((List.replicate n 0).map D1w):=by
 have:=World.ownsRow_lit w (e:=3) (size:=1) (base:=0) (madeCells #[Value.int .i64 0] n) n (Nat.zero_le _) (by unfold maxLen;omega) (by rw[size_madeCells];omega);rw[toList_madeCells_one]at this;rw[List.map_replicate];exact this
theorem F3e {w:World} (h:C0f w):2<=w.heap.size:=A3t (h.2 0 (by omega)).1
theorem OL.first {w:World} {b cap:Nat} {its:List Im} (d:B9r w (.slice (some ⟨b,0,none⟩) its.length cap) its) (e:C0f w) (h:its.length<=10000000) (a:Obj):
 OL (((w.alloc a).alloc (.cells (madeCells #[Value.int .i64 0] its.length) 3)).alloc (.cells #[.slice (some ⟨b,0,none⟩) its.length cap,.slice (some ⟨w.heap.size+1,0,none⟩) its.length its.length,.int .i64 0] 61)) (w.heap.size+2) (w.heap.size+1) b cap its (List.replicate its.length 0) 0:=by
 have c:=(((Fr.refl (λ_=>False) w).alloc a).alloc (.cells (madeCells #[Value.int .i64 0] its.length) 3)).alloc (.cells #[.slice (some ⟨b,0,none⟩) its.length cap,.slice (some ⟨w.heap.size+1,0,none⟩) its.length its.length,.int .i64 0] 61);have g:=B2a d;have k:=F3e e;have i:(w.alloc a).heap.size=w.heap.size+1:=by simp
 have j:((w.alloc a).alloc (.cells (madeCells #[Value.int .i64 0] its.length) 3)).heap.size=w.heap.size+2:=by simp
 have f:=heap_alloc_new ((w.alloc a).alloc (.cells (madeCells #[Value.int .i64 0] its.length) 3)) (.cells #[.slice (some ⟨b,0,none⟩) its.length cap,.slice (some ⟨w.heap.size+1,0,none⟩) its.length its.length,.int .i64 0] 61);rw[j]at f;have hr:=D0e (w.alloc a) its.length h;rw[i]at hr;exact⟨f,A7e hr ((Fr.refl (λ_=>False) _).alloc _) (λ_ _=>id),d.fr c (λ_ _=>id),by omega,by omega,by omega,e.fr c id id,by omega,by omega,Nat.zero_le _⟩
structure OutOk (w w':World) (ig cap:Nat) (its:List Im) (v:Value) (g:Nat) (beh:List Nat):Prop where
 val:v=.agg #[.slice (some ⟨ig,0,none⟩) its.length cap,.slice (some ⟨g,0,none⟩) its.length its.length,.int .i64 (its.length:Int)]
 row:w'.ownsRow 0 3 1 (.slice (some ⟨g,0,none⟩) its.length its.length) its.length (beh.map D1w)
 beh:C2b beh its 0 its.length
 new:w.heap.size<=g
theorem D5v {w a:World} {n:Nat} {b c d:Value} {e:Obj} (h:Fr (λi=>i=w.heap.size+2\/i=w.heap.size+1) (((w.alloc (.cells #[b,c,d] 61)).alloc (.cells (madeCells #[Value.int .i64 0] n) 3)).alloc e) a):
 a.cell? ⟨w.heap.size,0,none⟩=some b/\a.cell? ⟨w.heap.size,1,none⟩=some c/\a.cell? ⟨w.heap.size,2,none⟩=some d/\(∀j,a.frozen? ⟨w.heap.size,j,none⟩=false)/\a.heap[w.heap.size]? =some (.cells #[b,c,d] 61 (0,0)):=by
 have f:=heap_alloc_new w (.cells #[b,c,d] 61);have g:=(((Fr.refl (λ_=>False) (w.alloc (.cells #[b,c,d] 61))).alloc (.cells (madeCells #[Value.int .i64 0] n) 3)).alloc e).heap f id;have k:=h.heap g (by omega);exact⟨A0a k rfl,A0a k rfl,A0a k rfl,λ_=>A0b k,k⟩
theorem D5w {d:World} {g:Nat} {j k l:Value} (h:d.heap[g]? =some (.cells #[j,k,l] 61 (0,0))) (a b c:Value):
 (loadVar 61 ⟨g,0,none⟩).run Tryz.prog (((d.setCell ⟨g,0,none⟩ a).setCell ⟨g,1,none⟩ b).setCell ⟨g,2,none⟩ c)=.ok (.agg #[a,b,c]) (((d.setCell ⟨g,0,none⟩ a).setCell ⟨g,1,none⟩ b).setCell ⟨g,2,none⟩ c):=by
 have e:=heap_setCell_same d g 0 _ 61 a h;have f:=heap_setCell_same _ g 1 _ 61 b e;have i:=heap_setCell_same _ g 2 _ 61 c f;exact run_loadVar_row _ g 61 61 #[a,b,c] (0,0) _ i Tryz.underlying61 rfl (by kernel_rfl)
theorem B0k {w d:World} (e:Fr (λ_=>False) w d) (a b c:Value):Fr (λ_=>False) w (((d.setCell ⟨w.heap.size,0,none⟩ a).setCell ⟨w.heap.size,1,none⟩ b).setCell ⟨w.heap.size,2,none⟩ c):=
 ((e.setCell (p:=⟨w.heap.size,0,none⟩) (.inr (Nat.le_refl _)) a).setCell (p:=⟨w.heap.size,1,none⟩) (.inr (Nat.le_refl _)) b).setCell (p:=⟨w.heap.size,2,none⟩) (.inr (Nat.le_refl _)) c
theorem D5x (w:World) (a b c:Obj):Fr (λ_=>False) w (((w.alloc a).alloc b).alloc c):=(((Fr.refl _ w).alloc _).alloc _).alloc _
theorem D9g (w:World) (f cap:Nat) (its:List Im) (t:B9r w (.slice (some ⟨f,0,none⟩) its.length cap) its) (u:C0f w) (o:its.length<=10000000) (z:∀x,x∈its->x.s.length<=100000000) (y:Bok its) (A:A0i 1000 its=0):
 Calls Tryz.prog 25 #[.slice (some ⟨f,0,none⟩) its.length cap] w λe w'=>Fr (λ_=>False) w w'/\∃(k m:Nat),e=.returned (.tuple #[.agg #[.slice (some ⟨f,0,none⟩) its.length cap,.slice (some ⟨k,0,none⟩) its.length its.length,.int .i64 (m:Int)],.bool false]):=by
 have p:=run_make_row' (P:=Tryz.prog) 59 3 (.int .i64 0) 8 Tryz.underlying59 Tryz.info3B rfl .i64 .i64 its.length (by omega) (by omega);have g:=hid (λo1=>OL.first t u o o1);have l:=hid (λ(wx:World) (hx:OL wx (w.heap.size+2) (w.heap.size+1) f cap its (List.replicate its.length 0) 0)=>E6m 1000 wx _ _ f cap its _ 0 hx o z y (Nat.le_refl _));rw[List.drop_zero,C6u A]at l;clear t u z y A;have d:=hid (λC r q (hx:OL C (w.heap.size+2) (w.heap.size+1) f cap its r q)=>hx.three);obtain⟨n,E⟩:∃n,its.length=n:=⟨_,rfl⟩;rw[E]at p o g l d ⊢;go_enter Tryz.func25,Tryz.ntmps25
 go_wp2_with fail
 refine Calls.mono (l.out _ (g.out _)) ?_;rintro e C ⟨rfl,r,q,h⟩;obtain⟨J,K,L,M,B⟩:=D5v h.fr;have j:=hid (λa b c=>D5w B a b c);clear B;obtain⟨F,G,H,I⟩:=d.out _ _ _ h.ol;have D:=hid ((D5x w _ _ _).trans' h.fr (by rintro i (rfl|rfl)<;>exact .inr (by omega)));clear h d;go_wp2
 (try simp only[Exit.inBlock,Exit.then])
 refine bodyPost_ret (v:=.tuple #[.agg #[.slice (some ⟨f,0,none⟩) n cap,.slice (some ⟨w.heap.size+1,0,none⟩) n n,.int .i64 (q:Int)],.bool false]) ?_ rfl ⟨B0k D.out _ _ _,_,_,rfl⟩;rw[results_cell_tmp rfl];simp[asAddr,Result.andThen,j.out]
theorem B7h (w:World) (h cap:Nat) (its:List Im) (C:B9r w (.slice (some ⟨h,0,none⟩) its.length cap) its) (D:C0f w) (z:its.length<=10000000) (F:∀x,x∈its->x.s.length<=100000000) (E:Bok its) (G:A0i 1000 its≠0):
 Calls Tryz.prog 25 #[.slice (some ⟨h,0,none⟩) its.length cap] w λe w'=>Fr (λ_=>False) w w'/\∃v,e=.returned (.tuple #[v,.bool ((A0i 1000 its:Int)==(its.length:Int))])/\(∃(k m:Nat),v=.agg #[.slice (some ⟨h,0,none⟩) its.length cap,.slice (some ⟨k,0,none⟩) its.length its.length,.int .i64 (m:Int)])/\(A0i 1000 its=its.length->∃g beh,OutOk w w' h cap its v g beh):=by
 have B:=run_make_row' (P:=Tryz.prog) 59 3 (.int .i64 0) 8 Tryz.underlying59 Tryz.info3B rfl .i64 .i64 its.length (by omega) (by omega);have r:=hid (λo1=>OL.first C D z o1);have t:=hid (λ(wx:World) (hx:OL wx (w.heap.size+2) (w.heap.size+1) h cap its (List.replicate its.length 0) 0)=>E6m 1000 wx _ _ h cap its _ 0 hx z F E (Nat.le_refl _));rw[List.drop_zero,C6v G]at t;clear C D F E G;obtain⟨m,A⟩:∃m,A0i 1000 its=m:=⟨_,rfl⟩;rw[A]at t ⊢;have l:=hid (λj o n2 (hx:OL j (w.heap.size+2) (w.heap.size+1) h cap its o n2)=>hx.three)
 have d:=hid (λ(j:World) (o:List Nat) (hx:OL j (w.heap.size+2) (w.heap.size+1) h cap its o m) (f:C2b o its 0 m) (a b c:Value)=>(show m=its.length->∃g beh,OutOk w (((j.setCell ⟨w.heap.size,0,none⟩ a).setCell ⟨w.heap.size,1,none⟩ b).setCell ⟨w.heap.size,2,none⟩ c) h cap its (.agg #[.slice (some ⟨h,0,none⟩) its.length cap,.slice (some ⟨w.heap.size+1,0,none⟩) its.length its.length,.int .i64 (m:Int)]) g beh from by
  rintro rfl
  have J:Fr (λi=>i=w.heap.size) j (((j.setCell ⟨w.heap.size,0,none⟩ a).setCell ⟨w.heap.size,1,none⟩ b).setCell ⟨w.heap.size,2,none⟩ c):=
   (((Fr.refl (λi=>i=w.heap.size) j).setCell (p:=⟨w.heap.size,0,none⟩) (.inl rfl) a).setCell (p:=⟨w.heap.size,1,none⟩) (.inl rfl) b).setCell (p:=⟨w.heap.size,2,none⟩) (.inl rfl) c
  exact⟨w.heap.size+1,o,rfl,A7e hx.row J (by rintro i K rfl;simp[Value.ownBlock]at K),f,by omega⟩))
 have M:=hid A;clear A;obtain⟨n,L⟩:∃n,its.length=n:=⟨_,rfl⟩;rw[L]at B z r t l d ⊢;go_enter Tryz.func25,Tryz.ntmps25
 go_wp2_with fail
 refine Calls.mono (t.out _ (r.out _)) ?_;rintro e j ⟨rfl,o,q,f⟩;rw[Nat.zero_add]at q f;obtain⟨S,T,U,V,H⟩:=D5v q.fr;have y:=hid (λa b c=>D5w H a b c);clear H;obtain⟨N,O,Q,R⟩:=l.out _ _ _ q.ol;have I:=hid ((D5x w _ _ _).trans' q.fr (by rintro i (rfl|rfl)<;>exact .inr (by omega)));have u:=hid (λa b c=>d.out j o q.ol f a b c);clear q f l d;go_wp2
 all_goals
  (try simp only[Exit.inBlock,Exit.then])
  refine bodyPost_ret (v:=.tuple #[.agg #[.slice (some ⟨h,0,none⟩) n cap,.slice (some ⟨w.heap.size+1,0,none⟩) n n,.int .i64 (m:Int)],.bool ((m:Int)==(n:Int))]) ?_ rfl ⟨B0k I.out _ _ _,_,rfl,⟨_,_,rfl⟩,u.out _ _ _⟩;rw[results_cell_tmp rfl];simp[asAddr,Result.andThen,y.out]
shelf_lay Lays.n105 Nm 105 at Tryz as Tryz.laysRepeat
theorem F3f:Builder.Extra Tryz.prog Tryz.laysRepeat_ren where
 sizeBuilder:=by kernel_rfl
 liesBuilder:=by kernel_rfl
 t5:=Tryz.underlying5
 a5:=Tryz.isAgg5
 z5:=Tryz.sizeOf5
 v5:=Tryz.zeroValue5
 infoByte:=by kernel_rfl
 cellsByte:=by kernel_rfl
 sizeByte:=by kernel_rfl
 neB5:=by decide
theorem C3x (s:ByteArray) (c:Nat) (w:World) (b:c<=9223372036854775807) (a:s.size*c<=140737488355328):
 Calls Tryz.prog 110 #[.string s,.int .i64 c] w λe w'=>e=.returned (.string ⟨(Lib.repeatL s.data.toList c).toArray⟩)/\Below w.heap.size w w':=Any.strings_Repeat Tryz.laysRepeat F3f s c w b a
#print axioms C3x
theorem F8t (c:Nat):Lib.repeatL [(32:UInt8)] c=List.replicate c 32:=by
 induction c with
 |zero=>rfl
 |succ c ih=>rw[List.replicate_succ,<-ih];rfl
theorem D9h (c:Nat) (w:World) (b:c<=1000000):
 Calls Tryz.prog 110 #[.string ⟨#[32]⟩,.int .i64 c] w λe w'=>e=.returned (.string (ofL (List.replicate c 32)))/\Fr (λ_=>False) w w':=by
 refine(C3x ⟨#[32]⟩ c w (by omega) (by show 1*c<=_;omega)).mono ?_;rintro e w' ⟨rfl,a⟩;refine⟨?_,.ofBelow a⟩;rw[<-F8t];rfl
theorem WAt.fr {B:Nat} {w w':World} {g f:Value} {d a:Int} {so:Bool} {e:Nat} {b i:Value} {bs:LU8} (h:WAt B w g f d a so e b i bs) (c:Fr (λ_=>False) w w'):WAt B w' g f d a so e b i bs:=
 ⟨c.heap h.blk id,h.adr,A7e h.row c (λ_ _=>id)⟩
theorem WAt.two {B:Nat} {w:World} {f e:Value} {d a:Int} {so:Bool} {b:Nat} {c g:Value} {bs:LU8} (h:WAt B w f e d a so b c g bs):w.cell? ⟨B,3,none⟩=some (.int .i64 a)/\w.cell? ⟨B,5,none⟩=some (.int .i64 (b:Int)):=
 ⟨A0a h.blk rfl,A0a h.blk rfl⟩
theorem D0f (B:Nat) (w:World) (f d:Value) (b:Int) (so:Bool) (c:Nat) (a g:Value) (bs:LU8) (h:WAt B w f d b (-1) so c a g bs):
 Calls Tryz.prog 74 #[.pointer (some ⟨B,0,none⟩)] w λe w'=>e=.returned (.tuple #[])/\w'=w:=by
 obtain⟨i,j⟩:=h.two;clear h;go_enter Tryz.func74,Tryz.ntmps74;go_wp2
 go_returns
 exact⟨rfl,rfl⟩
theorem D0g (B:Nat) (w:World) (i g:Value) (f:Int) (n:Nat) (so:Bool) (a:Nat) (A v:Value) (bs:LU8) (h:WAt B w i g f (n:Int) so a A v bs) (O:n<=16) (u:a<=1001) (S:bs.length<=99999970000):
 Calls Tryz.prog 74 #[.pointer (some ⟨B,0,none⟩)] w λe w'=>e=.returned (.tuple #[])/\A2d B w i g f (n:Int) so a v (bs++10::List.replicate (n*a) 32) w':=by
 obtain⟨K,L⟩:=h.two;have H:=hid (show Calls Tryz.prog 44 #[.pointer (some ⟨B,6,none⟩),.int .u8 10] w _ from A1r B w i g f n so a A v bs 10 h (by omega));have D:n*a<=16*1001:=Nat.mul_le_mul O u
 have C:IntKind.i64.wrap ((n:Int)*(a:Int))=((n*a:Nat):Int):=by
  have e:(n:Int)*(a:Int)=((n*a:Nat):Int):=by simp
  rw[e];exact IntWalk.i64_in _ (by omega)
 have J:=hid (λwx=>D9h (n*a) wx (by omega));have I:=hid (λ(wx:World) (vo':Value) (hx:WAt B wx i g f (n:Int) so a (.pointer (some ⟨B,6,none⟩)) vo' (bs++[10]))=>A1k B wx i g f n so a _ vo' (bs++[10]) (List.replicate (n*a) 32) hx (by simp only[List.length_append,List.length_singleton,List.length_replicate];omega));have P:((n:Int)== -1)=false:=bqF (by omega);clear h;generalize n*a=np at*;go_enter Tryz.func74,Tryz.ntmps74
 go_wp2_with fail
 refine Calls.mono H.out ?_;rintro e G ⟨rfl,o,b,j,l⟩;obtain⟨M,N⟩:=b.two;have r:=hid b;have z:=hid (And.intro j l);clear b j l K L;go_wp2
 go_region_held3 (λw'=>w'.cell? ⟨B,3,none⟩=some (.int .i64 (n:Int))/\w'.cell? ⟨B,5,none⟩=some (.int .i64 (a:Int))) (first|exact⟨M,N⟩|exact⟨E,F⟩|go_keep) (first|(go_at_call 110;refine Calls.mono (J.out _) ?_;rintro x Q ⟨rfl,t⟩;have c:=r.fr (((Fr.refl (λ_=>False) G).drewN 1).trans t);obtain⟨E,F⟩:=c.two;have s:=hid c;have p:=hid (((Fr.refl (λ_=>False) G).drewN 1).trans t);clear c t)|(go_at_call 42;refine Calls.mono (I.out _ o s.out) ?_;rintro x R ⟨rfl,y,d,k,m⟩;obtain⟨E,F⟩:=d.two;have q:=hid (show A2d B Q i g f (n:Int) so a o (bs++[10]++List.replicate np 32) R from⟨y,d,k,m⟩);clear d k m))
 go_wp2;go_end0;refine⟨rfl,?_⟩;have:=A2d.trans (z.1.trans (p.mono (λ_=>False.elim))) z.2 q.out;rw[List.append_assoc]at this;exact this
theorem A6s (B:Nat) (w:World) (g f:Value) (d a:Int) (so:Bool) (b:Nat) (c:Value) (bs:LU8) (h:WAt B w g f d a so b (.pointer (some ⟨B,6,none⟩)) c bs) (l: -1<=a) (m:a<=16) (i:b<=1001) (k:bs.length<=99999970000):
 Calls Tryz.prog 74 #[.pointer (some ⟨B,0,none⟩)] w λe w'=>e=.returned (.tuple #[])/\A2d B w g f d a so b c (bs++A6p a b) w':=by
 by_cases j:a= -1
 ·subst j
  refine(D0f B w g f d so b _ c bs h).mono ?_;rintro e w' ⟨rfl,rfl⟩;refine⟨rfl,c,?_,Fr.refl _ _,λ_ hg=>.inl hg⟩;have:bs++A6p (-1) b=bs:=by unfold A6p;simp
  rw[this];exact h
 ·obtain⟨n,rfl⟩:∃n:Nat,a=n:=⟨a.toNat,by omega⟩
  have:A6p (n:Int) b=10::List.replicate (n*b) 32:=by unfold A6p;rw[if_neg (by omega),Int.toNat_natCast]
  rw[this];exact D0g B w g f d n so b _ c bs h (by omega) i k
end Go.Proofs.YtmkkibaacclhnaaGreatDoor
