/-
  Part Wm.
-/
import Derived.Test.YtmkkibaacclhnaaGreatDoorWf
import Derived.Test.YtmkkibaacclhnaaGreatDoorWj
namespace Go.Proofs.YtmkkibaacclhnaaGreatDoor
open Go.RowKit
set_option maxRecDepth 100000
set_option maxHeartbeats 16000000
def uGo:Nat->LU8->Bool
 |_,[]=>true
 |0,_::_=>false
 |f+1,c::r=>if c.toNat<128 then uGo f r else
   if A0n [c]=0\/(c::r).length<A0n [c]then false
   else if A0n ((c::r).take (A0n [c]))=0 then false
   else uGo f ((c::r).drop (A0n ((c::r).take (A0n [c]))))
def isU (s:LU8):Bool:=uGo s.length s
theorem D5c (f g:Nat) (s:LU8) (d:s.length<=f) (b:s.length<=g):uGo f s=uGo g s:=by
 induction f generalizing g s with
 |zero=>
  have:s=[]:=List.eq_nil_of_length_eq_zero (by omega);subst this;cases g<;>rfl
 |succ f ih=>
  cases s with
  |nil=>cases g<;>rfl
  |cons c r=>
   cases g with
   |zero=>simp at b
   |succ g=>
    simp only[List.length_cons]at d b;rw[uGo,uGo];by_cases a:c.toNat<128
    ·rw[if_pos a,if_pos a];exact ih g r (by omega) (by omega)
    ·rw[if_neg a,if_neg a]
     split
     ·rfl
     ·split
      ·rfl
      ·rename_i hz
       have e:((c::r).drop (A0n ((c::r).take (A0n [c])))).length<=r.length:=by
        rw[List.length_drop,List.length_cons];omega
       exact ih g _ (by omega) (by omega)
theorem A5v (c:UInt8) (r:LU8):A0n (c::r)=0\/A0n (c::r)=A2k c.toNat:=by
 show B1w c.toNat r=0\/B1w c.toNat r=_
 unfold B1w;split
 ·exact .inl rfl
 ·split
  ·exact .inl rfl
  ·unfold A4u
   split
   ·exact .inl rfl
   ·exact .inr rfl
theorem E4m (c:UInt8) (r:LU8):A0n (c::r)<=4:=by
 rcases A5v c r with h|h
 ·omega
 ·rw[h]
  unfold A2k
  repeat (first|omega|split)
theorem D8g (l:LU8) (w:World) (hl:l.length<=100000000):
 Calls Tryz.prog 131 #[.string (ofL l)] w λx w'=>x=.returned (.bool (isU l))/\Fr (λ_=>False) w w':=by
 have a1:=A0c l;have v:=hid (λ(c:UInt8) (r:LU8) (w:World) (hr:r.length<=1000000000)=>C3h c r w hr);obtain⟨U,Y⟩:∃U,isU l=U:=⟨_,rfl⟩;have H0:=hid (show uGo l.length l=U from Y);rw[Y];clear Y;go_enter Tryz.func131,Tryz.ntmps131;go_wp2
 go_loopw [3] (λs wr=>∃(at_:Nat),at_<=l.length/\s=.int .i64 (at_:Int)/\Hid (uGo l.length (l.drop at_)=U)/\Hid (Fr (λ_=>False) w wr)) (λs _=>l.length-(intOf s).toNat)
 case atStart=>exact⟨0,by omega,rfl,H0,hid (Fr.refl _ _)⟩
 case round=>
  clear H0;obtain⟨k,hk,rfl,W,P⟩:=hrel;by_cases S:k<l.length
  ·obtain⟨f,Q⟩:∃f,l.length=f+1:=⟨l.length-1,by omega⟩
   have p:l.drop k=l[k]::l.drop (k+1):=List.drop_eq_getElem_cons S;have hg:(ofL l)[k]'(by rw[a1];exact S)=l[k]:=A1d l k _;rw[p]at W;have m:=W.out;have hr:(l.drop (k+1)).length=l.length-(k+1):=by simp
   have a3:(ofL l).extract k (k+1)=ofL [l[k]]:=by
    rw[A0r,List.drop_take,p];congr 1;rw[show k+1-k=1 by omega];rfl
   have E:=hid (show∀n,(ofL l).extract k (k+n)=ofL ((l[k]::l.drop (k+1)).take n)fromλn=>by
    rw[A0r,List.drop_take,p,show k+n-k=n by omega])
   have D:=hid (show∀n,(l[k]::l.drop (k+1)).drop n=l.drop (k+n)fromλn=>by rw[<-p,List.drop_drop]);generalize l[k]=c at*;have y:=hid (show∀n,l.length<=k+n+f->uGo f (l.drop (k+n))=uGo l.length (l.drop (k+n))fromλn h=>D5c _ _ _ (by simp;omega) (by simp));have a:uGo (f+1) (c::l.drop (k+1))=U:=by rw[<-Q];exact m
   rw[uGo]at a;obtain⟨N,hN⟩:∃N,c.toNat=N:=⟨_,rfl⟩;rw[hN]at a;have a5:(k:Int)<(l.length:Int):=by omega
   have a8:IntKind.i64.wrap ((k:Int)+1)=(k:Int)+1:=IntWalk.i64_in _ (by omega);have z1:((k:Int)+1).toNat=k+1:=by omega
   have z2:(k:Int)+1<=(l.length:Int):=by omega
   have o:N<256:=by rw[<-hN];exact c.toNat_lt
   clear p W m;by_cases hc:N<128
   ·rw[if_pos hc]at a
    have Z:decide ((N:Int)<128)=true:=dcT (by omega);have d:=hid (show uGo l.length (l.drop (k+1))=U from by rw[<-y.out 1 (by omega)];exact a);clear a Q hr;go_wp2;go_roundw
    case rel=>exact⟨k+1,by omega,by go_num,d,P⟩
    case measure=>simp[intOf];omega
   ·rw[if_neg hc]at a
    have Z:decide ((N:Int)<128)=false:=dcF (by omega);have i:=hid (λw=>v.out c [] w (by simp));obtain⟨g,z⟩:∃g,A0n [c]=g:=⟨_,rfl⟩;rw[z]at i a;rw[show(c::l.drop (k+1)).length=l.length-k by rw[List.length_cons,hr];omega]at a;have B:g<=4:=by rw[<-z];exact E4m _ _
    have G:=hid (show g=0\/g=A2k c.toNat from by rw[<-z];exact A5v _ _);have V:IntKind.i64.wrap ((k:Int)+(g:Int))=(k:Int)+(g:Int):=IntWalk.i64_in _ (by omega);clear z;by_cases O:g=0\/l.length-k<g
    ·rw[if_pos O]at a
     have d:=hid a;by_cases X:g=0
     ·subst X
      clear a Q hr O
      go_wp2_with (first|(go_at_call 175;refine Calls.mono (i.out _) ?_;rintro x w2 ⟨rfl,b⟩;have j:=hid (P.trans b);clear b)|fail)
      go_ret;exact⟨by have L:=d.out;subst L;rfl,j.out⟩
     ·have z3:¬((g:Int)=0):=by omega
      have z4:(l.length:Int)<(k:Int)+(g:Int):=by omega
      clear a Q hr O
      go_wp2_with (first|(go_at_call 175;refine Calls.mono (i.out _) ?_;rintro x w2 ⟨rfl,b⟩;have j:=hid (P.trans b);clear b)|fail)
      go_ret;exact⟨by have L:=d.out;subst L;rfl,j.out⟩
    ·rw[if_neg O]at a
     have z3:¬((g:Int)=0):=by omega
     have R:=E.out g;obtain⟨M,J⟩:∃M,g=M+1:=⟨g-1,by omega⟩;have ht:(c::l.drop (k+1)).take g=c::(l.drop (k+1)).take M:=by rw[J];rfl
     rw[ht]at a R;have C:=hid (λw=>v.out c ((l.drop (k+1)).take M) w (by simp;omega));obtain⟨u,K⟩:∃u,A0n (c::(l.drop (k+1)).take M)=u:=⟨_,rfl⟩;rw[K]at C a
     have A:u<=g:=by
      rcases A5v c ((l.drop (k+1)).take M)with h|h
      ·omega
      ·have:=G.out;omega
     obtain⟨e,he⟩:∃e,k+g=e:=⟨_,rfl⟩;obtain⟨q,T⟩:∃q,k+u=q:=⟨_,rfl⟩;rw[he]at R;have a4:(k:Int)+(g:Int)=(e:Int):=by omega
     have a0:(k:Int)+(u:Int)=(q:Int):=by omega
     have z4:decide ((l.length:Int)<(e:Int))=false:=dcF (by omega);have a9:((g:Int)==0)=false:=bqF z3;have z5:(e:Int)<=(l.length:Int):=by omega
     have z6:(k:Int)<=(e:Int):=by omega
     have z7:e<=l.length:=by omega
     have z8:k<=e:=by omega
     have a7:q<=l.length:=by omega
     generalize (l.drop (k+1)).take M=tl at*;generalize ofL (c::tl)=S2 at*;generalize ofL [c]=S1 at*;rw[D.out,T]at a;have H:=hid (λ(h:0<u)=>(show uGo f (l.drop q)=uGo l.length (l.drop q)from by rw[<-T];exact y.out u (by omega)));have HQ:=hid T;have I:0<u->k<q:=λh=>by omega
     by_cases h2:u=0
     ·subst h2
      rw[if_pos rfl]at a;have d:=hid a;clear a Q hr O K ht J he T A I V H y D E G v a0 B o
      go_wp2_with (first|(go_at_call 175;first|(refine Calls.mono (i.out _) ?_;rintro x w2 ⟨rfl,b⟩;have j:=hid (P.trans b);clear b i)|(refine Calls.mono (C.out _) ?_;rintro x w3 ⟨rfl,t⟩;have F:=hid (j.trans t);clear t))|fail)
      go_ret;exact⟨by have L:=d.out;subst L;rfl,F.out⟩
     ·rw[if_neg h2]at a
      have d:=hid (show uGo l.length (l.drop q)=U from by rw[<-H.out (by omega)];exact a);have z9:¬((u:Int)=0):=by omega
      have a2:k<q:=I (by omega);clear a Q hr O K ht J he T A I V H y D E G v B o
      go_wp2_with (first|(go_at_call 175;first|(refine Calls.mono (i.out _) ?_;rintro x w2 ⟨rfl,b⟩;have j:=hid (P.trans b);clear b i)|(refine Calls.mono (C.out _) ?_;rintro x w3 ⟨rfl,t⟩;have F:=hid (j.trans t);clear t))|fail)
      go_roundw
      case rel=>exact⟨q,by omega,by go_num,d,F⟩
      case measure=>simp[intOf];omega
  ·obtain rfl:k=l.length:=by omega
   have a6:¬((l.length:Int)<(l.length:Int)):=by omega
   have m:true=U:=by have:=W.out;rw[List.drop_length]at this;rw[<-this];cases l.length<;>rfl
   have d:=hid m;clear m;go_wp2;go_ret;exact⟨by have L:=d.out;subst L;rfl,P.out⟩
def A0z (x:Im):Bool:=
 if x.k=0\/x.k=1\/x.k=2 then decide (x.n=0)&&decide (x.b=0)&&x.s.isEmpty
 else if x.k=3 then decide (x.n=0)&&x.s.isEmpty&&decide (x.b % 9223372036854775808<9218868437227405312)
 else if x.k=4 then decide (x.n=0)&&decide (x.b=0)&&isU x.s
 else if x.k=5\/x.k=6 then decide (0<=x.n)&&decide (x.b=0)&&x.s.isEmpty
 else false
theorem B6g (s:LU8):(ofL s).toList.isEmpty=s.isEmpty:=by rw[A0y]
theorem C0e (s:LU8):((ofL s).toList==(ByteArray.mk #[]).toList)=s.isEmpty:=by
 rw[A0y,show(ByteArray.mk #[]).toList=[]from A0y []];cases s<;>rfl
theorem G1s (k n:Int) (d:k=0\/k=1\/k=2) (b:Nat) (s:LU8) (w:World):Calls Tryz.prog 76 #[.agg #[.int .i64 k,.int .i64 n,.int .u64 (b:Int),.string (ofL s)]] w λx w'=>x=.returned (.bool (decide (n=0)&&decide (b=0)&&s.isEmpty))/\Fr (λ_=>False) w w':=by
 have a:=hid (λo=>(Fr.refl (λ_=>False) w).alloc o);have f:=B6g s;have g:=C0e s;have e:(n==0)=decide (n=0):=rfl;have c:((b:Int)==0)=decide (b=0):=by rw[show((b:Int)==0)=decide ((b:Int)=0)from rfl];simp
 generalize decide (n=0)=N at*;generalize decide (b=0)=M at*;generalize s.isEmpty=E at*
 rcases d with rfl|rfl|rfl<;>cases N<;>cases M<;>cases E<;>
  (go_enter Tryz.func76,Tryz.ntmps76
   go_wp2;go_ret
   exact⟨rfl,a.out _⟩)
theorem G1t (k n:Int) (d:k=5\/k=6) (b:Nat) (s:LU8) (w:World):Calls Tryz.prog 76 #[.agg #[.int .i64 k,.int .i64 n,.int .u64 (b:Int),.string (ofL s)]] w λx w'=>x=.returned (.bool (decide (0<=n)&&decide (b=0)&&s.isEmpty))/\Fr (λ_=>False) w w':=by
 have c:=hid (λo=>(Fr.refl (λ_=>False) w).alloc o);have g:=B6g s;have h:=C0e s;have f:((b:Int)==0)=decide (b=0):=by rw[show((b:Int)==0)=decide ((b:Int)=0)from rfl];simp
 generalize decide (b=0)=M at*;generalize s.isEmpty=E at*;by_cases e:0<=n
 ·rw[dcT e]
  rcases d with rfl|rfl<;>cases M<;>cases E<;>
   (go_enter Tryz.func76,Tryz.ntmps76
    go_wp2;go_ret
    exact⟨rfl,c.out _⟩)
 ·have a:=dcF e
  rw[a]
  rcases d with rfl|rfl<;>cases M<;>cases E<;>
   (go_enter Tryz.func76,Tryz.ntmps76
    go_wp2;go_ret
    exact⟨rfl,c.out _⟩)
theorem G1u (n:Int) (b:Nat) (s:LU8) (w:World):Calls Tryz.prog 76 #[.agg #[.int .i64 3,.int .i64 n,.int .u64 (b:Int),.string (ofL s)]] w λx w'=>x=.returned (.bool (decide (n=0)&&s.isEmpty&&decide (b % 9223372036854775808<9218868437227405312)))/\Fr (λ_=>False) w w':=by
 have d:=hid (λo=>(Fr.refl (λ_=>False) w).alloc o);have g:=B6g s;have h:=C0e s;have f:(n==0)=decide (n=0):=rfl;obtain⟨c,a⟩:∃c:Int,((b % 9223372036854775808:Nat):Int)=c:=⟨_,rfl⟩;have i:Int.tmod (b:Int) 9223372036854775808=c:=by rw[<-a,Int.tmod_eq_emod_of_nonneg (by omega)];omega
 have j:(b:Int) % 9223372036854775808=c:=by rw[<-a];omega
 have e:decide (c<9218868437227405312)=decide (b % 9223372036854775808<9218868437227405312):=decide_eq_decide.2 (by rw[<-a];omega);clear a;generalize decide (n=0)=N at*;generalize decide (b % 9223372036854775808<9218868437227405312)=M at*;generalize s.isEmpty=E at*
 cases N<;>cases M<;>cases E<;>
  (go_enter Tryz.func76,Tryz.ntmps76
   go_wp2;go_ret
   exact⟨rfl,d.out _⟩)
theorem G1v (n:Int) (b:Nat) (s:LU8) (w:World) (d:s.length<=100000000):Calls Tryz.prog 76 #[.agg #[.int .i64 4,.int .i64 n,.int .u64 (b:Int),.string (ofL s)]] w λx w'=>x=.returned (.bool (decide (n=0)&&decide (b=0)&&isU s))/\Fr (λ_=>False) w w':=by
 have f:=hid (λo=>(Fr.refl (λ_=>False) w).alloc o);have g:=hid (λw=>D8g s w d);have i:(n==0)=decide (n=0):=rfl;have h:((b:Int)==0)=decide (b=0):=by rw[show((b:Int)==0)=decide ((b:Int)=0)from rfl];simp
 generalize decide (n=0)=N at*;generalize decide (b=0)=M at*;generalize isU s=U at*;clear d
 cases N<;>cases M<;>cases U<;>
  (go_enter Tryz.func76,Tryz.ntmps76
   go_wp2_with fail
   refine Calls.mono (g.out _) ?_;rintro x e ⟨rfl,a⟩;have c:=hid (Fr.trans (f.out (.cells #[.int .i64 4,.int .i64 n,.int .u64 (b:Int),.string (ofL s)] 29)) a);have j:e.cell? ⟨w.heap.size,1,none⟩=some (.int .i64 n):=A0a ((a.block _ (by simp) id).trans (heap_alloc_new w _)) rfl;have k:e.cell? ⟨w.heap.size,2,none⟩=some (.int .u64 (b:Int)):=A0a ((a.block _ (by simp) id).trans (heap_alloc_new w _)) rfl;clear a;go_wp2;go_ret
   exact⟨rfl,c.out⟩)
theorem F7t (k n:Int) (b:Nat) (s:LU8) (w:World) (h:k<0\/6<k):Calls Tryz.prog 76 #[.agg #[.int .i64 k,.int .i64 n,.int .u64 (b:Int),.string (ofL s)]] w λx w'=>x=.returned (.bool false)/\Fr (λ_=>False) w w':=by
 have a:=hid (λo=>(Fr.refl (λ_=>False) w).alloc o);have c:k≠0:=by omega
 have d:k≠1:=by omega
 have e:k≠2:=by omega
 have f:k≠3:=by omega
 have g:k≠4:=by omega
 have i:k≠5:=by omega
 have j:k≠6:=by omega
 clear h;go_enter Tryz.func76,Tryz.ntmps76;go_wp2;go_ret;exact⟨rfl,a.out _⟩
theorem B2m (x:Im) (w:World) (a:x.s.length<=100000000):
 Calls Tryz.prog 76 #[.agg #[.int .i64 x.k,.int .i64 x.n,.int .u64 (x.b:Int),.string (ofL x.s)]] w λe w'=>e=.returned (.bool (A0z x))/\Fr (λ_=>False) w w':=by
 obtain⟨k,n,b,s⟩:=x;simp only at a ⊢;by_cases h:k<0\/6<k
 ·have e:A0z ⟨k,n,b,s⟩=false:=by
   unfold A0z;rw[if_neg (by simp only;omega),if_neg (by simp only;omega),if_neg (by simp only;omega),if_neg (by simp only;omega)]
  rw[e];exact F7t k n b s w h
 ·obtain rfl|rfl|rfl|rfl|rfl|rfl|rfl:k=0\/k=1\/k=2\/k=3\/k=4\/k=5\/k=6:=by omega
  iterate 3 exact G1s _ n (by simp) b s w
  ·exact G1u n b s w
  ·exact G1v n b s w a
  iterate 2 exact G1t _ n (by simp) b s w
def A0m (sz:List Im->Nat) (obj:Bool):Nat->List Im->Option Nat
 |0,_=>some 0
 |c+1,l=>
  if obj=true then
   match l with
   |[]=>none
   |k::r=>if k.k=4/\A0z k=true then(if sz r=0 then none else(A0m sz obj c (r.drop (sz r))).map (λm=>1+sz r+m))else none
  else if sz l=0 then none else(A0m sz obj c (l.drop (sz l))).map (λm=>sz l+m)
def D2i:Option Nat->Nat
 |none=>0
 |some m=>m+1
def A0i:Nat->List Im->Nat
 |_,[]=>0
 |0,x::_=>if A0z x=true/\x.k<5 then 1 else 0
 |d+1,x::r=>if A0z x=true then(if x.k<5 then 1 else D2i (A0m (A0i d) (decide (x.k=6)) x.n.toNat r))else 0
def LR (w:World) (pa:Option Addr) (l:List Im):Prop:=l≠[]->∃ad,pa=some ad/\ad.block<w.heap.size/\∀i x,l[i]? =some x->
 w.cell? (ad.add (i*4))=some (.int .i64 x.k)/\w.cell? ((ad.add (i*4)).add 1)=some (.int .i64 x.n)/\w.cell? ((ad.add (i*4)).add 2)=some (.int .u64 (x.b:Int))/\w.cell? ((ad.add (i*4)).add 3)=some (.string (ofL x.s))
theorem B1y (a:Addr) (i:Nat):(a.add i).block=a.block:=by unfold Addr.add;split<;>rfl
theorem LR.fr {w w':World} {o:Option Addr} {l:List Im} (h:LR w o l) (g:Fr (λ_=>False) w w'):LR w' o l:=by
 intro s;obtain⟨e,q,f,r⟩:=h s;refine⟨e,q,Nat.lt_of_lt_of_le f g.size,λi x hx=>?_⟩;obtain⟨a,b,c,d⟩:=r i x hx;have k:∀j,w'.cell? (e.add j)=w.cell? (e.add j):=λj=>g.cell (p:=e.add j) (by rw[B1y];exact f) id
 have n:∀j m,w'.cell? ((e.add j).add m)=w.cell? ((e.add j).add m):=λj m=>g.cell (p:=(e.add j).add m) (by rw[B1y,B1y];exact f) id
 exact⟨by rw[k];exact a,by rw[n];exact b,by rw[n];exact c,by rw[n];exact d⟩
theorem LR.drop {w:World} {a:Addr} {l:List Im} (h:LR w (some a) l) (n:Nat):LR w (some (a.add (n*4))) (l.drop n):=by
 intro f;obtain⟨b,c,d,e⟩:=h (by rintro rfl;simp at f);obtain rfl:a=b:=by simpa using c
 refine⟨_,rfl,by rw[B1y];exact d,λi x hx=>?_⟩;rw[List.getElem?_drop]at hx;have:=e (n+i) x hx;rw[Addr.add_add,show n*4+i*4=(n+i)*4 by omega];exact this
theorem LR.at_ {w:World} {e:Addr} {l:List Im} (h:LR w (some e) l) {i:Nat} {x:Im} (g:l[i]? =some x):
 w.cell? (e.add (i*4))=some (.int .i64 x.k)/\w.cell? ⟨(e.add (i*4)).block,(e.add (i*4)).off+1,none⟩=some (.int .i64 x.n)/\w.cell? ⟨(e.add (i*4)).block,(e.add (i*4)).off+2,none⟩=some (.int .u64 (x.b:Int))/\w.cell? ⟨(e.add (i*4)).block,(e.add (i*4)).off+3,none⟩=some (.string (ofL x.s)):=by
 obtain⟨f,j,o,m⟩:=h (by rintro rfl;simp at g);obtain rfl:e=f:=by simpa using j
 obtain⟨a,b,c,d⟩:=m i x g;exact⟨a,by simpa[Addr.add]using b,by simpa[Addr.add]using c,by simpa[Addr.add]using d⟩
theorem LR.at0 {w:World} {a:Addr} {x:Im} {r:List Im} (h:LR w (some a) (x::r)):
 w.cell? a=some (.int .i64 x.k)/\w.cell? ⟨a.block,a.off+1,none⟩=some (.int .i64 x.n)/\w.cell? ⟨a.block,a.off+2,none⟩=some (.int .u64 (x.b:Int))/\w.cell? ⟨a.block,a.off+3,none⟩=some (.string (ofL x.s)):=by
 have:=h.at_ (i:=0) (x:=x) rfl;simpa[Addr.add]using this
def E4n (d:Nat):Prop:=∀(w:World) (pa:Option Addr) (cap inn:Nat) (l:List Im),d+inn=1000->LR w pa l->l.length<=cap->cap<=9223372036854775807->(∀x,x∈l->x.s.length<=100000000)->
 Calls Tryz.prog 46 #[.slice pa l.length cap,.int .i64 (inn:Int)] w λe w'=>e=.returned (.int .i64 ((A0i d l:Nat):Int))/\Fr (λ_=>False) w w'
theorem B8a (w:World) (b:Option Addr) (cap inn:Nat):
 Calls Tryz.prog 46 #[.slice b 0 cap,.int .i64 (inn:Int)] w λe w'=>e=.returned (.int .i64 0)/\Fr (λ_=>False) w w':=by
 have a:=hid (Fr.refl (λ_=>False) w);go_enter Tryz.func46,Tryz.ntmps46;go_wp2;go_ret;exact⟨rfl,a.out⟩
theorem E4p (w:World) (c:Addr) (cap inn:Nat) (x:Im) (r:List Im) (d:inn<=1000) (h:LR w (some c) (x::r)) (_hcap:r.length+1<=cap) (_hc:cap<=9223372036854775807) (a:x.s.length<=100000000) (q:inn=1000) (f:5<=x.k):
 Calls Tryz.prog 46 #[.slice (some c) (r.length+1) cap,.int .i64 (inn:Int)] w λe w'=>e=.returned (.int .i64 0)/\Fr (λ_=>False) w w':=by
 have v:=hid (λ(wx:World) (hf:Fr (λ_=>False) w wx)=>(h.fr hf).at0);obtain⟨l,m,o,p⟩:=h.at0;have j:=hid (Fr.refl (λ_=>False) w);have y:=hid (λw=>B2m x w a);obtain⟨k,n,b,s⟩:=x;simp only at l m o p a;have u:(((r.length+1:Nat):Int)==0)=false:=bqF (by omega);have g:((r.length:Int)+1==0)=false:=bqF (by omega);have i:(0:Int)<(r.length:Int)+1:=by omega
 generalize r.length=rl at*;clear h a;subst q;simp only at f;have t:decide ((5:Int)<=k)=true:=dcT f;go_enter Tryz.func46,Tryz.ntmps46;go_wp2;go_ret;exact⟨rfl,j.out⟩
theorem D5d (w:World) (p:Addr) (cap inn:Nat) (x:Im) (r:List Im) (u:inn<=1000) (h:LR w (some p) (x::r)) (_hcap:r.length+1<=cap) (_hc:cap<=9223372036854775807) (l:x.s.length<=100000000) (q:inn<1000\/x.k<5) (t:A0z x=false):
 Calls Tryz.prog 46 #[.slice (some p) (r.length+1) cap,.int .i64 (inn:Int)] w λe w'=>e=.returned (.int .i64 0)/\Fr (λ_=>False) w w':=by
 have o:=hid (λ(wx:World) (hf:Fr (λ_=>False) w wx)=>(h.fr hf).at0);obtain⟨f,g,i,j⟩:=h.at0;have H:=hid (Fr.refl (λ_=>False) w);have d:=hid (λw=>B2m x w l);obtain⟨k,n,b,s⟩:=x;simp only at f g i j l;have E:(((r.length+1:Nat):Int)==0)=false:=bqF (by omega);have v:((r.length:Int)+1==0)=false:=bqF (by omega);have y:(0:Int)<(r.length:Int)+1:=by omega
 generalize r.length=rl at*;clear h l;simp only at q
 have z:(decide ((1000:Int)<=(inn:Int))=false)\/(decide ((1000:Int)<=(inn:Int))=true/\decide ((5:Int)<=k)=false):=by
  by_cases I:inn<1000
  ·exact .inl (dcF (by omega))
  ·exact .inr ⟨dcT (by omega),dcF (by omega)⟩
 rw[t]at d;clear t q;rcases z with z|⟨F,G⟩
 ·go_enter Tryz.func46,Tryz.ntmps46
  go_wp2_with fail
  refine Calls.mono (d.out _) ?_;rintro e m ⟨rfl,a⟩;have c:=hid a;obtain⟨A,B,C,D⟩:=o.out m a;clear a f g i j;go_wp2;go_ret;exact⟨rfl,c.out⟩
 ·go_enter Tryz.func46,Tryz.ntmps46
  go_wp2_with fail
  refine Calls.mono (d.out _) ?_;rintro e m ⟨rfl,a⟩;have c:=hid a;obtain⟨A,B,C,D⟩:=o.out m a;clear a f g i j;go_wp2;go_ret;exact⟨rfl,c.out⟩
theorem F7u {x:Im} (h:A0z x=true) (a:x.k<5):x.n=0:=by
 unfold A0z at h;split at h
 ·simp at h;exact h.1.1
 ·split at h
  ·simp at h;exact h.1.1
  ·split at h
   ·simp at h;exact h.1.1
   ·rw[if_neg (by omega)]at h;cases h
theorem A5i {x:Im} (h:A0z x=true) (a:¬x.k<5):(x.k=5\/x.k=6)/\0<=x.n:=by
 unfold A0z at h;rw[if_neg (by omega),if_neg (by omega),if_neg (by omega)]at h;split at h
 ·rename_i h2
  simp at h;exact⟨h2,h.1.1⟩
 ·cases h
theorem C8z (w:World) (v:Addr) (cap inn:Nat) (x:Im) (r:List Im) (y:inn<=1000) (h:LR w (some v) (x::r)) (_hcap:r.length+1<=cap) (_hc:cap<=9223372036854775807) (q:x.s.length<=100000000) (m:x.k<5) (o:A0z x=true):
 Calls Tryz.prog 46 #[.slice (some v) (r.length+1) cap,.int .i64 (inn:Int)] w λe w'=>e=.returned (.int .i64 1)/\Fr (λ_=>False) w w':=by
 have u:=hid (λ(wx:World) (hf:Fr (λ_=>False) w wx)=>(h.fr hf).at0);obtain⟨g,i,j,l⟩:=h.at0;have J:=hid (Fr.refl (λ_=>False) w);have f:=hid (λw=>B2m x w q);obtain⟨k,n,b,s⟩:=x;simp only at g i j l q;have G:(((r.length+1:Nat):Int)==0)=false:=bqF (by omega);have z:((r.length:Int)+1==0)=false:=bqF (by omega);have A:(0:Int)<(r.length:Int)+1:=by omega
 generalize r.length=rl at*;clear h q;have p:n=0:=F7u o m;subst p;simp only at m
 have B:(decide ((1000:Int)<=(inn:Int))=false)\/(decide ((1000:Int)<=(inn:Int))=true/\decide ((5:Int)<=k)=false):=by
  by_cases K:inn<1000
  ·exact .inl (dcF (by omega))
  ·exact .inr ⟨dcT (by omega),dcF (by omega)⟩
 rw[o]at f;clear o m;rcases B with B|⟨H,I⟩
 ·go_enter Tryz.func46,Tryz.ntmps46
  go_wp2_with fail
  refine Calls.mono (f.out _) ?_;rintro e d ⟨rfl,a⟩;have c:=hid a;obtain⟨C,D,E,F⟩:=u.out d a;clear a g i j l;go_wp2
  go_loopw [6,7] (λs t wr=>s=.int .i64 1/\t=.int .i64 0/\wr=d) (λ_ _ _=>0)
  case atStart=>exact⟨rfl,rfl,rfl⟩
  case round=>
   obtain⟨rfl,rfl,rfl⟩:=hrel;go_wp2;go_ret;exact⟨rfl,c.out⟩
 ·go_enter Tryz.func46,Tryz.ntmps46
  go_wp2_with fail
  refine Calls.mono (f.out _) ?_;rintro e d ⟨rfl,a⟩;have c:=hid a;obtain⟨C,D,E,F⟩:=u.out d a;clear a g i j l;go_wp2
  go_loopw [6,7] (λs t wr=>s=.int .i64 1/\t=.int .i64 0/\wr=d) (λ_ _ _=>0)
  case atStart=>exact⟨rfl,rfl,rfl⟩
  case round=>
   obtain⟨rfl,rfl,rfl⟩:=hrel;go_wp2;go_ret;exact⟨rfl,c.out⟩
end Go.Proofs.YtmkkibaacclhnaaGreatDoor
