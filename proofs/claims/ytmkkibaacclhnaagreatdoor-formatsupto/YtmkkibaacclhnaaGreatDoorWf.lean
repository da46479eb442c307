/-
  Part Wf.
-/
import Derived.Test.YtmkkibaacclhnaaGreatDoorSb
import Derived.Test.YtmkkibaacclhnaaGreatDoorWs
namespace Go.Proofs.YtmkkibaacclhnaaGreatDoor
open Go.RowKit
set_option maxRecDepth 100000
set_option maxHeartbeats 16000000
theorem D8c {k a:Nat} (h:a<64^k) (b:k<=3):a<262144:=Nat.lt_of_lt_of_le h (Nat.pow_le_pow_right (by omega) b)
theorem B0c {k a:Nat} (h:a<64^k) (b:k<=4):a<16777216:=Nat.lt_of_lt_of_le h (Nat.pow_le_pow_right (by omega) b)
theorem A4z {k a x:Nat} (h:a<64^k) (b:x<64):64*a+x<64^(k+1):=by
 rw[Nat.pow_succ];omega
theorem F1c (c:UInt8) (r:LU8) (w:World) (hr:r.length<=1000000000) (z:192<=c.toNat/\c.toNat<224):
 Calls Tryz.prog 175 #[.string (ofL (c::r))] w λx w'=>x=.returned (.int .i64 ((A0n (c::r):Nat):Int))/\Fr (λ_=>False) w w':=by
 have s:=hid (show A0n (c::r)=C2z 2 (A4t 1 (c.toNat-192) (c.toNat-192) r)from D1y z r);obtain⟨t,u⟩:=z;obtain⟨h,d⟩:∃h,ofL (c::r)=h:=⟨_,rfl⟩;have q:h.size=r.length+1:=by rw[<-d];exact A0c (c::r)
 have H:h[0]'(by rw[q];omega)=c:=by subst d;exact A1d (c::r) 0 _
 have D:=hid (show∀k (C:k<r.length),h[k+1]'(by rw[q];omega)=r[k]fromλk C=>by subst d;exact A1d (c::r) (k+1) _);rw[d];have n:=hid (show∀ob,Fr (λ_=>False) w (w.alloc ob)fromλob=>(Fr.refl _ _).alloc ob);obtain⟨N,E⟩:∃N,c.toNat=N:=⟨_,rfl⟩;rw[E]at t u s;generalize p:A0n (c::r)=res at*;clear d p;have R:decide (192<=(N:Int))=true:=dcT (by omega);have S:decide ((N:Int)<224)=true:=dcT (by omega);go_enter Tryz.func175,Tryz.ntmps175;go_wp2
 go_loopw [4,5,7] (λlo tp i wr=>∃k a b:Nat,1<=k/\k<=2/\lo=.int .i64 a/\tp=.int .i64 b/\i=.int .i64 k/\Hid (A4t (2-k) a b (r.drop (k-1))=A4t 1 (N-192) (N-192) r)/\Hid (a<64^k/\b<64^k)/\wr=w) (λ_ _ i _=>2-(intOf i).toNat)
 case atStart=>exact⟨1,N-192,N-192,by omega,by omega,by go_num,by go_num,rfl,hid rfl,hid ⟨by omega,by omega⟩,rfl⟩
 case round=>
  obtain⟨k,a,b,I,J,rfl,rfl,rfl,g,l,rfl⟩:=hrel;by_cases C:k<2
  ·have F:=D8c l.1 (by omega)
   have G:=D8c l.2 (by omega);obtain⟨j,rfl⟩:∃j,k=j+1:=⟨k-1,by omega⟩;rw[Nat.add_sub_cancel,show 2-(j+1)=(0-j)+1 by omega]at g;by_cases B:j<r.length
   ·have T:=D.out j B
    have A:r.drop j=r[j]::r.drop (j+1):=List.drop_eq_getElem_cons B;rw[A]at g;generalize r[j]=x at*;clear A;by_cases m:x.toNat<128\/191<x.toNat
    ·rw[A7s m]at g
     have o:=hid (show res=0 by rw[s.out,<-g.out];rfl);clear g;rcases m with m|m
     ·go_wp2
      go_ret;rw[o.out];exact⟨rfl,Fr.refl _ _⟩
     ·go_wp2
      go_ret;rw[o.out];exact⟨rfl,Fr.refl _ _⟩
    ·rw[A1v m]at g
     have v:=hid (A4z (x:=x.toNat-128) l.1 (by omega));have y:=hid (A4z (x:=x.toNat-128) l.2 (by omega));have K:¬x.toNat<128:=by omega
     have L:¬191<x.toNat:=by omega
     clear m;go_wp2;go_roundw
     case rel=>exact⟨j+1+1,64*a+x.toNat-128,64*b+x.toNat-128,by omega,by omega,by go_num,by go_num,by go_num,hid (by rw[show 2-(j+1+1)=0-j by omega,show j+1+1-1=j+1 by omega];exact g.out),hid ⟨by have:=v.out;omega,by have:=y.out;omega⟩,trivial⟩
     case measure=>simp[intOf];omega
   ·rw[List.drop_eq_nil_of_le (by omega),A4t]at g
    have v:=hid (A4z (x:=0) l.1 (by omega));have y:=hid (A4z (x:=63) l.2 (by omega));go_wp2;go_roundw
    case rel=>exact⟨j+1+1,64*a,64*b+63,by omega,by omega,by go_num,by go_num,by go_num,hid (by rw[show 2-(j+1+1)=0-j by omega,show j+1+1-1=j+1 by omega,List.drop_eq_nil_of_le (by omega)];exact g.out),hid ⟨by have:=v.out;omega,by have:=y.out;omega⟩,trivial⟩
    case measure=>simp[intOf];omega
  ·obtain rfl:k=2:=by omega
   have F:=B0c l.1 (by omega);have G:=B0c l.2 (by omega);rw[Nat.sub_self,A4t]at g;have o:=hid (show res=A4u 2 a b by rw[s.out,<-g.out];rfl);clear g;by_cases e:b<128\/1114111<a\/(55296<=a/\b<=57343)
   ·have f:=hid (o.trans (A6v (by rw[B6z];exact e)))
    by_cases M:b<128
    ·clear e
     go_wp2;go_ret;rw[f.out];exact⟨rfl,n.out _⟩
    ·by_cases O:1114111<a
     ·clear e
      go_wp2;go_ret;rw[f.out];exact⟨rfl,n.out _⟩
     ·have P:55296<=a:=by omega
      have Q:b<=57343:=by omega
      clear e;go_wp2;go_ret;rw[f.out];exact⟨rfl,n.out _⟩
   ·have f:=hid (o.trans (A2g (by rw[B6z];exact e)))
    have M:¬b<128:=by omega
    have O:¬1114111<a:=by omega
    by_cases P:55296<=a
    ·have Q:¬b<=57343:=by omega
     clear e;go_wp2;go_ret;rw[f.out];exact⟨rfl,n.out _⟩
    ·clear e
     go_wp2;go_ret;rw[f.out];exact⟨rfl,n.out _⟩
theorem F1d (c:UInt8) (r:LU8) (w:World) (hr:r.length<=1000000000) (z:224<=c.toNat/\c.toNat<240):
 Calls Tryz.prog 175 #[.string (ofL (c::r))] w λx w'=>x=.returned (.int .i64 ((A0n (c::r):Nat):Int))/\Fr (λ_=>False) w w':=by
 have s:=hid (show A0n (c::r)=C2z 3 (A4t 2 (c.toNat-224) (c.toNat-224) r)from C5p z r);obtain⟨t,u⟩:=z;obtain⟨h,d⟩:∃h,ofL (c::r)=h:=⟨_,rfl⟩;have q:h.size=r.length+1:=by rw[<-d];exact A0c (c::r)
 have H:h[0]'(by rw[q];omega)=c:=by subst d;exact A1d (c::r) 0 _
 have D:=hid (show∀k (C:k<r.length),h[k+1]'(by rw[q];omega)=r[k]fromλk C=>by subst d;exact A1d (c::r) (k+1) _);rw[d];have n:=hid (show∀ob,Fr (λ_=>False) w (w.alloc ob)fromλob=>(Fr.refl _ _).alloc ob);obtain⟨N,E⟩:∃N,c.toNat=N:=⟨_,rfl⟩;rw[E]at t u s;generalize p:A0n (c::r)=res at*;clear d p;have R:decide (192<=(N:Int))=true:=dcT (by omega);have S:decide ((N:Int)<224)=false:=dcF (by omega);have T:decide (224<=(N:Int))=true:=dcT (by omega);have U:decide ((N:Int)<240)=true:=dcT (by omega);go_enter Tryz.func175,Tryz.ntmps175;go_wp2
 go_loopw [4,5,7] (λlo tp i wr=>∃k a b:Nat,1<=k/\k<=3/\lo=.int .i64 a/\tp=.int .i64 b/\i=.int .i64 k/\Hid (A4t (3-k) a b (r.drop (k-1))=A4t 2 (N-224) (N-224) r)/\Hid (a<64^k/\b<64^k)/\wr=w) (λ_ _ i _=>3-(intOf i).toNat)
 case atStart=>exact⟨1,N-224,N-224,by omega,by omega,by go_num,by go_num,rfl,hid rfl,hid ⟨by omega,by omega⟩,rfl⟩
 case round=>
  obtain⟨k,a,b,I,J,rfl,rfl,rfl,g,l,rfl⟩:=hrel;by_cases C:k<3
  ·have F:=D8c l.1 (by omega)
   have G:=D8c l.2 (by omega);obtain⟨j,rfl⟩:∃j,k=j+1:=⟨k-1,by omega⟩;rw[Nat.add_sub_cancel,show 3-(j+1)=(1-j)+1 by omega]at g;by_cases B:j<r.length
   ·have V:=D.out j B
    have A:r.drop j=r[j]::r.drop (j+1):=List.drop_eq_getElem_cons B;rw[A]at g;generalize r[j]=x at*;clear A;by_cases m:x.toNat<128\/191<x.toNat
    ·rw[A7s m]at g
     have o:=hid (show res=0 by rw[s.out,<-g.out];rfl);clear g;rcases m with m|m
     ·go_wp2
      go_ret;rw[o.out];exact⟨rfl,Fr.refl _ _⟩
     ·go_wp2
      go_ret;rw[o.out];exact⟨rfl,Fr.refl _ _⟩
    ·rw[A1v m]at g
     have v:=hid (A4z (x:=x.toNat-128) l.1 (by omega));have y:=hid (A4z (x:=x.toNat-128) l.2 (by omega));have K:¬x.toNat<128:=by omega
     have L:¬191<x.toNat:=by omega
     clear m;go_wp2;go_roundw
     case rel=>exact⟨j+1+1,64*a+x.toNat-128,64*b+x.toNat-128,by omega,by omega,by go_num,by go_num,by go_num,hid (by rw[show 3-(j+1+1)=1-j by omega,show j+1+1-1=j+1 by omega];exact g.out),hid ⟨by have:=v.out;omega,by have:=y.out;omega⟩,trivial⟩
     case measure=>simp[intOf];omega
   ·rw[List.drop_eq_nil_of_le (by omega),A4t]at g
    have v:=hid (A4z (x:=0) l.1 (by omega));have y:=hid (A4z (x:=63) l.2 (by omega));go_wp2;go_roundw
    case rel=>exact⟨j+1+1,64*a,64*b+63,by omega,by omega,by go_num,by go_num,by go_num,hid (by rw[show 3-(j+1+1)=1-j by omega,show j+1+1-1=j+1 by omega,List.drop_eq_nil_of_le (by omega)];exact g.out),hid ⟨by have:=v.out;omega,by have:=y.out;omega⟩,trivial⟩
    case measure=>simp[intOf];omega
  ·obtain rfl:k=3:=by omega
   have F:=B0c l.1 (by omega);have G:=B0c l.2 (by omega);rw[Nat.sub_self,A4t]at g;have o:=hid (show res=A4u 3 a b by rw[s.out,<-g.out];rfl);clear g;by_cases e:b<2048\/1114111<a\/(55296<=a/\b<=57343)
   ·have f:=hid (o.trans (A6v (by rw[B4q];exact e)))
    by_cases M:b<2048
    ·clear e
     go_wp2;go_ret;rw[f.out];exact⟨rfl,n.out _⟩
    ·by_cases O:1114111<a
     ·clear e
      go_wp2;go_ret;rw[f.out];exact⟨rfl,n.out _⟩
     ·have P:55296<=a:=by omega
      have Q:b<=57343:=by omega
      clear e;go_wp2;go_ret;rw[f.out];exact⟨rfl,n.out _⟩
   ·have f:=hid (o.trans (A2g (by rw[B4q];exact e)))
    have M:¬b<2048:=by omega
    have O:¬1114111<a:=by omega
    by_cases P:55296<=a
    ·have Q:¬b<=57343:=by omega
     clear e;go_wp2;go_ret;rw[f.out];exact⟨rfl,n.out _⟩
    ·clear e
     go_wp2;go_ret;rw[f.out];exact⟨rfl,n.out _⟩
theorem F1e (c:UInt8) (r:LU8) (w:World) (hr:r.length<=1000000000) (z:240<=c.toNat/\c.toNat<248):
 Calls Tryz.prog 175 #[.string (ofL (c::r))] w λx w'=>x=.returned (.int .i64 ((A0n (c::r):Nat):Int))/\Fr (λ_=>False) w w':=by
 have s:=hid (show A0n (c::r)=C2z 4 (A4t 3 (c.toNat-240) (c.toNat-240) r)from C1n z r);obtain⟨t,u⟩:=z;obtain⟨h,d⟩:∃h,ofL (c::r)=h:=⟨_,rfl⟩;have p:h.size=r.length+1:=by rw[<-d];exact A0c (c::r)
 have H:h[0]'(by rw[p];omega)=c:=by subst d;exact A1d (c::r) 0 _
 have D:=hid (show∀k (C:k<r.length),h[k+1]'(by rw[p];omega)=r[k]fromλk C=>by subst d;exact A1d (c::r) (k+1) _);rw[d];have q:=hid (show∀ob,Fr (λ_=>False) w (w.alloc ob)fromλob=>(Fr.refl _ _).alloc ob);obtain⟨N,E⟩:∃N,c.toNat=N:=⟨_,rfl⟩;rw[E]at t u s;generalize o:A0n (c::r)=res at*;clear d o;have P:decide (192<=(N:Int))=true:=dcT (by omega);have Q:decide ((N:Int)<224)=false:=dcF (by omega);have R:decide (224<=(N:Int))=true:=dcT (by omega);have S:decide ((N:Int)<240)=false:=dcF (by omega);have T:decide (240<=(N:Int))=true:=dcT (by omega);have U:decide ((N:Int)<248)=true:=dcT (by omega);go_enter Tryz.func175,Tryz.ntmps175;go_wp2
 go_loopw [4,5,7] (λlo tp i wr=>∃k a b:Nat,1<=k/\k<=4/\lo=.int .i64 a/\tp=.int .i64 b/\i=.int .i64 k/\Hid (A4t (4-k) a b (r.drop (k-1))=A4t 3 (N-240) (N-240) r)/\Hid (a<64^k/\b<64^k)/\wr=w) (λ_ _ i _=>4-(intOf i).toNat)
 case atStart=>exact⟨1,N-240,N-240,by omega,by omega,by go_num,by go_num,rfl,hid rfl,hid ⟨by omega,by omega⟩,rfl⟩
 case round=>
  obtain⟨k,a,b,I,J,rfl,rfl,rfl,f,l,rfl⟩:=hrel;by_cases C:k<4
  ·have F:=D8c l.1 (by omega)
   have G:=D8c l.2 (by omega);obtain⟨j,rfl⟩:∃j,k=j+1:=⟨k-1,by omega⟩;rw[Nat.add_sub_cancel,show 4-(j+1)=(2-j)+1 by omega]at f;by_cases B:j<r.length
   ·have V:=D.out j B
    have A:r.drop j=r[j]::r.drop (j+1):=List.drop_eq_getElem_cons B;rw[A]at f;generalize r[j]=x at*;clear A;by_cases m:x.toNat<128\/191<x.toNat
    ·rw[A7s m]at f
     have n:=hid (show res=0 by rw[s.out,<-f.out];rfl);clear f;rcases m with m|m
     ·go_wp2
      go_ret;rw[n.out];exact⟨rfl,Fr.refl _ _⟩
     ·go_wp2
      go_ret;rw[n.out];exact⟨rfl,Fr.refl _ _⟩
    ·rw[A1v m]at f
     have v:=hid (A4z (x:=x.toNat-128) l.1 (by omega));have y:=hid (A4z (x:=x.toNat-128) l.2 (by omega));have K:¬x.toNat<128:=by omega
     have L:¬191<x.toNat:=by omega
     clear m;go_wp2;go_roundw
     case rel=>exact⟨j+1+1,64*a+x.toNat-128,64*b+x.toNat-128,by omega,by omega,by go_num,by go_num,by go_num,hid (by rw[show 4-(j+1+1)=2-j by omega,show j+1+1-1=j+1 by omega];exact f.out),hid ⟨by have:=v.out;omega,by have:=y.out;omega⟩,trivial⟩
     case measure=>simp[intOf];omega
   ·rw[List.drop_eq_nil_of_le (by omega),A4t]at f
    have v:=hid (A4z (x:=0) l.1 (by omega));have y:=hid (A4z (x:=63) l.2 (by omega));go_wp2;go_roundw
    case rel=>exact⟨j+1+1,64*a,64*b+63,by omega,by omega,by go_num,by go_num,by go_num,hid (by rw[show 4-(j+1+1)=2-j by omega,show j+1+1-1=j+1 by omega,List.drop_eq_nil_of_le (by omega)];exact f.out),hid ⟨by have:=v.out;omega,by have:=y.out;omega⟩,trivial⟩
    case measure=>simp[intOf];omega
  ·obtain rfl:k=4:=by omega
   have F:=B0c l.1 (by omega);have G:=B0c l.2 (by omega);rw[Nat.sub_self,A4t]at f;have n:=hid (show res=A4u 4 a b by rw[s.out,<-f.out];rfl);clear f;by_cases e:b<65536\/1114111<a\/(55296<=a/\b<=57343)
   ·have g:=hid (n.trans (A6v (by rw[B1x];exact e)))
    by_cases M:b<65536
    ·clear e
     go_wp2;go_ret;rw[g.out];exact⟨rfl,q.out _⟩
    ·by_cases O:1114111<a
     ·clear e
      go_wp2;go_ret;rw[g.out];exact⟨rfl,q.out _⟩
     ·exfalso
      omega
   ·have g:=hid (n.trans (A2g (by rw[B1x];exact e)))
    have M:¬b<65536:=by omega
    have O:¬1114111<a:=by omega
    by_cases W:55296<=a
    ·have X:¬b<=57343:=by omega
     clear e;go_wp2;go_ret;rw[g.out];exact⟨rfl,q.out _⟩
    ·clear e
     go_wp2;go_ret;rw[g.out];exact⟨rfl,q.out _⟩
theorem C3h (c:UInt8) (r:LU8) (w:World) (hr:r.length<=1000000000):
 Calls Tryz.prog 175 #[.string (ofL (c::r))] w λx w'=>x=.returned (.int .i64 ((A0n (c::r):Nat):Int))/\Fr (λ_=>False) w w':=by
 by_cases h:192<=c.toNat/\c.toNat<224
 ·exact F1c c r w hr h
 by_cases i:224<=c.toNat/\c.toNat<240
 ·exact F1d c r w hr i
 by_cases j:240<=c.toNat/\c.toNat<248
 ·exact F1e c r w hr j
 have g:=hid (show A0n (c::r)=0 from G1d (by omega) r);obtain⟨b,a⟩:∃b,ofL (c::r)=b:=⟨_,rfl⟩;have f:b.size=r.length+1:=by rw[<-a];exact A0c (c::r)
 have n:b[0]'(by rw[f];omega)=c:=by subst a;exact A1d (c::r) 0 _
 rw[a];have e:c.toNat<192\/248<=c.toNat:=by omega
 generalize d:A0n (c::r)=res at*;clear a d h i j;rcases e with e|e
 ·have k:decide (192<=(c.toNat:Int))=false:=dcF (by omega)
  have l:decide (224<=(c.toNat:Int))=false:=dcF (by omega);have m:decide (240<=(c.toNat:Int))=false:=dcF (by omega);go_enter Tryz.func175,Tryz.ntmps175;go_wp2;go_ret;rw[g.out];exact⟨rfl,Fr.refl _ _⟩
 ·have o:c.toNat<256:=c.toNat_lt
  have k:decide (192<=(c.toNat:Int))=true:=dcT (by omega);have l:decide ((c.toNat:Int)<224)=false:=dcF (by omega);have m:decide (224<=(c.toNat:Int))=true:=dcT (by omega);have p:decide ((c.toNat:Int)<240)=false:=dcF (by omega);have q:decide (240<=(c.toNat:Int))=true:=dcT (by omega);have s:decide ((c.toNat:Int)<248)=false:=dcF (by omega);go_enter Tryz.func175,Tryz.ntmps175;go_wp2;go_ret;rw[g.out];exact⟨rfl,Fr.refl _ _⟩
def Cf (cf:Nat->Nat->Int) (R:Nat->Nat->Prop) (x y:Nat):Prop:=(cf y x<0->R y x)/\(¬cf y x<0->R x y)
def C0c (w0:World) (blk:Nat) (cb:Array Value) (D:Nat->Prop) (cf:Nat->Nat->Int):Prop:=
 ∀x y,D x->D y->∀w,Fr (λi=>i=blk) w0 w->Calls Tryz.prog 129 (#[.int .i64 (x:Int),.int .i64 (y:Int)]++cb) w λe w'=>e=.returned (.int .i64 (cf x y))/\∃k,w'=w.drewN k
theorem C5y {R:Nat->Nat->Prop} {L G:List Nat} {x:Nat} (b:(L++G).Pairwise R) (f:∀g,g∈G->R x g) (h:∀y,y∈L->R y x):(L++x::G).Pairwise R:=by
 rw[List.pairwise_append]at b ⊢;obtain⟨c,d,e⟩:=b;refine⟨c,List.pairwise_cons.2 ⟨f,d⟩,λy hy z a=>?_⟩;rcases List.mem_cons.1 a with rfl|a
 ·exact h y hy
 ·exact e y hy z a
theorem F1f {R:Nat->Nat->Prop} (c:∀x y z,R x y->R y z->R x z) {L G:List Nat} {x y:Nat} (b:(L++[y]++G).Pairwise R) (h:R y x):∀z,z∈L++[y]->R z x:=by
 intro z a;rw[List.pairwise_append,List.pairwise_append]at b;rcases List.mem_append.1 a with a|a
 ·exact c _ _ _ (b.1.2.2 z a y (by simp)) h
 ·simp at a;subst a;exact h
theorem D2g (L:List Nat):L=[]\/∃a y,L=a++[y]:=by
 rcases List.eq_nil_or_concat L with h|⟨a,y,h⟩
 ·exact .inl h
 ·exact .inr ⟨a,y,by simpa using h⟩
theorem B4y (w0 w:World) (d n cap a b bx:Nat) (D:Nat->Prop) (O:Nat->Nat->Int) (R:Nat->Nat->Prop) (tr:∀x y z,R x y->R y z->R x z) (X Z Y:List Nat) (h:DR w0 w d n cap (X++Z++Y)) (hX:X.length=a) (Q:a+Z.length=b) (hZ:Z.Pairwise (Cf O R)) (hD:∀x,x∈Z->D x)
 (hC:C0c w0 d #[.pointer (some ⟨bx,0,none⟩)] D O) (hn:n<=10000000):
 Calls Tryz.prog 202 #[.slice (some ⟨d,0,none⟩) n cap,.int .i64 (a:Int),.int .i64 (b:Int),.func (.func 129) #[] #[.pointer (some ⟨bx,0,none⟩)]] w λe w'=>e=.returned (.tuple #[])/\∃Z',Z'.Perm Z/\Z'.Pairwise R/\DR w0 w' d n cap (X++Z'++Y):=by
 have B:=h.len;simp only[List.length_append]at B;have H:=hid h;have HX:=hid (And.intro hX Q);have HZ:=hid hZ;have U:=hid hD;have HC:=hid hC;have a5:=hid tr;have b5:a<=10000000:=by omega
 have b8:b<=10000000:=by omega
 have b6:b<=n:=by omega
 have mixed:=Tryz.mixedR;by_cases N:Z=[]
 ·subst N
  have b7:¬((a:Int)+1<(b:Int)):=by simp at Q;omega
  clear h hX Q hZ hD hC B;go_enter Tryz.func202,Tryz.ntmps202;go_wp2
  go_loopw [8] (λs wr=>s=.int .i64 ((a:Int)+1)/\wr=w) (λ_ _=>0)
  case atStart=>exact⟨by go_num,rfl⟩
  case round=>
   obtain⟨rfl,rfl⟩:=hrel;go_wp2;go_end0;exact⟨rfl,[],List.Perm.refl _,List.Pairwise.nil,H.out⟩
 ·obtain⟨S,Zr,I⟩:∃S Zr,Z=S::Zr:=by
   cases Z with
   |nil=>exact absurd rfl N
   |cons S Zr=>exact⟨S,Zr,rfl⟩
  have HS:Hid (∃l o c,Z=l++o/\X.length+l.length=a+1/\c.Perm l/\c.Pairwise R/\DR w0 w d n cap (X++c++o++Y)):=
   hid ⟨[S],Zr,[S],by rw[I];rfl,by simp[hX],List.Perm.refl _,List.pairwise_singleton _ _,by rw[I]at h;simpa using h⟩
  have b2:a+1<=b:=by rw[I]at Q;simp at Q;omega
  clear h hX Q hZ hD hC B N I;go_enter Tryz.func202,Tryz.ntmps202;go_wp2
  go_loopw [8] (λs wr=>∃i:Nat,a<i/\i<=b/\s=.int .i64 (i:Int)/\Hid (∃l o c,Z=l++o/\X.length+l.length=i/\c.Perm l/\c.Pairwise R/\DR w0 wr d n cap (X++c++o++Y))) (λs _=>b-(intOf s).toNat)
  case atStart=>exact⟨a+1,by omega,by omega,by go_num,HS⟩
  case round=>
   clear HS;obtain⟨i,b3,c0,rfl,hI⟩:=hrel;by_cases c4:i<b
   ·obtain⟨l,o,c,f,A,F,hs,t⟩:=hI.out
    obtain⟨x,v,rfl⟩:∃x v,o=x::v:=by
     cases o with
     |nil=>have u:=HX.out;rw[f]at u;simp at u;omega
     |cons x v=>exact⟨x,v,rfl⟩
    have HI:=hid (And.intro f (And.intro A (And.intro F hs)))
    have HJ:Hid (∃L G,L++G=c/\X.length+L.length=i/\(∀g,g∈G->R x g)/\DR w0 wr d n cap (X++L++x::G++v++Y)):=
     hid ⟨c,[],by simp,by rw[F.length_eq];exact A,by simp,by simpa using t⟩
    have M:Hid (D x/\∀y,y∈c->D y/\Cf O R y x):=hid (by
     have u:=HZ.out;rw[f,List.pairwise_append]at u;refine⟨U.out x (by rw[f];simp),λy hy=>?_⟩;have a1:=F.mem_iff.1 hy
     exact⟨U.out y (by rw[f];simp[a1]),u.2.2 y a1 x (by simp)⟩)
    clear f A F hs t hI;go_wp2
    go_loopw [9] (λs wr2=>∃j:Nat,a<=j/\j<=i/\s=.int .i64 (j:Int)/\Hid (∃L G,L++G=c/\X.length+L.length=j/\(∀g,g∈G->R x g)/\DR w0 wr2 d n cap (X++L++x::G++v++Y))) (λs _=>(intOf s).toNat)
    case atStart=>exact⟨i,by omega,by omega,rfl,HJ⟩
    case round=>
     clear HJ;obtain⟨j,b4,c3,rfl,hJ⟩:=hrel;obtain⟨L,G,m,J,P,t⟩:=hJ.out;clear hJ;rcases D2g L with rfl|⟨C,y,rfl⟩
     ·
      have a7:j=a:=by have u:=HX.out;simp at J;omega
      subst a7;have c5:¬((j:Int)<(j:Int)):=by omega
      have c1:=t.cell j x (by have:=B1u X (G++v++Y) x;simp at J;rw[J]at this;simpa using this)
      have HE:Hid (∃l o c,Z=l++o/\X.length+l.length=i+1/\c.Perm l/\c.Pairwise R/\∀k,DR w0 (wr.drewN k) d n cap (X++c++o++Y)):=hid (by
       obtain⟨u,h2,h3,W⟩:=HI.out;simp at m;subst m;refine⟨l++[x],v,x::G,by simpa using u,by simp;omega,?_,C5y (L:=[]) (by simpa using W) P (by simp),λk=>by simpa using t.drewN k⟩
       exact(List.Perm.cons x h3).trans (by simpa using(List.perm_append_comm (l₁:=[x]) (l₂:=l))))
      clear t P m J;go_wp2;go_quiet (fail);go_wp2;go_roundw
      case rel=>
       obtain⟨A1,A2,A3,q1,q2,q3,q4,q5⟩:=HE.out;exact⟨i+1,by omega,by omega,by go_num,hid ⟨A1,A2,A3,q1,q2,q3,q4,q5 _⟩⟩
      case measure=>simp[intOf];omega
     ·rw[List.length_append]at J
      simp only[List.length_singleton]at J;obtain⟨p,F⟩:∃p,X.length+C.length=p:=⟨_,rfl⟩;have a8:j=p+1:=by omega
      subst a8;have b9:(a:Int)<(p:Int)+1:=by have u:=HX.out;omega
      have q:DR w0 wr d n cap ((X++C)++y::([]++x::(G++v++Y))):=by simpa using t
      have E:(X++C).length=p:=by rw[List.length_append];exact F
      have c1:=q.cell p y (by rw[<-E];exact B1u _ _ _);have c2:=q.cell (p+1) x (by have:=B9q (X++C) [] (G++v++Y) y x;rw[E]at this;simpa using this);have f1:=q.free p;have f2:=q.free (p+1);have c6:p+1<n:=by omega
      have c7:(p:Int)+1<(n:Int):=by omega
      have b0:(p:Int)<(n:Int):=by omega
      have K:=hid (λk=>HC.out x y M.1 ((M.2 y (by rw[<-m];simp)).1) (wr.drewN k) (t.fr.drewN k));have T:=hid ((M.2 y (by rw[<-m];simp)).2);have c8:IntKind.i64.wrap ((p:Int)+1)=(p:Int)+1:=IntWalk.i64_in _ (by omega);have b1:(p:Int)+1-1=(p:Int):=by omega
      by_cases hc:O x y<0
      ·have HR:=hid (T.1 hc)
       have a0:decide (O x y<0)=true:=dcT hc;have a4:=hid m;have a3:=hid P;have V:=hid F;have a2:=hid (λk=>q.drewN k);clear t q m P J E
       go_wp2_with fail
       go_quiet ((go_at_call 129;exact Calls.quiet_of (K.out _)));have r:=a2.out nq;generalize wr.drewN nq=w2 at r ⊢;have E:(X++C).length=p:=by rw[List.length_append];exact V.out
       have d1:=r.cell p y (by rw[<-E];exact B1u _ _ _);have d2:=r.cell (p+1) x (by have:=B9q (X++C) [] (G++v++Y) y x;rw[E]at this;simpa using this);have g1:=r.free p;have g2:=r.free (p+1)
       have d3:(w2.setCell ⟨d,p+1,none⟩ (.int .i64 (y:Int))).cell? ⟨d,p,none⟩=some (.int .i64 (y:Int)):=by
        rw[World.cell?_setCell_other _ _ _ _ (by intro e;simp only[Addr.mk.injEq]at e;omega)];exact d1
       have g3:(w2.setCell ⟨d,p+1,none⟩ (.int .i64 (y:Int))).frozen? ⟨d,p,none⟩=false:=by rw[World.frozen?_setCell];exact g1
       have S2:=hid (r.swap' p (p+1) E.symm (by rw[E];rfl));clear c1 c2 f1 f2 r E a0 hc K
       go_wp2_with fail
       go_big_region_o
       go_wp2;go_roundw
       case rel=>
        refine⟨p,by omega,by omega,by go_num,hid ⟨C,y::G,by rw[<-a4.out];simp,V.out,?_,by simpa using S2.drew⟩⟩;intro z N;rcases List.mem_cons.1 N with rfl|N
        ·exact HR.out
        ·exact a3.out z N
       case measure=>first|done|(simp[intOf];done)|(simp[intOf];omega)
      ·have a0:decide (O x y<0)=false:=dcF hc
       have HE:Hid (∃l o c,Z=l++o/\X.length+l.length=i+1/\c.Perm l/\c.Pairwise R/\∀k,DR w0 (wr.drewN k) d n cap (X++c++o++Y)):=hid (by
        obtain⟨u,h2,h3,W⟩:=HI.out;have a9:=T.2 hc;rw[<-m]at h3 W;refine⟨l++[x],v,(C++[y])++x::G,by simpa using u,by simp;omega,?_,C5y W P (F1f a5.out W a9),λk=>by simpa using t.drewN k⟩;have q1:((C++[y])++x::G).Perm (x::((C++[y])++G)):=List.perm_middle
        exact q1.trans ((List.Perm.cons x h3).trans (by simpa using(List.perm_append_comm (l₁:=[x]) (l₂:=l)))))
       clear t q m P J E
       go_wp2_with fail
       go_quiet ((go_at_call 129;exact Calls.quiet_of (K.out _)));go_wp2;go_roundw
       case rel=>
        obtain⟨A1,A2,A3,q1,q2,q3,q4,q5⟩:=HE.out;exact⟨i+1,by omega,by omega,by go_num,hid ⟨A1,A2,A3,q1,q2,q3,q4,q5 _⟩⟩
       case measure=>simp[intOf];omega
   ·obtain⟨l,o,c,f,A,F,hs,t⟩:=hI.out
    have a6:o=[]:=by
     have u:=HX.out;rw[f,List.length_append]at u;exact List.eq_nil_of_length_eq_zero (by omega)
    subst a6;have HF:=hid (show∃Z',Z'.Perm Z/\Z'.Pairwise R/\DR w0 wr d n cap (X++Z'++Y)from⟨c,by rw[f];simpa using F,hs,by simpa using t⟩);clear f A F hs t hI;go_wp2;go_end0;exact⟨rfl,HF.out⟩
theorem D4y {R:Nat->Nat->Prop} (k:∀x y z,R x y->R y z->R x z) {B:List Nat} {x t:Nat} (j:B.Pairwise R) (l:t<=B.length) (f:t=0\/∃y,B[t-1]? =some y/\R y x) (g:t=B.length\/∃y,B[t]? =some y/\R x y):
 ∃B1 B2,B=B1++B2/\B1.length=t/\(∀y,y∈B1->R y x)/\∀y,y∈B2->R x y:=by
 refine⟨B.take t,B.drop t,(List.take_append_drop t B).symm,by simp[l],?_,?_⟩
 ·intro y i
  obtain⟨s,c,a⟩:=List.mem_iff_getElem.1 i;simp at c;rw[List.getElem_take]at a;rcases f with f|⟨z,f,e⟩
  ·omega
  ·obtain⟨d,b⟩:=List.getElem?_eq_some_iff.1 f
   by_cases h:s=t-1
   ·subst h
    rw[<-a,b];exact e
   ·have:=List.pairwise_iff_getElem.1 j s (t-1) (by omega) d (by omega)
    rw[a,b]at this;exact k _ _ _ this e
 ·intro y i
  obtain⟨s,c,a⟩:=List.mem_iff_getElem.1 i;simp at c;rw[List.getElem_drop]at a;rcases g with g|⟨z,g,e⟩
  ·omega
  ·obtain⟨d,b⟩:=List.getElem?_eq_some_iff.1 g
   by_cases h:s=0
   ·subst h
    rw[<-a];simpa[b]using e
   ·have:=List.pairwise_iff_getElem.1 j t (t+s) d (by omega) (by omega)
    rw[a,b]at this;exact k _ _ _ e this
theorem D4z {R:Nat->Nat->Prop} {a b:List Nat} {x:Nat} (e:(a++b).Pairwise R) (c:∀y,y∈a->R y x) (d:∀y,y∈b->R x y):(a++x::b).Pairwise R:=C5y e d c
theorem D2h (w0 w:World) (c n cap a m b bx:Nat) (D:Nat->Prop) (O:Nat->Nat->Int) (R:Nat->Nat->Prop) (tr:∀x y z,R x y->R y z->R x z) (X B Y:List Nat) (d:Nat) (h:DR w0 w c n cap (X++[d]++B++Y)) (hX:X.length=a) (hm:a+1=m) (hb:m+B.length=b)
 (hB:B.Pairwise R) (T:∀y,y∈B->Cf O R d y) (U:D d) (g:∀x,x∈B->D x)
 (hC:C0c w0 c #[.pointer (some ⟨bx,0,none⟩)] D O) (hn:n<=10000000):
 Calls Tryz.prog 203 #[.slice (some ⟨c,0,none⟩) n cap,.int .i64 (a:Int),.int .i64 (m:Int),.int .i64 (b:Int),.func (.func 129) #[] #[.pointer (some ⟨bx,0,none⟩)]] w λe w'=>e=.returned (.tuple #[])/\∃Z,Z.Perm ([d]++B)/\Z.Pairwise R/\DR w0 w' c n cap (X++Z++Y):=by
 have u:=h.len;simp only[List.length_append,List.length_singleton]at u;have H:=hid h;have q:=hid (And.intro hX (And.intro hm hb));have HB:=hid hB;have N:=hid (And.intro U g);have a3:=hid T;have HC:=hid hC;have a4:=hid tr;have b8:b<=n:=by omega
 have c9:(m:Int)-(a:Int)=1:=by omega
 have mixed:=Tryz.mixedR;clear h hX hb hB U g hC T u tr;go_enter Tryz.func203,Tryz.ntmps203;go_wp2
 go_loopw [10,11] (λs t wr=>∃i j:Nat,m<=i/\i<=j/\j<=b/\s=.int .i64 (i:Int)/\t=.int .i64 (j:Int)/\Hid ((i-m=0\/∃y,B[i-m-1]? =some y/\R y d)/\(j-m=B.length\/∃y,B[j-m]? =some y/\R d y))/\Hid (DR w0 wr c n cap (X++[d]++B++Y))) (λs t _=>(intOf t).toNat-(intOf s).toNat)
 case atStart=>exact⟨m,b,by omega,by have:=q.out;omega,by omega,rfl,rfl,hid ⟨.inl (by omega),.inl (by have:=q.out;omega)⟩,H⟩
 case round=>
  obtain⟨i,j,b0,c6,a8,rfl,rfl,l,g⟩:=hrel;by_cases a9:i<j
  ·obtain⟨f,W⟩:∃f,(i+j)/2=f:=⟨_,rfl⟩
   have c0:i<=f:=by omega
   have c4:f<j:=by omega
   have b3:(i:Int)<(j:Int):=by omega
   have c5:((i:Int)+(j:Int))/2=(f:Int):=by omega
   obtain⟨y,hy⟩:∃y,B[f-m]? =some y:=by
    have o:=q.out;exact⟨B[f-m]'(by omega),List.getElem?_eq_getElem _⟩
   have E:y∈B:=List.mem_of_getElem? hy
   have c1:=g.cell f y (by
    have o:=q.out;rw[List.getElem?_append_left (by simp;omega),List.getElem?_append_right (by simp;omega),<-hy];congr 1;simp
    omega)
   have c2:=g.cell a d (by
    have o:=q.out;have:=B1u X (B++Y) d;rw[o.1]at this
    simpa using this)
   have b1:(f:Int)<(n:Int):=by omega
   have b2:(a:Int)<(n:Int):=by omega
   have d4:f<n:=by omega
   have b5:a<n:=by omega
   have L:=hid (λk=>HC.out y d (N.2 y E) N.1 (wr.drewN k) (g.fr.drewN k));have K:=hid (a3.out y E);have HY:=hid hy;have b6:=hid W;clear hy E W;by_cases hc:O y d<0
   ·have a6:decide (O y d<0)=true:=dcT hc
    have HR:=hid (K.1 hc)
    go_wp2_with fail
    go_quiet ((go_at_call 129;exact Calls.quiet_of (L.out _)));go_wp2;go_roundw
    case rel=>
     refine⟨f+1,j,by omega,by omega,a8,by go_num,rfl,hid ⟨.inr ⟨y,?_,HR.out⟩,l.2⟩,hid (g.drewN _)⟩;rw[show f+1-m-1=f-m by omega];exact HY.out
    case measure=>simp[intOf];omega
   ·have a6:decide (O y d<0)=false:=dcF hc
    have HR:=hid (K.2 hc)
    go_wp2_with fail
    go_quiet ((go_at_call 129;exact Calls.quiet_of (L.out _)));go_wp2;go_roundw
    case rel=>exact⟨i,f,b0,by omega,by omega,rfl,by go_num,hid ⟨l.1,.inr ⟨y,HY.out,HR.out⟩⟩,hid (g.drewN _)⟩
    case measure=>simp[intOf];omega
  ·obtain rfl:i=j:=by omega
   have d0:¬((i:Int)<(i:Int)):=by omega
   obtain⟨F,J,p,S,a1,a2⟩:=D4y a4.out HB.out (x:=d) (t:=i-m) (by have:=q.out;omega) l.1 l.2;have HF:=hid (And.intro p (And.intro S (And.intro a1 a2)));have V:DR w0 wr c n cap (X++[]++[d]++F++J++Y):=by have:=g.out;rw[p]at this;simpa using this
   have M:=hid V;have a7:(i:Int)-1=((a+F.length:Nat):Int):=by have:=q.out;omega
   obtain⟨e,he⟩:∃e,a+F.length=e:=⟨_,rfl⟩;rw[he]at a7;have b9:e<n:=by have:=q.out;omega
   have C:=hid he;clear p S a1 a2 V g l he;go_wp2
   go_loopw [13] (λs wr=>∃(k:Nat) (r G:List Nat),a<=k/\k<=e/\s=.int .i64 (k:Int)/\Hid (F=r++G/\a+r.length=k)/\Hid (DR w0 wr c n cap (X++r++[d]++G++J++Y))) (λs _=>e-(intOf s).toNat)
   case atStart=>exact⟨a,[],F,by omega,by have:=C.out;omega,rfl,hid ⟨rfl,rfl⟩,M⟩
   case round=>
    clear M;obtain⟨k,r,G,b7,c7,rfl,l,g⟩:=hrel;by_cases a9:k<e
    ·obtain⟨y,A,rfl⟩:∃y A,G=y::A:=by
      cases G with
      |nil=>have o:=l.out;have Q:=C.out;rw[o.1]at Q;simp at Q;omega
      |cons y A=>exact⟨y,A,rfl⟩
     have I:DR w0 wr c n cap ((X++r)++d::([]++y::(A++J++Y))):=by simpa using g.out
     have P:(X++r).length=k:=by have o:=l.out;have Q:=q.out;rw[List.length_append];omega
     have c1:=I.cell k d (by rw[<-P];exact B1u _ _ _);have c2:=I.cell (k+1) y (by have:=B9q (X++r) [] (A++J++Y) d y;rw[P]at this;simpa using this);have f1:=I.free k;have f2:=I.free (k+1);have c8:(k:Int)<(e:Int):=by omega
     have d2:(k:Int)<(n:Int):=by omega
     have b1:(k:Int)+1<(n:Int):=by omega
     have b2:k+1<n:=by omega
     have d3:k<n:=by omega
     have d1:IntKind.i64.wrap ((k:Int)+1)=(k:Int)+1:=IntWalk.i64_in _ (by omega);have S1:=hid (I.swap k (k+1) P.symm (by rw[P];rfl))
     have c3:(wr.setCell ⟨c,k,none⟩ (.int .i64 (y:Int))).cell? ⟨c,k+1,none⟩=some (.int .i64 (y:Int)):=by
      rw[World.cell?_setCell_other _ _ _ _ (by intro e;simp only[Addr.mk.injEq]at e;omega)];exact c2
     have f3:(wr.setCell ⟨c,k,none⟩ (.int .i64 (y:Int))).frozen? ⟨c,k+1,none⟩=false:=by rw[World.frozen?_setCell];exact f2
     clear I P
     go_wp2_with fail
     go_big_region_o
     go_wp2;go_roundw
     case rel=>
      refine⟨k+1,r++[y],A,by omega,by omega,by go_num,hid ⟨?_,?_⟩,hid (by simpa using S1.drew)⟩
      ·rw[l.1];simp
      ·have:=l.2;simp;omega
     case measure=>simp[intOf];omega
    ·have a0:k=e:=by omega
     subst a0
     have a5:G=[]:=by
      have o:=l.out;have Q:=C.out;rw[o.1,List.length_append]at Q;exact List.eq_nil_of_length_eq_zero (by omega)
     subst a5;have b4:¬((k:Int)<(k:Int)):=by omega
     go_wp2
     first|go_end0|go_ret|(refine bodyPost_ret (v:=.tuple #[]) (by simp[results,Tryz.results203,go_sem]) rfl ?_)
     refine⟨rfl,F++d::J,?_,?_,?_⟩
     ·rw[HF.1];exact List.perm_middle
     ·exact D4z (by rw[<-HF.1];exact HB.out) HF.2.2.1 HF.2.2.2
     ·have:=g.out
      have o:=l.1;simp at o;rw[o];simpa using this
theorem D8d (w0 w:World) (c n cap a m b bx:Nat) (D:Nat->Prop) (Q:Nat->Nat->Int) (R:Nat->Nat->Prop) (tr:∀x y z,R x y->R y z->R x z) (X A Y:List Nat) (d:Nat) (h:DR w0 w c n cap (X++A++[d]++Y)) (hX:X.length=a) (a7:2<=A.length) (hm:a+A.length=m) (hb:m+1=b)
 (hA:A.Pairwise R) (U:∀x,x∈A->Cf Q R x d) (V:D d) (o:∀x,x∈A->D x)
 (hC:C0c w0 c #[.pointer (some ⟨bx,0,none⟩)] D Q) (hn:n<=10000000):
 Calls Tryz.prog 203 #[.slice (some ⟨c,0,none⟩) n cap,.int .i64 (a:Int),.int .i64 (m:Int),.int .i64 (b:Int),.func (.func 129) #[] #[.pointer (some ⟨bx,0,none⟩)]] w λe w'=>e=.returned (.tuple #[])/\∃Z,Z.Perm (A++[d])/\Z.Pairwise R/\DR w0 w' c n cap (X++Z++Y):=by
 have B:=h.len;simp only[List.length_append,List.length_singleton]at B;have H:=hid h;have E:=hid (And.intro hX (And.intro hm hb));have HA:=hid hA;have O:=hid (And.intro V o);have a5:=hid U;have HC:=hid hC;have a6:=hid tr;have d1:m<n:=by omega
 have c0:a+2<=m:=by omega
 have d2:((m:Int)-(a:Int)==1)=false:=bqF (by omega);have c4:(b:Int)-(m:Int)=1:=by omega
 have mixed:=Tryz.mixedR;clear h hX hb hA V o hC U B tr a7 hm;go_enter Tryz.func203,Tryz.ntmps203;go_wp2
 go_loopw [14,15] (λs t wr=>∃i j:Nat,a<=i/\i<=j/\j<=m/\s=.int .i64 (i:Int)/\t=.int .i64 (j:Int)/\Hid ((i-a=0\/∃x,A[i-a-1]? =some x/\R x d)/\(j-a=A.length\/∃x,A[j-a]? =some x/\R d x))/\Hid (DR w0 wr c n cap (X++A++[d]++Y))) (λs t _=>(intOf t).toNat-(intOf s).toNat)
 case atStart=>exact⟨a,m,by omega,by omega,by omega,rfl,rfl,hid ⟨.inl (by omega),.inl (by have:=E.out;omega)⟩,H⟩
 case round=>
  obtain⟨i,j,b2,c8,b0,rfl,rfl,q,o⟩:=hrel;by_cases b1:i<j
  ·obtain⟨g,a0⟩:∃g,(i+j)/2=g:=⟨_,rfl⟩
   have c5:i<=g:=by omega
   have c6:g<j:=by omega
   have b5:(i:Int)<(j:Int):=by omega
   have c7:((i:Int)+(j:Int))/2=(g:Int):=by omega
   obtain⟨x,hx⟩:∃x,A[g-a]? =some x:=by
    have l:=E.out;exact⟨A[g-a]'(by omega),List.getElem?_eq_getElem _⟩
   have F:x∈A:=List.mem_of_getElem? hx
   have c1:=o.cell g x (by
    have l:=E.out
    rw[List.append_assoc,List.append_assoc,List.getElem?_append_right (by omega),List.getElem?_append_left (by omega),<-hx,l.1])
   have c2:=o.cell m d (by
    have l:=E.out;have:=B1u (X++A) Y d;rw[List.length_append,l.1,l.2.1]at this
    simpa using this)
   have b3:(g:Int)<(n:Int):=by omega
   have b4:(m:Int)<(n:Int):=by omega
   have d6:g<n:=by omega
   have M:=hid (λk=>HC.out d x O.1 (O.2 x F) (wr.drewN k) (o.fr.drewN k));have K:=hid (a5.out x F);have HY:=hid hx;have b8:=hid a0;clear hx F a0;by_cases hc:Q d x<0
   ·have a9:decide (Q d x<0)=true:=dcT hc
    have HR:=hid (K.1 hc)
    go_wp2_with fail
    go_quiet ((go_at_call 129;exact Calls.quiet_of (M.out _)));go_wp2;go_roundw
    case rel=>exact⟨i,g,b2,by omega,by omega,rfl,by go_num,hid ⟨q.1,.inr ⟨x,HY.out,HR.out⟩⟩,hid (o.drewN _)⟩
    case measure=>simp[intOf];omega
   ·have a9:decide (Q d x<0)=false:=dcF hc
    have HR:=hid (K.2 hc)
    go_wp2_with fail
    go_quiet ((go_at_call 129;exact Calls.quiet_of (M.out _)));go_wp2;go_roundw
    case rel=>
     refine⟨g+1,j,by omega,by omega,b0,by go_num,rfl,hid ⟨.inr ⟨x,?_,HR.out⟩,q.2⟩,hid (o.drewN _)⟩;rw[show g+1-a-1=g-a by omega];exact HY.out
    case measure=>simp[intOf];omega
  ·obtain rfl:i=j:=by omega
   have d3:¬((i:Int)<(i:Int)):=by omega
   obtain⟨r,u,f,T,a2,a3⟩:=D4y a6.out HA.out (x:=d) (t:=i-a) (by have:=E.out;omega) q.1 q.2;have P:=hid (And.intro f (And.intro T (And.intro a2 a3)));have W:DR w0 wr c n cap (X++r++u++[d]++[]++Y):=by have:=o.out;rw[f]at this;simpa using this
   have N:=hid W;have a4:=hid (show i+u.length=m from by have:=E.out;have h2:=congrArg List.length f;rw[List.length_append]at h2;omega);clear f T a2 a3 W o q;go_wp2
   go_loopw [17] (λs wr=>∃(k:Nat) (C G:List Nat),i<=k/\k<=m/\s=.int .i64 (k:Int)/\Hid (u=C++G/\i+C.length=k)/\Hid (DR w0 wr c n cap (X++r++C++[d]++G++Y))) (λs _=>(intOf s).toNat)
   case atStart=>exact⟨m,u,[],by omega,by omega,rfl,hid ⟨by simp,a4.out⟩,N⟩
   case round=>
    clear N;obtain⟨k,C,G,b9,c9,rfl,q,o⟩:=hrel;by_cases b1:i<k
    ·obtain⟨I,y,rfl⟩:∃I y,C=I++[y]:=by
      rcases D2g C with rfl|⟨L,y,rfl⟩
      ·have l:=q.out;simp at l;omega
      ·exact⟨L,y,rfl⟩
     obtain⟨p,hp⟩:∃p,k=p+1:=⟨k-1,by omega⟩;subst hp;have J:DR w0 wr c n cap ((X++r++I)++y::([]++d::(G++Y))):=by simpa using o.out
     have S:(X++r++I).length=p:=by have l:=q.2;have h2:=E.out;have h3:=P.2.1;simp only[List.length_append,List.length_singleton]at l ⊢;omega
     have c1:=J.cell p y (by rw[<-S];exact B1u _ _ _);have c2:=J.cell (p+1) d (by have:=B9q (X++r++I) [] (G++Y) y d;rw[S]at this;simpa using this);have f1:=J.free p;have f2:=J.free (p+1);have d0:(i:Int)<(p:Int)+1:=by omega
     have d4:(p:Int)<(n:Int):=by omega
     have b3:(p:Int)+1<(n:Int):=by omega
     have b4:p+1<n:=by omega
     have d5:p<n:=by omega
     have b7:(p:Int)+1-1=(p:Int):=by omega
     have S1:=hid (J.swap' p (p+1) S.symm (by rw[S];rfl))
     have c3:(wr.setCell ⟨c,p+1,none⟩ (.int .i64 (y:Int))).cell? ⟨c,p,none⟩=some (.int .i64 (y:Int)):=by
      rw[World.cell?_setCell_other _ _ _ _ (by intro e;simp only[Addr.mk.injEq]at e;omega)];exact c1
     have f3:(wr.setCell ⟨c,p+1,none⟩ (.int .i64 (y:Int))).frozen? ⟨c,p,none⟩=false:=by rw[World.frozen?_setCell];exact f1
     clear J S
     go_wp2_with fail
     go_big_region_o
     go_wp2;go_roundw
     case rel=>
      refine⟨p,I,y::G,by omega,by omega,by go_num,hid ⟨?_,?_⟩,hid (by simpa using S1.drew)⟩
      ·rw[q.1];simp
      ·have:=q.2;simp only[List.length_append,List.length_singleton]at this;omega
     case measure=>simp[intOf]
    ·have a1:k=i:=by omega
     subst a1
     have a8:C=[]:=by
      have l:=q.out;exact List.eq_nil_of_length_eq_zero (by omega)
     subst a8;have b6:¬((k:Int)<(k:Int)):=by omega
     go_wp2
     first|go_end0|go_ret|(refine bodyPost_ret (v:=.tuple #[]) (by simp[results,Tryz.results203,go_sem]) rfl ?_)
     refine⟨rfl,r++d::u,?_,?_,?_⟩
     ·rw[P.1]
      have q1:(r++d::u).Perm (d::(r++u)):=List.perm_middle;exact q1.trans (by simpa using(List.perm_append_comm (l₁:=[d]) (l₂:=r++u)))
     ·exact D4z (by rw[<-P.1];exact HA.out) P.2.2.1 P.2.2.2
     ·have:=o.out
      have l:=q.1;simp at l;rw[l];simpa using this
end Go.Proofs.YtmkkibaacclhnaaGreatDoor
