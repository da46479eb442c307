/-
  Part Wt.
-/
import Derived.Test.YtmkkibaacclhnaaGreatDoorWm
import Derived.Test.YtmkkibaacclhnaaGreatDoorWs
namespace Go.Proofs.YtmkkibaacclhnaaGreatDoor
open Go.RowKit
set_option maxRecDepth 100000
set_option maxHeartbeats 16000000
theorem C9a {sz:List Im->Nat} (h:∀l,sz l<=l.length) (b:Bool) (c:Nat) (l:List Im) (m:Nat) (a:A0m sz b c l=some m):m<=l.length:=by
 induction c generalizing l m with
 |zero=>simp[A0m]at a;omega
 |succ c ih=>
  cases b with
  |true=>
   cases l with
   |nil=>simp[A0m]at a
   |cons k r=>
    simp only[A0m,if_true]at a;split at a
    ·split at a
     ·cases a
     ·obtain⟨g,d,rfl⟩:=Option.map_eq_some_iff.1 a
      have e:=ih _ _ d;have f:=h r;rw[List.length_drop]at e;simp only[List.length_cons];omega
    ·cases a
  |false=>
   simp only[A0m,Bool.false_eq_true,if_false]at a;split at a
   ·cases a
   ·obtain⟨g,d,rfl⟩:=Option.map_eq_some_iff.1 a
    have e:=ih _ _ d;have f:=h l;rw[List.length_drop]at e;omega
theorem A5w (d:Nat) (l:List Im):A0i d l<=l.length:=by
 induction d generalizing l with
 |zero=>
  cases l with
  |nil=>simp[A0i]
  |cons x r=>simp only[A0i,List.length_cons];split<;>omega
 |succ d ih=>
  cases l with
  |nil=>simp[A0i]
  |cons x r=>
   simp only[A0i,List.length_cons];split
   ·split
    ·omega
    ·cases a:A0m (A0i d) (decide (x.k=6)) x.n.toNat r with
     |none=>simp[D2i]
     |some m=>
      have:=C9a ih _ _ _ _ a;simp only[D2i];omega
   ·omega
def C5z:Option Nat->Nat->Nat
 |none,_=>0
 |some m,a=>a+m
theorem C9b (o:Option Nat):C5z o 1=D2i o:=by cases o<;>simp[C5z,D2i];omega
theorem C9c (o:Option Nat) (k a:Nat):C5z (o.map (λm=>k+m)) a=C5z o (a+k):=by cases o<;>simp[C5z];omega
theorem F1g (d:Nat) (IH:E4n d) (w:World) (D:Addr) (cap inn:Nat) (n:Int) (b:Nat) (s:LU8) (r:List Im) (b0:d+1+inn=1000) (h:LR w (some D) (⟨5,n,b,s⟩::r)) (Q:r.length+1<=cap) (hc:cap<=9223372036854775807) (hs:∀y,y∈(⟨5,n,b,s⟩:Im)::r->y.s.length<=100000000) (hg:A0z ⟨5,n,b,s⟩=true):
 Calls Tryz.prog 46 #[.slice (some D) (r.length+1) cap,.int .i64 (inn:Int)] w λe w'=>e=.returned (.int .i64 ((D2i (A0m (A0i d) false n.toNat r):Nat):Int))/\Fr (λ_=>False) w w':=by
 have Z:0<=n:=(A5i hg (by simp)).2;obtain⟨N,rfl⟩:∃N:Nat,n=(N:Int):=⟨n.toNat,by omega⟩;have b2:(0:Int)<=(N:Int):=by omega
 rw[Int.toNat_natCast];obtain⟨l,R⟩:∃l,(⟨5,(N:Int),b,s⟩:Im)::r=l:=⟨_,rfl⟩;have a9:=hid (show LR w (some D) l from by rw[<-R];exact h);have HC:=hid (λ(g:World) (C:Fr (λ_=>False) w g)=>(h.fr C).at0);obtain⟨X,W,T,V⟩:=h.at0;have HF:=hid (Fr.refl (λ_=>False) w);have HG:=hid (λw=>B2m ⟨5,(N:Int),b,s⟩ w (hs _ (by simp)));rw[hg]at HG
 try simp only at X W T V
 have E:l.length=r.length+1:=by rw[<-R];rfl
 obtain⟨L,hL⟩:∃L,r.length+1=L:=⟨_,rfl⟩;rw[hL]at E Q;have F:=hid E;have H1:=hid (show C5z (A0m (A0i d) false (N-0) (l.drop 1)) 1=D2i (A0m (A0i d) false N r)from by rw[C9b,<-R];rfl);generalize D2i (A0m (A0i d) false N r)=U at*;have d5:1<=L:=by omega
 rw[hL];have c5:((L:Int)==0)=false:=bqF (by omega);have c4:decide ((1000:Int)<=(inn:Int))=false:=dcF (by omega);have d4:IntKind.i64.wrap ((inn:Int)+1)=(inn:Int)+1:=IntWalk.i64_in _ (by omega);have b6:(0:Int)<(L:Int):=by omega
 have a8:=hid (show∀y,y∈l->y.s.length<=100000000 from by rw[<-R];exact hs);have a5:=hid (show d+(inn+1)=1000 from by omega);have M:=hid (λ(g:World) (a:Nat) (C:Fr (λ_=>False) w g) (ha:a<cap)=>IH g (some (D.add (a*4))) (cap-a) (inn+1) (l.drop a) a5.out ((a9.fr C).drop a) (by have:=F.out;rw[List.length_drop];omega) (by omega) (λy hy=>a8.out y (List.mem_of_mem_drop hy)));have J:=hid (λ(g:World)=>B8a g (some D) 0 (inn+1));clear h hs hg R E hL Z;go_enter Tryz.func46,Tryz.ntmps46
 go_wp2_with fail
 refine Calls.mono (HG.out _) ?_;rintro e w2 ⟨rfl,G⟩;have a4:=hid G;obtain⟨d0,d1,d2,d3⟩:=HC.out w2 G;clear G X W T V;go_wp2
 go_loopw [6,7] (λs t wr=>∃a i:Nat,i+1<=a/\a<=L/\i<=N/\s=.int .i64 (a:Int)/\t=.int .i64 (i:Int)/\Hid (C5z (A0m (A0i d) false (N-i) (l.drop a)) a=U)/\Hid (Fr (λ_=>False) w wr)) (λ_ t _=>N-(intOf t).toNat)
 case atStart=>exact⟨1,0,by omega,by omega,by omega,by go_num,by go_num,H1,a4⟩
 case round=>
  clear d0 d1 d2 d3 H1;obtain⟨a,i,c9,c7,c8,rfl,rfl,Y,B⟩:=hrel;obtain⟨X,W,T,V⟩:=HC.out wr B.out
  try simp only at X W T V
  by_cases b8:i<N
  ·have b5:(i:Int)<(N:Int):=by omega
   obtain⟨c,x⟩:∃c,N-i=c+1:=⟨N-i-1,by omega⟩;have f:=Y.out;rw[x]at f;have b7:IntKind.i64.wrap ((i:Int)+1)=(i:Int)+1:=IntWalk.i64_in _ (by omega);have z:c=N-(i+1):=by omega
   simp only[A0m,Bool.false_eq_true,if_false]at f;obtain⟨k,v⟩:∃k,A0i d (l.drop a)=k:=⟨_,rfl⟩;have a0:k<=L-a:=by have h1:=A5w d (l.drop a);have h2:=F.out;rw[v,List.length_drop]at h1;omega
   rw[v]at f
   have q:∀g,Fr (λ_=>False) w g->Calls Tryz.prog 46 #[(if a<cap then .slice (some (D.add (a*4))) (L-a) (cap-a)else .slice (some D) (L-a) 0),.int .i64 ((inn+1:Nat):Int)] g λe w'=>e=.returned (.int .i64 ((k:Nat):Int))/\Fr (λ_=>False) g w':=by
    intro g C;by_cases m:a<cap
    ·rw[if_pos m]
     have:=M.out g a C m;rw[List.length_drop,F.out,v]at this;exact this
    ·rw[if_neg m]
     have e0:L-a=0:=by omega
     have e1:k=0:=by omega
     rw[e0,e1];exact J.out g
   have O:=hid q;clear q v;have a3:IntKind.i64.wrap ((a:Int)+(k:Int))=(a:Int)+(k:Int):=IntWalk.i64_in _ (by omega);have c6:(inn:Int)+1=((inn+1:Nat):Int):=by omega
   by_cases m:a<cap
   ·have S:=hid (λg C=>(show Calls Tryz.prog 46 #[.slice (some (D.add (a*4))) (L-a) (cap-a),.int .i64 ((inn+1:Nat):Int)] g _ from by have:=O.out g C;rw[if_pos m]at this;exact this))
    generalize inn+1=inn1 at*;by_cases o:k=0
    ·subst o
     rw[if_pos rfl]at f;have A:U=0:=by rw[<-f];rfl
     have u:=hid A;clear f A x z
     go_wp2_with fail
     refine Calls.mono (S.out _ B.out) ?_;rintro e w4 ⟨rfl,j⟩;have p:=hid (B.trans j);clear j;go_wp2;go_ret;exact⟨by rw[u.out];rfl,p.out⟩
    ·rw[if_neg o,List.drop_drop,C9c,z]at f
     obtain⟨H,P⟩:∃H,a+k=H:=⟨_,rfl⟩;have b3:(a:Int)+(k:Int)=(H:Int):=by omega
     rw[P]at f;have a6:=hid f;have b4:((k:Int)==0)=false:=bqF (by omega);have I:H<=L:=by omega
     have b1:i+2<=H:=by omega
     clear f x P a3 z a0 o
     go_wp2_with fail
     refine Calls.mono (S.out _ B.out) ?_;rintro e w4 ⟨rfl,j⟩;have p:=hid (B.trans j);clear j;go_wp2;go_roundw
     case rel=>exact⟨H,i+1,by omega,I,by omega,rfl,by go_num,a6,p⟩
     case measure=>simp[intOf];omega
   ·have S:=hid (λ(g:World) (C:Fr (λ_=>False) w g)=>J.out g)
    have o:k=0:=by omega
    subst o;have a7:L=a:=by omega
    have a1:cap=a:=by omega
    subst a7;subst a1;clear O M;generalize inn+1=inn1 at*;rw[if_pos rfl]at f;have A:U=0:=by rw[<-f];rfl
    have u:=hid A;clear f A x z
    go_wp2_with fail
    refine Calls.mono (S.out _ B.out) ?_;rintro e w4 ⟨rfl,j⟩;have p:=hid (B.trans j);clear j;go_wp2;go_ret;exact⟨by rw[u.out];rfl,p.out⟩
  ·have K:i=N:=by omega
   subst K;have b9:¬((i:Int)<(i:Int)):=by omega
   have A:a=U:=by have:=Y.out;rw[Nat.sub_self]at this;exact this
   have u:=hid A;clear A Y;go_wp2;go_ret;exact⟨by have hu:=u.out;subst hu;rfl,B.out⟩
theorem F1h (d:Nat) (IH:E4n d) (w:World) (K:Addr) (cap inn:Nat) (n:Int) (b:Nat) (s:LU8) (r:List Im) (c6:d+1+inn=1000) (h:LR w (some K) (⟨6,n,b,s⟩::r)) (a8:r.length+1<=cap) (hc:cap<=9223372036854775807) (hs:∀y,y∈(⟨6,n,b,s⟩:Im)::r->y.s.length<=100000000) (hg:A0z ⟨6,n,b,s⟩=true):
 Calls Tryz.prog 46 #[.slice (some K) (r.length+1) cap,.int .i64 (inn:Int)] w λe w'=>e=.returned (.int .i64 ((D2i (A0m (A0i d) true n.toNat r):Nat):Int))/\Fr (λ_=>False) w w':=by
 have b3:0<=n:=(A5i hg (by simp)).2;obtain⟨N,rfl⟩:∃N:Nat,n=(N:Int):=⟨n.toNat,by omega⟩;have d4:(0:Int)<=(N:Int):=by omega
 rw[Int.toNat_natCast];obtain⟨l,hl⟩:∃l,(⟨6,(N:Int),b,s⟩:Im)::r=l:=⟨_,rfl⟩;have b1:=hid (show LR w (some K) l from by rw[<-hl];exact h);have HC:=hid (λ(m:World) (G:Fr (λ_=>False) w m)=>(h.fr G).at0);obtain⟨T,Q,M,O⟩:=h.at0;have HF:=hid (Fr.refl (λ_=>False) w);have HG:=hid (λw=>B2m ⟨6,(N:Int),b,s⟩ w (hs _ (by simp)));rw[hg]at HG
 try simp only at T Q M O
 have P:l.length=r.length+1:=by rw[<-hl];rfl
 obtain⟨L,hL⟩:∃L,r.length+1=L:=⟨_,rfl⟩;rw[hL]at P a8;have F:=hid P;have H1:=hid (show C5z (A0m (A0i d) true (N-0) (l.drop 1)) 1=D2i (A0m (A0i d) true N r)from by rw[C9b,<-hl];rfl);generalize D2i (A0m (A0i d) true N r)=U at*;have f4:1<=L:=by omega
 rw[hL];have e8:((L:Int)==0)=false:=bqF (by omega);have e7:decide ((1000:Int)<=(inn:Int))=false:=dcF (by omega);have f3:IntKind.i64.wrap ((inn:Int)+1)=(inn:Int)+1:=IntWalk.i64_in _ (by omega);have e3:(0:Int)<(L:Int):=by omega
 have b0:=hid (show∀y,y∈l->y.s.length<=100000000 from by rw[<-hl];exact hs);have b8:=hid (show d+(inn+1)=1000 from by omega);have a3:=hid (λ(m:World) (a:Nat) (G:Fr (λ_=>False) w m) (ha:a<cap)=>IH m (some (K.add (a*4))) (cap-a) (inn+1) (l.drop a) b8.out ((b1.fr G).drop a) (by have:=F.out;rw[List.length_drop];omega) (by omega) (λy V=>b0.out y (List.mem_of_mem_drop V)));have Z:=hid (λ(m:World)=>B8a m (some K) 0 (inn+1));clear h hs hg hl P hL b3;go_enter Tryz.func46,Tryz.ntmps46
 go_wp2_with fail
 refine Calls.mono (HG.out _) ?_;rintro e w2 ⟨rfl,S⟩;have b7:=hid S;obtain⟨d0,d1,d2,d3⟩:=HC.out w2 S;clear S T Q M O;go_wp2
 go_loopw [6,7] (λs t wr=>∃a i:Nat,i+1<=a/\a<=L/\i<=N/\s=.int .i64 (a:Int)/\t=.int .i64 (i:Int)/\Hid (C5z (A0m (A0i d) true (N-i) (l.drop a)) a=U)/\Hid (Fr (λ_=>False) w wr)) (λ_ t _=>N-(intOf t).toNat)
 case atStart=>exact⟨1,0,by omega,by omega,by omega,by go_num,by go_num,H1,b7⟩
 case round=>
  clear d0 d1 d2 d3 H1;obtain⟨a,i,f2,f0,f1,rfl,rfl,hG,A⟩:=hrel;obtain⟨T,Q,M,O⟩:=HC.out wr A.out
  try simp only at T Q M O
  by_cases e5:i<N
  ·have e2:(i:Int)<(N:Int):=by omega
   obtain⟨c,u⟩:∃c,N-i=c+1:=⟨N-i-1,by omega⟩;have f:=hG.out;rw[u]at f;have e4:IntKind.i64.wrap ((i:Int)+1)=(i:Int)+1:=IntWalk.i64_in _ (by omega);have v:c=N-(i+1):=by omega
   by_cases d5:a<L
   ·obtain⟨y,V⟩:∃y,l[a]? =some y:=⟨l[a]'(by have:=F.out;omega),List.getElem?_eq_getElem _⟩
    have a7:l.drop a=y::l.drop (a+1):=by
     obtain⟨h1,h2⟩:=List.getElem?_eq_some_iff.1 V;rw[<-h2];exact List.drop_eq_getElem_cons h1
    rw[a7]at f;simp only[A0m,if_true]at f;have HY:=hid (λ(m:World) (G:Fr (λ_=>False) w m)=>(b1.fr G).at_ V);have x:=hid (λw=>B2m y w (b0.out y (List.mem_of_getElem? V)));obtain⟨q0,q1,q2,q3⟩:=HY.out wr A.out;obtain⟨yk,yn,yb,ys⟩:=y;simp only at q0 q1 q2 q3 f x;have b2:decide ((L:Int)<=(a:Int))=false:=dcF (by omega);have c5:(a:Int)<(L:Int):=by omega
    clear a7 V;by_cases I:yk=4
    ·subst I
     cases J:A0z ⟨4,yn,yb,ys⟩with
     |false=>
      rw[J]at x f;rw[if_neg (by simp)]at f;have p:U=0:=by rw[<-f];rfl
      have k:=hid p;clear f p J u v
      go_wp2_with fail
      refine Calls.mono (x.out _) ?_;rintro e X ⟨rfl,g⟩;have o:=hid (A.trans g);clear g;go_wp2;go_ret;exact⟨by rw[k.out];rfl,o.out⟩
     |true=>
      rw[J]at x f;rw[if_pos ⟨rfl,rfl⟩]at f;obtain⟨j,R⟩:∃j,a+1=j:=⟨_,rfl⟩;rw[R]at f;have d9:(a:Int)+1=(j:Int):=by omega
      have d8:j<=L:=by omega
      obtain⟨z,H⟩:∃z,A0i d (l.drop j)=z:=⟨_,rfl⟩;have b4:z<=L-j:=by have h1:=A5w d (l.drop j);have h2:=F.out;rw[H,List.length_drop]at h1;omega
      rw[H]at f
      have E:∀m,Fr (λ_=>False) w m->Calls Tryz.prog 46 #[(if j<cap then .slice (some (K.add (j*4))) (L-j) (cap-j)else .slice (some K) (L-j) 0),.int .i64 ((inn+1:Nat):Int)] m λe w'=>e=.returned (.int .i64 ((z:Nat):Int))/\Fr (λ_=>False) m w':=by
       intro m G;by_cases B:j<cap
       ·rw[if_pos B]
        have:=a3.out m j G B;rw[List.length_drop,F.out,H]at this;exact this
       ·rw[if_neg B]
        have e0:L-j=0:=by omega
        have e1:z=0:=by omega
        rw[e0,e1];exact Z.out m
      have a4:=hid E;have a9:=hid R;clear E H R J;have b6:IntKind.i64.wrap ((j:Int)+(z:Int))=(j:Int)+(z:Int):=IntWalk.i64_in _ (by omega);have e9:(inn:Int)+1=((inn+1:Nat):Int):=by omega
      by_cases B:j<cap
      ·have H5:=hid (λm G=>(show Calls Tryz.prog 46 #[.slice (some (K.add (j*4))) (L-j) (cap-j),.int .i64 ((inn+1:Nat):Int)] m _ from by have:=a4.out m G;rw[if_pos B]at this;exact this))
       generalize inn+1=inn1 at*;by_cases C:z=0
       ·subst C
        rw[if_pos rfl]at f;have p:U=0:=by rw[<-f];rfl
        have k:=hid p;clear f p u v
        go_wp2_with fail
        refine Calls.mono (x.out _) ?_;rintro e X ⟨rfl,g⟩;have o:=hid (A.trans g);obtain⟨p0,p1,p2,p3⟩:=HC.out X (A.trans g);clear g T Q M O q0 q1 q2 q3
        go_wp2_with fail
        refine Calls.mono (H5.out _ o.out) ?_;rintro e w4 ⟨rfl,q⟩;have D:=hid (o.trans q);clear q;go_wp2;go_ret;exact⟨by rw[k.out];rfl,D.out⟩
       ·rw[if_neg C,List.drop_drop,C9c,v]at f
        rw[show a+(1+z)=j+z by have:=a9.out;omega]at f;obtain⟨W,a6⟩:∃W,j+z=W:=⟨_,rfl⟩;have d6:(j:Int)+(z:Int)=(W:Int):=by omega
        rw[a6]at f;have b9:=hid f;have d7:((z:Int)==0)=false:=bqF (by omega);have Y:W<=L:=by omega
        have c8:i+2<=W:=by have:=a9.out;omega
        clear f u a6 b6 v b4 C
        go_wp2_with fail
        refine Calls.mono (x.out _) ?_;rintro e X ⟨rfl,g⟩;have o:=hid (A.trans g);obtain⟨p0,p1,p2,p3⟩:=HC.out X (A.trans g);clear g T Q M O q0 q1 q2 q3
        go_wp2_with fail
        refine Calls.mono (H5.out _ o.out) ?_;rintro e w4 ⟨rfl,q⟩;have D:=hid (o.trans q);clear q;go_wp2;go_roundw
        case rel=>exact⟨W,i+1,by omega,Y,by omega,rfl,by go_num,b9,D⟩
        case measure=>simp[intOf];omega
      ·have H5:=hid (λ(m:World) (G:Fr (λ_=>False) w m)=>Z.out m)
       have C:z=0:=by omega
       subst C;have c4:L=j:=by omega
       have b5:cap=j:=by omega
       subst c4;subst b5;clear a4 a3;generalize inn+1=inn1 at*;rw[if_pos rfl]at f;have p:U=0:=by rw[<-f];rfl
       have k:=hid p;clear f p u v
       go_wp2_with fail
       refine Calls.mono (x.out _) ?_;rintro e X ⟨rfl,g⟩;have o:=hid (A.trans g);obtain⟨p0,p1,p2,p3⟩:=HC.out X (A.trans g);clear g T Q M O q0 q1 q2 q3
       go_wp2_with fail
       refine Calls.mono (H5.out _ o.out) ?_;rintro e w4 ⟨rfl,q⟩;have D:=hid (o.trans q);clear q;go_wp2;go_ret;exact⟨by rw[k.out];rfl,D.out⟩
    ·rw[if_neg (λh=>I h.1)]at f
     have p:U=0:=by rw[<-f];rfl
     have k:=hid p;have c7:(yk !=4)=true:=by simpa using I
     have c9:(yk==4)=false:=bqF I;clear f p u v;go_wp2;go_ret;exact⟨by rw[k.out];rfl,A.out⟩
   ·have a5:l.drop a=[]:=List.drop_eq_nil_of_le (by have:=F.out;omega)
    rw[a5]at f;simp only[A0m,if_true]at f;have p:U=0:=by rw[<-f];rfl
    have k:=hid p;have b2:decide ((L:Int)<=(a:Int))=true:=dcT (by omega);clear f p u a5 v;go_wp2;go_ret;exact⟨by rw[k.out];rfl,A.out⟩
  ·have a0:i=N:=by omega
   subst a0;have e6:¬((i:Int)<(i:Int)):=by omega
   have p:a=U:=by have:=hG.out;rw[Nat.sub_self]at this;exact this
   have k:=hid p;clear p hG;go_wp2;go_ret;exact⟨by have hu:=k.out;subst hu;rfl,A.out⟩
theorem C6a (d:Nat):E4n d:=by
 induction d with
 |zero=>
  intro w o cap inn l p h a g j;cases l with
  |nil=>exact B8a w o cap inn
  |cons x r=>
   obtain⟨i,rfl,_⟩:=h (by simp);have e:=j x (by simp);by_cases f:x.k<5
   ·by_cases c:A0z x=true
    ·rw[show A0i 0 (x::r)=1 from by simp only[A0i];rw[if_pos ⟨c,f⟩]]
     exact C8z w i cap inn x r (by omega) h a g e f c
    ·rw[show A0i 0 (x::r)=0 from by simp only[A0i];rw[if_neg (λh=>c h.1)]]
     exact D5d w i cap inn x r (by omega) h a g e (.inr f) (by simpa using c)
   ·rw[show A0i 0 (x::r)=0 from by simp only[A0i];rw[if_neg (λh=>f h.2)]]
    exact E4p w i cap inn x r (by omega) h a g e (by omega) (by omega)
 |succ d ih=>
  intro w o cap inn l p h a g j;cases l with
  |nil=>exact B8a w o cap inn
  |cons x r=>
   obtain⟨i,rfl,_⟩:=h (by simp);have e:=j x (by simp);by_cases c:A0z x=true
   ·by_cases f:x.k<5
    ·rw[show A0i (d+1) (x::r)=1 from by simp only[A0i];rw[if_pos c,if_pos f]]
     exact C8z w i cap inn x r (by omega) h a g e f c
    ·obtain⟨k,n,b,s⟩:=x
     obtain⟨m,_⟩:=A5i c f;simp only at m f;rcases m with rfl|rfl
     ·rw[show A0i (d+1) (⟨5,n,b,s⟩::r)=D2i (A0m (A0i d) false n.toNat r)from by simp only[A0i];rw[if_pos c,if_neg f];rfl]
      exact F1g d ih w i cap inn n b s r p h a g j c
     ·rw[show A0i (d+1) (⟨6,n,b,s⟩::r)=D2i (A0m (A0i d) true n.toNat r)from by simp only[A0i];rw[if_pos c,if_neg f];rfl]
      exact F1h d ih w i cap inn n b s r p h a g j c
   ·rw[show A0i (d+1) (x::r)=0 from by simp only[A0i];rw[if_neg c]]
    exact D5d w i cap inn x r (by omega) h a g e (.inl (by omega)) (by simpa using c)
def A6p (indent:Int) (inn:Nat):LU8:=if indent<0 then[]else 10::List.replicate (indent.toNat*inn) 32
def C3j (n:Nat):UInt8:=if n<10 then UInt8.ofNat (48+n)else UInt8.ofNat (87+n)
def A4f (c:UInt8):LU8:=
 if c.toNat=34\/c.toNat=92 then[92,c]else if c.toNat=8 then[92,98]else if c.toNat=9 then[92,116]else if c.toNat=10 then[92,110]
 else if c.toNat=12 then[92,102]else if c.toNat=13 then[92,114]else if c.toNat<32 then[92,117,48,48,C3j (c.toNat/16),C3j (c.toNat % 16)]else[c]
def A3g (s:LU8):LU8:=34::(s.flatMap A4f++[34])
theorem E4q (c:UInt8):(A4f c).length<=6:=by
 unfold A4f
 repeat' split
 all_goals simp
theorem A8t (s:LU8):(s.flatMap A4f).length<=6*s.length:=by
 induction s with
 |nil=>simp
 |cons c s ih=>
  have:=E4q c;simp only[List.flatMap_cons,List.length_append,List.length_cons];omega
theorem D8h (l:LU8) (k:Nat) (a:k<l.length) (q:LU8) (b:A4f l[k]=q):ofL (34::(l.take k).flatMap A4f)++ofL q=ofL (34::(l.take (k+1)).flatMap A4f):=by
 rw[A0j,List.take_succ_eq_append_getElem a,List.flatMap_append,<-b];simp
theorem C9d (m:Nat) (h:m<16):(ByteArray.mk #[48,49,50,51,52,53,54,55,56,57,97,98,99,100,101,102]).extract m (m+1)=ofL [C3j m]:=by
 have:∀m:Fin 16,(ByteArray.mk #[48,49,50,51,52,53,54,55,56,57,97,98,99,100,101,102]).extract m.1 (m.1+1)=ofL [C3j m.1]:=by decide
 exact this ⟨m,h⟩
theorem C3k (l:LU8) (w:World) (hl:l.length<=100000000):
 Calls Tryz.prog 78 #[.string (ofL l)] w λe w'=>e=.returned (.string (ofL (A3g l)))/\Fr (λ_=>False) w w':=by
 have M:=A0c l;go_enter Tryz.func78,Tryz.ntmps78;go_wp2
 go_loopw [3,4] (λs t wr=>∃k:Nat,k<=l.length/\s=.string (ofL (34::(l.take k).flatMap A4f))/\t=.int .i64 (k:Int)/\Hid (Fr (λ_=>False) w wr)) (λ_ t _=>l.length-(intOf t).toNat)
 case atStart=>exact⟨0,by omega,rfl,rfl,hid (Fr.refl _ _)⟩
 case round=>
  obtain⟨k,hk,rfl,rfl,u⟩:=hrel
  have j:(ofL (34::(l.take k).flatMap A4f)).size<=600000001:=by
   have:=A8t (l.take k);rw[A0c,List.length_cons];rw[List.length_take]at this;omega
  by_cases B:k<l.length
  ·have hg:(ofL l)[k]'(by rw[M];exact B)=l[k]:=A1d l k _
   have a:=D8h l k B _ rfl
   have a1:(ofL l).extract k (k+1)=ofL [l[k]]:=by
    rw[A0r,List.drop_take,List.drop_eq_getElem_cons B];congr 1;rw[show k+1-k=1 by omega];rfl
   generalize l[k]=c at*;obtain⟨N,Y⟩:∃N,c.toNat=N:=⟨_,rfl⟩;have P:N<256:=by rw[<-Y];exact c.toNat_lt
   generalize ofL (34::(l.take k).flatMap A4f)=S at*;obtain⟨v,C⟩:∃v,ofL (34::(l.take (k+1)).flatMap A4f)=v:=⟨_,rfl⟩;rw[C]at a;have b:=hid C;have a2:(k:Int)<(l.length:Int):=by omega
   have a4:IntKind.i64.wrap ((k:Int)+1)=(k:Int)+1:=IntWalk.i64_in _ (by omega);have z1:((k:Int)+1).toNat=k+1:=by omega
   have z2:(k:Int)+1<=(l.length:Int):=by omega
   obtain⟨m,F⟩:∃m,S.size=m:=⟨_,rfl⟩;rw[F]at j;clear C;unfold A4f at a;rw[Y]at a;by_cases r:N=34\/N=92
   ·rw[if_pos r]at a
    have U:S++(⟨#[92]⟩:ByteArray)=S++ofL [92]:=rfl;obtain⟨x,f⟩:∃x,S++ofL [92]=x:=⟨_,rfl⟩;rw[f]at U;have d:x++ofL [c]=v:=by rw[<-f,<-a,ByteArray.append_assoc,A0j];rfl
    have G:x.size=m+1:=by rw[<-f,ByteArray.size_append,F];rfl
    have g:(⟨#[92]⟩:ByteArray).size=1:=rfl;have E:(ofL [c]).size=1:=A0c [c];clear a f;by_cases T:N=34
    ·have Z:((N:Int)==34)=true:=by simp[T]
     clear r T;go_wp2;go_roundw
     case rel=>exact⟨k+1,by omega,by rw[b.out],by go_num,u⟩
     case measure=>simp[intOf];omega
    ·have Z:((N:Int)==34)=false:=bqF (by omega)
     have e2:((N:Int)==92)=true:=by simp;omega
     clear r T;go_wp2;go_roundw
     case rel=>exact⟨k+1,by omega,by rw[b.out],by go_num,u⟩
     case measure=>simp[intOf];omega
   ·rw[if_neg r]at a
    have Z:((N:Int)==34)=false:=bqF (by omega);have e2:((N:Int)==92)=false:=bqF (by omega);clear r;by_cases D:N=8
    ·rw[if_pos D]at a
     have e8:((N:Int)==8)=true:=by simp[D]
     have d:S++(⟨#[92,98]⟩:ByteArray)=v:=a;have g:(⟨#[92,98]⟩:ByteArray).size=2:=rfl;clear a D;go_wp2;go_roundw
     case rel=>exact⟨k+1,by omega,by rw[b.out],by go_num,u⟩
     case measure=>simp[intOf];omega
    rw[if_neg D]at a;have e8:((N:Int)==8)=false:=bqF (by omega);clear D;by_cases I:N=9
    ·rw[if_pos I]at a
     have e9:((N:Int)==9)=true:=by simp[I]
     have d:S++(⟨#[92,116]⟩:ByteArray)=v:=a;have g:(⟨#[92,116]⟩:ByteArray).size=2:=rfl;clear a I;go_wp2;go_roundw
     case rel=>exact⟨k+1,by omega,by rw[b.out],by go_num,u⟩
     case measure=>simp[intOf];omega
    rw[if_neg I]at a;have e9:((N:Int)==9)=false:=bqF (by omega);clear I;by_cases i:N=10
    ·rw[if_pos i]at a
     have R:((N:Int)==10)=true:=by simp[i]
     have d:S++(⟨#[92,110]⟩:ByteArray)=v:=a;have g:(⟨#[92,110]⟩:ByteArray).size=2:=rfl;clear a i;go_wp2;go_roundw
     case rel=>exact⟨k+1,by omega,by rw[b.out],by go_num,u⟩
     case measure=>simp[intOf];omega
    rw[if_neg i]at a;have R:((N:Int)==10)=false:=bqF (by omega);clear i;by_cases o:N=12
    ·rw[if_pos o]at a
     have K:((N:Int)==12)=true:=by simp[o]
     have d:S++(⟨#[92,102]⟩:ByteArray)=v:=a;have g:(⟨#[92,102]⟩:ByteArray).size=2:=rfl;clear a o;go_wp2;go_roundw
     case rel=>exact⟨k+1,by omega,by rw[b.out],by go_num,u⟩
     case measure=>simp[intOf];omega
    rw[if_neg o]at a;have K:((N:Int)==12)=false:=bqF (by omega);clear o;by_cases h:N=13
    ·rw[if_pos h]at a
     have V:((N:Int)==13)=true:=by simp[h]
     have d:S++(⟨#[92,114]⟩:ByteArray)=v:=a;have g:(⟨#[92,114]⟩:ByteArray).size=2:=rfl;clear a h;go_wp2;go_roundw
     case rel=>exact⟨k+1,by omega,by rw[b.out],by go_num,u⟩
     case measure=>simp[intOf];omega
    rw[if_neg h]at a;have V:((N:Int)==13)=false:=bqF (by omega);clear h;by_cases y:N<32
    ·rw[if_pos y]at a
     have W:decide ((N:Int)<32)=true:=dcT (by omega);obtain⟨p,hp⟩:∃p,N/16=p:=⟨_,rfl⟩;obtain⟨q,X⟩:∃q,N % 16=q:=⟨_,rfl⟩;rw[hp,X]at a;have z:p<16:=by omega
     have A:q<16:=by omega
     have t1:Int.tdiv (N:Int) 16=(p:Int):=by rw[Int.tdiv_eq_ediv_of_nonneg (by omega)];omega
     have t2:(N:Int)/16=(p:Int):=by omega
     have t3:Int.tmod (N:Int) 16=(q:Int):=by rw[Int.tmod_eq_emod_of_nonneg (by omega)];omega
     have t4:(N:Int) % 16=(q:Int):=by omega
     have u1:IntKind.u8.wrap ((p:Int)+1)=(p:Int)+1:=by rw[IntKind.wrap_u8];omega
     have u2:IntKind.u8.wrap ((q:Int)+1)=(q:Int)+1:=by rw[IntKind.wrap_u8];omega
     have v1:((p:Int)+1).toNat=p+1:=by omega
     have v2:((q:Int)+1).toNat=q+1:=by omega
     have x1:=C9d p z;have x2:=C9d q A;have x3:(ByteArray.mk #[48,49,50,51,52,53,54,55,56,57,97,98,99,100,101,102]).size=16:=rfl;obtain⟨x,f⟩:∃x,S++(⟨#[92,117,48,48]⟩:ByteArray)=x:=⟨_,rfl⟩;obtain⟨J,H⟩:∃J,x++ofL [C3j p]=J:=⟨_,rfl⟩
     have d:J++ofL [C3j q]=v:=by
      rw[<-H,<-f,<-a,show(⟨#[92,117,48,48]⟩:ByteArray)=ofL [92,117,48,48]from rfl,ByteArray.append_assoc,ByteArray.append_assoc,A0j,A0j];rfl
     have G:x.size=m+4:=by rw[<-f,ByteArray.size_append,F];rfl
     have a5:J.size=m+5:=by rw[<-H,ByteArray.size_append,G,A0c];rfl
     have g:(⟨#[92,117,48,48]⟩:ByteArray).size=4:=rfl;have E:(ofL [C3j p]).size=1:=A0c _;have a0:(ofL [C3j q]).size=1:=A0c _;have w1:(p:Int)+1<=16:=by omega
     have w2:(q:Int)+1<=16:=by omega
     have L:=hid (λn=>u.drewN n);generalize ofL [C3j p]=X1 at*;generalize ofL [C3j q]=X2 at*;clear a y hp X z A;go_wp2;go_quiet (fail);go_wp2;go_roundw
     case rel=>exact⟨k+1,by omega,by rw[b.out],by go_num,hid (L.out _)⟩
     case measure=>simp[intOf];omega
    ·rw[if_neg y]at a
     have W:decide ((N:Int)<32)=false:=dcF (by omega);have d:S++ofL [c]=v:=a;have E:(ofL [c]).size=1:=A0c [c];clear a y;go_wp2;go_roundw
     case rel=>exact⟨k+1,by omega,by rw[b.out],by go_num,u⟩
     case measure=>simp[intOf];omega
  ·obtain rfl:k=l.length:=by omega
   have a3:¬((l.length:Int)<(l.length:Int)):=by omega
   rw[List.take_length]at j
   have hc:ofL (34::l.flatMap A4f)++(⟨#[34]⟩:ByteArray)=ofL (A3g l):=by
    rw[show(⟨#[34]⟩:ByteArray)=ofL [34]from rfl,A0j];rfl
   have g:(⟨#[34]⟩:ByteArray).size=1:=rfl;rw[List.take_length];generalize ofL (34::l.flatMap A4f)=S at*;obtain⟨Q,O⟩:∃Q,ofL (A3g l)=Q:=⟨_,rfl⟩;rw[O]at hc;have HQ:=hid O;clear O;obtain⟨m,F⟩:∃m,S.size=m:=⟨_,rfl⟩;rw[F]at j;go_wp2;go_ret;exact⟨by rw[HQ.out];rfl,u.out⟩
theorem A2d.trans {B:Nat} {w l o:World} {k m:Value} {j b:Int} {so:Bool} {e:Nat} {c a:Value} {bs:LU8} (n:Fr (λi=>i=B\/c.ownBlock=some i) w l) (f:∀g,a.ownBlock=some g->c.ownBlock=some g\/w.heap.size<=g) (h:A2d B l k m j b so e a bs o):A2d B w k m j b so e c bs o:=by
 obtain⟨d,p,r,q⟩:=h;have s:=n.size;refine⟨d,p,n.trans' r ?_,λg hg=>?_⟩
 ·rintro i (h|h)
  ·exact .inl (.inl h)
  ·rcases f i h with h|h
   ·exact .inl (.inr h)
   ·exact .inr h
 ·rcases q g hg with h|h
  ·exact f g h
  ·exact .inr (by omega)
theorem E4r (m:Nat) (h:m<16):(ByteArray.mk #[48,49,50,51,52,53,54,55,56,57,97,98,99,100,101,102])[m]'h=C3j m:=by
 have:∀m:Fin 16,(ByteArray.mk #[48,49,50,51,52,53,54,55,56,57,97,98,99,100,101,102])[m.1]'m.2=C3j m.1:=by decide
 exact this ⟨m,h⟩
theorem G4h (n:Nat) (h:n<32):bits BinOp.and IntKind.i32 (n:Int) 15=((n % 16:Nat):Int):=by
 have:∀n:Fin 32,bits BinOp.and IntKind.i32 (n.1:Int) 15=((n.1 % 16:Nat):Int):=by decide
 exact this ⟨n,h⟩
theorem C6b (B:Nat) (w:World) (r x:Value) (l a:Int) (so:Bool) (i:Nat) (M f:Value) (bs:LU8) (N:Nat) (h:WAt B w r x l a so i M f bs) (O:bs.length<=99999999000) (T:N<32):
 Calls Tryz.prog 127 #[.pointer (some ⟨B,0,none⟩),.int .i32 (N:Int)] w λe w'=>e=.returned (.tuple #[])/\A2d B w r x l a so i f (bs++[92,117,48,48,C3j (N/16),C3j (N % 16)]) w':=by
 have Z:=hid (A1k B w r x l a so i M f bs [92,117,48,48] h (by simp;omega));obtain⟨p,J⟩:∃p,N/16=p:=⟨_,rfl⟩;obtain⟨q,D⟩:∃q,N % 16=q:=⟨_,rfl⟩;have t:p<16:=by omega
 have o:q<16:=by omega
 have t1:(N:Int)/16=(p:Int):=by omega
 have t2:bits BinOp.and IntKind.i32 (N:Int) 15=(q:Int):=by rw[G4h N T,D]
 have U:=E4r p t;have R:=E4r q o;have x3:(ByteArray.mk #[48,49,50,51,52,53,54,55,56,57,97,98,99,100,101,102]).size=16:=rfl;have E:(p:Int)<16:=by omega
 have G:(q:Int)<16:=by omega
 rw[J,D];have L:=hid (λ(w:World) (f:Value) (bs:LU8) (c:UInt8) (h:WAt B w r x l a so i (.pointer (some ⟨B,6,none⟩)) f bs) (O:bs.length<=100000000000)=>A1r B w r x l a so i _ f bs c h O);obtain⟨V,y⟩:∃P,C3j p=P:=⟨_,rfl⟩;obtain⟨W,v⟩:∃P,C3j q=P:=⟨_,rfl⟩;rw[y]at U ⊢;rw[v]at R ⊢;clear h J D y v;go_enter Tryz.func127,Tryz.ntmps127
 go_wp2_with fail
 refine Calls.mono Z.out ?_;rintro e X ⟨rfl,F,d,z,j⟩;have A:=hid (And.intro z j);have m:=hid (λk=>L.out (X.drewN k) F _ V ⟨d.blk,d.adr,d.row⟩ (by simp;omega));clear d z j
 go_wp2_with fail
 go_region_with (go_at_call 44;refine Calls.mono (m.out _) ?_;rintro e Y ⟨rfl,g⟩;have I:=hid g;clear g)
 all_goals
  have K:=hid (A2d.trans (A.1.drewN _) A.2 I.out);clear I A m;obtain⟨H,b,s,u⟩:=K.out;have C:=hid (And.intro s u);have n:=hid (λk=>L.out (Y.drewN k) H _ W ⟨b.blk,b.adr,b.row⟩ (by simp;omega));clear b s u K
  go_wp2_with fail
  go_region_with (go_at_call 44;refine Calls.mono (n.out _) ?_;rintro e w3 ⟨rfl,g⟩;have Q:=hid g;clear g)
  all_goals
   have S:=hid (A2d.trans (C.1.drewN _) C.2 Q.out);clear Q C n;go_wp2;go_end0;refine⟨rfl,?_⟩;have:=S.out;simpa using this
def C3m (r:Nat):LU8:=
 if r=34\/r=92 then 92::A3z r else if r=8 then[92,98]else if r=9 then[92,116]else if r=10 then[92,110]
 else if r=12 then[92,102]else if r=13 then[92,114]else if r<32 then[92,117,48,48,C3j (r/16),C3j (r % 16)]else A3z r
theorem B5a (B:Nat) (w:World) (j k:Value) (i a:Int) (so:Bool) (g:Nat) (v d:Value) (bs:LU8) (r:Nat) (h:WAt B w j k i a so g v d bs) (R:bs.length<=99999990000) (hr:r<55296\/(57344<=r/\r<=1114111)):
 Calls Tryz.prog 72 #[.pointer (some ⟨B,0,none⟩),.int .i32 (r:Int)] w λe w'=>e=.returned (.tuple #[])/\A2d B w j k i a so g d (bs++C3m r) w':=by
 unfold C3m;by_cases q:r=34\/r=92
 ·rw[if_pos q]
  by_cases K:r=34
  ·have L:((r:Int)==34)=true:=by simp[K]
   clear K;have c:=hid (show Calls Tryz.prog 44 #[.pointer (some ⟨B,6,none⟩),.int .u8 92] w _ from A1r B w j k i a so g v d bs 92 h (by omega));have F:=hid (λ(w:World) (d:Value) (h:WAt B w j k i a so g (.pointer (some ⟨B,6,none⟩)) d (bs++[92]))=>B0v B w j k i a so g _ d (bs++[92]) r h (by simp;omega) hr);obtain⟨E,x⟩:∃E,A3z r=E:=⟨_,rfl⟩;rw[x]at F ⊢;clear h hr x q;go_enter Tryz.func72,Tryz.ntmps72
   go_wp2_with fail
   refine Calls.mono c.out ?_;rintro e u ⟨rfl,y,s,t,n⟩;have A:=hid (And.intro t n);have z:=hid (F.out u y s);clear s t n
   go_wp2_with fail
   refine Calls.mono z.out ?_;rintro e Q ⟨⟨M,rfl⟩,b⟩;have f:=hid (A2d.trans A.1 A.2 b);clear b;go_wp2;go_end0;exact⟨rfl,by simpa using f.out⟩
  ·have L:((r:Int)==34)=false:=bqF (by omega)
   have N:((r:Int)==92)=true:=by simp;omega
   clear K;have c:=hid (show Calls Tryz.prog 44 #[.pointer (some ⟨B,6,none⟩),.int .u8 92] w _ from A1r B w j k i a so g v d bs 92 h (by omega));have F:=hid (λ(w:World) (d:Value) (h:WAt B w j k i a so g (.pointer (some ⟨B,6,none⟩)) d (bs++[92]))=>B0v B w j k i a so g _ d (bs++[92]) r h (by simp;omega) hr);obtain⟨E,x⟩:∃E,A3z r=E:=⟨_,rfl⟩;rw[x]at F ⊢;clear h hr x q;go_enter Tryz.func72,Tryz.ntmps72
   go_wp2_with fail
   refine Calls.mono c.out ?_;rintro e u ⟨rfl,y,s,t,n⟩;have A:=hid (And.intro t n);have z:=hid (F.out u y s);clear s t n
   go_wp2_with fail
   refine Calls.mono z.out ?_;rintro e Q ⟨⟨M,rfl⟩,b⟩;have f:=hid (A2d.trans A.1 A.2 b);clear b;go_wp2;go_end0;exact⟨rfl,by simpa using f.out⟩
 ·rw[if_neg q]
  have L:((r:Int)==34)=false:=bqF (by omega);have N:((r:Int)==92)=false:=bqF (by omega);clear q;by_cases C:r=8
  ·rw[if_pos C]
   have P:((r:Int)==8)=true:=by simp[C]
   have c:=hid (A1k B w j k i a so g v d bs [92,98] h (by simp;omega));clear h hr C;go_enter Tryz.func72,Tryz.ntmps72
   go_wp2_with fail
   refine Calls.mono c.out ?_;rintro e u ⟨rfl,b⟩;have f:=hid b;clear b;go_wp2;go_end0;exact⟨rfl,f.out⟩
  rw[if_neg C];have P:((r:Int)==8)=false:=bqF (by omega);clear C;by_cases D:r=9
  ·rw[if_pos D]
   have O:((r:Int)==9)=true:=by simp[D]
   have c:=hid (A1k B w j k i a so g v d bs [92,116] h (by simp;omega));clear h hr D;go_enter Tryz.func72,Tryz.ntmps72
   go_wp2_with fail
   refine Calls.mono c.out ?_;rintro e u ⟨rfl,b⟩;have f:=hid b;clear b;go_wp2;go_end0;exact⟨rfl,f.out⟩
  rw[if_neg D];have O:((r:Int)==9)=false:=bqF (by omega);clear D;by_cases l:r=10
  ·rw[if_pos l]
   have H:((r:Int)==10)=true:=by simp[l]
   have c:=hid (A1k B w j k i a so g v d bs [92,110] h (by simp;omega));clear h hr l;go_enter Tryz.func72,Tryz.ntmps72
   go_wp2_with fail
   refine Calls.mono c.out ?_;rintro e u ⟨rfl,b⟩;have f:=hid b;clear b;go_wp2;go_end0;exact⟨rfl,f.out⟩
  rw[if_neg l];have H:((r:Int)==10)=false:=bqF (by omega);clear l;by_cases p:r=12
  ·rw[if_pos p]
   have G:((r:Int)==12)=true:=by simp[p]
   have c:=hid (A1k B w j k i a so g v d bs [92,102] h (by simp;omega));clear h hr p;go_enter Tryz.func72,Tryz.ntmps72
   go_wp2_with fail
   refine Calls.mono c.out ?_;rintro e u ⟨rfl,b⟩;have f:=hid b;clear b;go_wp2;go_end0;exact⟨rfl,f.out⟩
  rw[if_neg p];have G:((r:Int)==12)=false:=bqF (by omega);clear p;by_cases m:r=13
  ·rw[if_pos m]
   have I:((r:Int)==13)=true:=by simp[m]
   have c:=hid (A1k B w j k i a so g v d bs [92,114] h (by simp;omega));clear h hr m;go_enter Tryz.func72,Tryz.ntmps72
   go_wp2_with fail
   refine Calls.mono c.out ?_;rintro e u ⟨rfl,b⟩;have f:=hid b;clear b;go_wp2;go_end0;exact⟨rfl,f.out⟩
  rw[if_neg m];have I:((r:Int)==13)=false:=bqF (by omega);clear m;by_cases o:r<32
  ·rw[if_pos o]
   have J:decide ((r:Int)<32)=true:=dcT (by omega);have c:=hid (C6b B w j k i a so g v d bs r h (by omega) o);generalize [92,117,48,48,C3j (r/16),C3j (r % 16)]=L6 at*;clear h hr o;go_enter Tryz.func72,Tryz.ntmps72
   go_wp2_with fail
   refine Calls.mono c.out ?_;rintro e u ⟨rfl,b⟩;have f:=hid b;clear b;go_wp2;go_end0;exact⟨rfl,f.out⟩
  ·rw[if_neg o]
   have J:decide ((r:Int)<32)=false:=dcF (by omega);have c:=hid (B0v B w j k i a so g v d bs r h (by omega) hr);obtain⟨E,x⟩:∃E,A3z r=E:=⟨_,rfl⟩;rw[x]at c ⊢;clear h hr o x;go_enter Tryz.func72,Tryz.ntmps72
   go_wp2_with fail
   refine Calls.mono c.out ?_;rintro e u ⟨⟨M,rfl⟩,b⟩;have f:=hid b;clear b;go_wp2;go_end0;exact⟨rfl,f.out⟩
end Go.Proofs.YtmkkibaacclhnaaGreatDoor
