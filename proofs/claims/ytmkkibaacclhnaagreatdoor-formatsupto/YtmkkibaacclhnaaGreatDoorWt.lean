/-
  Part Wt.
-/
import Derived.Test.YtmkkibaacclhnaaGreatDoorWm
import Derived.Test.YtmkkibaacclhnaaGreatDoorWs
namespace Go.Proofs.YtmkkibaacclhnaaGreatDoor
open Go.RowKit
set_option maxRecDepth 100000
set_option maxHeartbeats 16000000
theorem C9a {sz:List Im->Nat} (h:∀l,sz l<=l.length) (b:Bool) (c:Nat) (l:List Im) (m:Nat) (a:A0m sz b c l=some m):m<=l.length:=by
 induction c generalizing l m with
 |zero=>simp[A0m]at a;omega
 |succ c ih=>
  cases b with
  |true=>
   cases l with
   |nil=>simp[A0m]at a
   |cons k r=>
    simp only[A0m,if_true]at a;split at a
    ·split at a
     ·cases a
     ·obtain⟨g,d,rfl⟩:=Option.map_eq_some_iff.1 a
      have e:=ih _ _ d;have f:=h r;rw[List.length_drop]at e;simp only[List.length_cons];omega
    ·cases a
  |false=>
   simp only[A0m,Bool.false_eq_true,if_false]at a;split at a
   ·cases a
   ·obtain⟨g,d,rfl⟩:=Option.map_eq_some_iff.1 a
    have e:=ih _ _ d;have f:=h l;rw[List.length_drop]at e;omega
theorem A5w (d:Nat) (l:List Im):A0i d l<=l.length:=by
 induction d generalizing l with
 |zero=>
  cases l with
  |nil=>simp[A0i]
  |cons x r=>simp only[A0i,List.length_cons];split<;>omega
 |succ d ih=>
  cases l with
  |nil=>simp[A0i]
  |cons x r=>
   simp only[A0i,List.length_cons];split
   ·split
    ·omega
    ·cases a:A0m (A0i d) (decide (x.k=6)) x.n.toNat r with
     |none=>simp[D2i]
     |some m=>
      have:=C9a ih _ _ _ _ a;simp only[D2i];omega
   ·omega
def C5z:Option Nat->Nat->Nat
 |none,_=>0
 |some m,a=>a+m
theorem C9b (o:Option Nat):C5z o 1=D2i o:=by cases o<;>simp[C5z,D2i];omega
theorem C9c (o:Option Nat) (k a:Nat):C5z (o.map (λm=>k+m)) a=C5z o (a+k):=by cases o<;>simp[C5z];omega
theorem F1g (d:Nat) (IH:E4n d) (w:World) (A:Addr) (cap inn:Nat) (n:Int) (b:Nat) (s:LU8) (r:List Im) (b3:d+1+inn=1000) (h:LR w (some A) (⟨5,n,b,s⟩::r)) (P:r.length+1<=cap) (hc:cap<=9223372036854775807) (hs:∀y,y∈(⟨5,n,b,s⟩:Im)::r->y.s.length<=100000000) (hg:A0z ⟨5,n,b,s⟩=true):
 Calls Tryz.prog 46 #[.slice (some A) (r.length+1) cap,.int .i64 (inn:Int)] w λe w'=>e=.returned (.int .i64 ((D2i (A0m (A0i d) false n.toNat r):Nat):Int))/\Fr (λ_=>False) w w':=by
 have a7:0<=n:=(A5i hg (by simp)).2;obtain⟨N,rfl⟩:∃N:Nat,n=(N:Int):=⟨n.toNat,by omega⟩;have b0:(0:Int)<=(N:Int):=by omega
 rw[Int.toNat_natCast];obtain⟨l,R⟩:∃l,(⟨5,(N:Int),b,s⟩:Im)::r=l:=⟨_,rfl⟩;have a1:=hid (show LR w (some A) l from by rw[<-R];exact h);have HC:=hid (λ(g:World) (D:Fr (λ_=>False) w g)=>(h.fr D).at0);obtain⟨T,V,W,X⟩:=h.at0;have HF:=hid (Fr.refl (λ_=>False) w);have HG:=hid (λw=>B2m ⟨5,(N:Int),b,s⟩ w (hs _ (by simp)));rw[hg]at HG
 try simp only at T V W X
 have G:l.length=r.length+1:=by rw[<-R];rfl
 obtain⟨L,hL⟩:∃L,r.length+1=L:=⟨_,rfl⟩;rw[hL]at G P;have E:=hid G;have H1:=hid (show C5z (A0m (A0i d) false (N-0) (l.drop 1)) 1=D2i (A0m (A0i d) false N r)from by rw[C9b,<-R];rfl);generalize D2i (A0m (A0i d) false N r)=U at*;have b6:1<=L:=by omega
 rw[hL];have c8:((L:Int)==0)=false:=bqF (by omega);have c5:decide ((1000:Int)<=(inn:Int))=false:=dcF (by omega);have c9:IntKind.i64.wrap ((inn:Int)+1)=(inn:Int)+1:=IntWalk.i64_in _ (by omega);have b5:(0:Int)<(L:Int):=by omega
 have a3:=hid (show∀y,y∈l->y.s.length<=100000000 from by rw[<-R];exact hs);have a0:=hid (show d+(inn+1)=1000 from by omega);have J:=hid (λ(g:World) (a:Nat) (D:Fr (λ_=>False) w g) (ha:a<cap)=>IH g (some (A.add (a*4))) (cap-a) (inn+1) (l.drop a) a0.out ((a1.fr D).drop a) (by have:=E.out;rw[List.length_drop];omega) (by omega) (λy hy=>a3.out y (List.mem_of_mem_drop hy)));have K:=hid (λ(g:World)=>B8a g (some A) 0 (inn+1));clear h hs hg R G hL a7;go_enter Tryz.func46,Tryz.ntmps46
 go_wp2_with fail
 refine Calls.mono (HG.out _) ?_;rintro e w2 ⟨rfl,F⟩;have Y:=hid F;obtain⟨d0,d1,d2,d3⟩:=HC.out w2 F;clear F T V W X;go_wp2
 go_loopw [6,7] (λs t wr=>∃a i:Nat,i+1<=a/\a<=L/\i<=N/\s=.int .i64 (a:Int)/\t=.int .i64 (i:Int)/\Hid (C5z (A0m (A0i d) false (N-i) (l.drop a)) a=U)/\Hid (Fr (λ_=>False) w wr)) (λ_ t _=>N-(intOf t).toNat)
 case atStart=>exact⟨1,0,by omega,by omega,by omega,by go_num,by go_num,H1,Y⟩
 case round=>
  clear d0 d1 d2 d3 H1;obtain⟨a,i,c4,b7,b9,rfl,rfl,hG,B⟩:=hrel;obtain⟨T,V,W,X⟩:=HC.out wr B.out
  try simp only at T V W X
  by_cases c6:i<N
  ·have b4:(i:Int)<(N:Int):=by omega
   obtain⟨c,v⟩:∃c,N-i=c+1:=⟨N-i-1,by omega⟩;have f:=hG.out;rw[v]at f;have d4:IntKind.i64.wrap ((i:Int)+1)=(i:Int)+1:=IntWalk.i64_in _ (by omega);have x:c=N-(i+1):=by omega
   simp only[A0m,Bool.false_eq_true,if_false]at f;obtain⟨k,z⟩:∃k,A0i d (l.drop a)=k:=⟨_,rfl⟩;have a6:k<=L-a:=by have h1:=A5w d (l.drop a);have h2:=E.out;rw[z,List.length_drop]at h1;omega
   rw[z]at f
   have u:∀g,Fr (λ_=>False) w g->Calls Tryz.prog 46 #[(if a<cap then .slice (some (A.add (a*4))) (L-a) (cap-a)else .slice (some A) (L-a) 0),.int .i64 ((inn+1:Nat):Int)] g λe w'=>e=.returned (.int .i64 ((k:Nat):Int))/\Fr (λ_=>False) g w':=by
    intro g D;by_cases q:a<cap
    ·rw[if_pos q]
     have:=J.out g a D q;rw[List.length_drop,E.out,z]at this;exact this
    ·rw[if_neg q]
     have e0:L-a=0:=by omega
     have e1:k=0:=by omega
     rw[e0,e1];exact K.out g
   have I:=hid u;clear u z;have a8:IntKind.i64.wrap ((a:Int)+(k:Int))=(a:Int)+(k:Int):=IntWalk.i64_in _ (by omega);have b8:(inn:Int)+1=((inn+1:Nat):Int):=by omega
   by_cases q:a<cap
   ·have S:=hid (λg D=>(show Calls Tryz.prog 46 #[.slice (some (A.add (a*4))) (L-a) (cap-a),.int .i64 ((inn+1:Nat):Int)] g _ from by have:=I.out g D;rw[if_pos q]at this;exact this))
    generalize inn+1=inn1 at*;by_cases p:k=0
    ·subst p
     rw[if_pos rfl]at f;have C:U=0:=by rw[<-f];rfl
     have o:=hid C;clear f C v x
     go_wp2_with fail
     refine Calls.mono (S.out _ B.out) ?_;rintro e w4 ⟨rfl,j⟩;have m:=hid (B.trans j);clear j;go_wp2;go_ret;exact⟨by rw[o.out];rfl,m.out⟩
    ·rw[if_neg p,List.drop_drop,C9c,x]at f
     obtain⟨H,M⟩:∃H,a+k=H:=⟨_,rfl⟩;have b2:(a:Int)+(k:Int)=(H:Int):=by omega
     rw[M]at f;have Z:=hid f;have a9:((k:Int)==0)=false:=bqF (by omega);have O:H<=L:=by omega
     have b1:i+2<=H:=by omega
     clear f v M a8 x a6 p
     go_wp2_with fail
     refine Calls.mono (S.out _ B.out) ?_;rintro e w4 ⟨rfl,j⟩;have m:=hid (B.trans j);clear j;go_wp2;go_roundw
     case rel=>exact⟨H,i+1,by omega,O,by omega,rfl,by go_num,Z,m⟩
     case measure=>simp[intOf];omega
   ·have S:=hid (λ(g:World) (D:Fr (λ_=>False) w g)=>K.out g)
    have p:k=0:=by omega
    subst p;have a4:L=a:=by omega
    have a5:cap=a:=by omega
    subst a4;subst a5;clear I J;generalize inn+1=inn1 at*;rw[if_pos rfl]at f;have C:U=0:=by rw[<-f];rfl
    have o:=hid C;clear f C v x
    go_wp2_with fail
    refine Calls.mono (S.out _ B.out) ?_;rintro e w4 ⟨rfl,j⟩;have m:=hid (B.trans j);clear j;go_wp2;go_ret;exact⟨by rw[o.out];rfl,m.out⟩
  ·have Q:i=N:=by omega
   subst Q;have c7:¬((i:Int)<(i:Int)):=by omega
   have C:a=U:=by have:=hG.out;rw[Nat.sub_self]at this;exact this
   have o:=hid C;clear C hG;go_wp2;go_ret;exact⟨by have hu:=o.out;subst hu;rfl,B.out⟩
theorem F1h (d:Nat) (IH:E4n d) (w:World) (K:Addr) (cap inn:Nat) (n:Int) (b:Nat) (s:LU8) (r:List Im) (d8:d+1+inn=1000) (h:LR w (some K) (⟨6,n,b,s⟩::r)) (a9:r.length+1<=cap) (hc:cap<=9223372036854775807) (hs:∀y,y∈(⟨6,n,b,s⟩:Im)::r->y.s.length<=100000000) (hg:A0z ⟨6,n,b,s⟩=true):
 Calls Tryz.prog 46 #[.slice (some K) (r.length+1) cap,.int .i64 (inn:Int)] w λe w'=>e=.returned (.int .i64 ((D2i (A0m (A0i d) true n.toNat r):Nat):Int))/\Fr (λ_=>False) w w':=by
 have c4:0<=n:=(A5i hg (by simp)).2;obtain⟨N,rfl⟩:∃N:Nat,n=(N:Int):=⟨n.toNat,by omega⟩;have c7:(0:Int)<=(N:Int):=by omega
 rw[Int.toNat_natCast];obtain⟨l,hl⟩:∃l,(⟨6,(N:Int),b,s⟩:Im)::r=l:=⟨_,rfl⟩;have a5:=hid (show LR w (some K) l from by rw[<-hl];exact h);have Z:=hid (λ(o:World) (G:Fr (λ_=>False) w o)=>(h.fr G).at0);obtain⟨M,O,P,Q⟩:=h.at0;have HF:=hid (Fr.refl (λ_=>False) w);have HG:=hid (λw=>B2m ⟨6,(N:Int),b,s⟩ w (hs _ (by simp)));rw[hg]at HG
 try simp only at M O P Q
 have T:l.length=r.length+1:=by rw[<-hl];rfl
 obtain⟨L,hL⟩:∃L,r.length+1=L:=⟨_,rfl⟩;rw[hL]at T a9;have C:=hid T;have H1:=hid (show C5z (A0m (A0i d) true (N-0) (l.drop 1)) 1=D2i (A0m (A0i d) true N r)from by rw[C9b,<-hl];rfl);generalize D2i (A0m (A0i d) true N r)=U at*;have e5:1<=L:=by omega
 rw[hL];have f3:((L:Int)==0)=false:=bqF (by omega);have f0:decide ((1000:Int)<=(inn:Int))=false:=dcF (by omega);have f4:IntKind.i64.wrap ((inn:Int)+1)=(inn:Int)+1:=IntWalk.i64_in _ (by omega);have e4:(0:Int)<(L:Int):=by omega
 have a6:=hid (show∀y,y∈l->y.s.length<=100000000 from by rw[<-hl];exact hs);have b5:=hid (show d+(inn+1)=1000 from by omega);have a3:=hid (λ(o:World) (a:Nat) (G:Fr (λ_=>False) w o) (ha:a<cap)=>IH o (some (K.add (a*4))) (cap-a) (inn+1) (l.drop a) b5.out ((a5.fr G).drop a) (by have:=C.out;rw[List.length_drop];omega) (by omega) (λy W=>a6.out y (List.mem_of_mem_drop W)));have a4:=hid (λ(o:World)=>B8a o (some K) 0 (inn+1));clear h hs hg hl T hL c4;go_enter Tryz.func46,Tryz.ntmps46
 go_wp2_with fail
 refine Calls.mono (HG.out _) ?_;rintro e w2 ⟨rfl,S⟩;have b3:=hid S;obtain⟨d0,d1,d2,d3⟩:=Z.out w2 S;clear S M O P Q;go_wp2
 go_loopw [6,7] (λs t wr=>∃a i:Nat,i+1<=a/\a<=L/\i<=N/\s=.int .i64 (a:Int)/\t=.int .i64 (i:Int)/\Hid (C5z (A0m (A0i d) true (N-i) (l.drop a)) a=U)/\Hid (Fr (λ_=>False) w wr)) (λ_ t _=>N-(intOf t).toNat)
 case atStart=>exact⟨1,0,by omega,by omega,by omega,by go_num,by go_num,H1,b3⟩
 case round=>
  clear d0 d1 d2 d3 H1;obtain⟨a,i,e9,e6,e8,rfl,rfl,hG,A⟩:=hrel;obtain⟨M,O,P,Q⟩:=Z.out wr A.out
  try simp only at M O P Q
  by_cases f1:i<N
  ·have d9:(i:Int)<(N:Int):=by omega
   obtain⟨c,v⟩:∃c,N-i=c+1:=⟨N-i-1,by omega⟩;have f:=hG.out;rw[v]at f;have f5:IntKind.i64.wrap ((i:Int)+1)=(i:Int)+1:=IntWalk.i64_in _ (by omega);have x:c=N-(i+1):=by omega
   by_cases d6:a<L
   ·obtain⟨y,W⟩:∃y,l[a]? =some y:=⟨l[a]'(by have:=C.out;omega),List.getElem?_eq_getElem _⟩
    have b0:l.drop a=y::l.drop (a+1):=by
     obtain⟨h1,h2⟩:=List.getElem?_eq_some_iff.1 W;rw[<-h2];exact List.drop_eq_getElem_cons h1
    rw[b0]at f;simp only[A0m,if_true]at f;have HY:=hid (λ(o:World) (G:Fr (λ_=>False) w o)=>(a5.fr G).at_ W);have u:=hid (λw=>B2m y w (a6.out y (List.mem_of_getElem? W)));obtain⟨q0,q1,q2,q3⟩:=HY.out wr A.out;obtain⟨yk,yn,yb,ys⟩:=y;simp only at q0 q1 q2 q3 f u;have b7:decide ((L:Int)<=(a:Int))=false:=dcF (by omega);have d7:(a:Int)<(L:Int):=by omega
    clear b0 W;by_cases J:yk=4
    ·subst J
     cases H:A0z ⟨4,yn,yb,ys⟩with
     |false=>
      rw[H]at u f;rw[if_neg (by simp)]at f;have p:U=0:=by rw[<-f];rfl
      have k:=hid p;clear f p H v x
      go_wp2_with fail
      refine Calls.mono (u.out _) ?_;rintro e X ⟨rfl,g⟩;have m:=hid (A.trans g);clear g;go_wp2;go_ret;exact⟨by rw[k.out];rfl,m.out⟩
     |true=>
      rw[H]at u f;rw[if_pos ⟨rfl,rfl⟩]at f;obtain⟨j,R⟩:∃j,a+1=j:=⟨_,rfl⟩;rw[R]at f;have c9:(a:Int)+1=(j:Int):=by omega
      have c8:j<=L:=by omega
      obtain⟨z,I⟩:∃z,A0i d (l.drop j)=z:=⟨_,rfl⟩;have b9:z<=L-j:=by have h1:=A5w d (l.drop j);have h2:=C.out;rw[I,List.length_drop]at h1;omega
      rw[I]at f
      have F:∀o,Fr (λ_=>False) w o->Calls Tryz.prog 46 #[(if j<cap then .slice (some (K.add (j*4))) (L-j) (cap-j)else .slice (some K) (L-j) 0),.int .i64 ((inn+1:Nat):Int)] o λe w'=>e=.returned (.int .i64 ((z:Nat):Int))/\Fr (λ_=>False) o w':=by
       intro o G;by_cases E:j<cap
       ·rw[if_pos E]
        have:=a3.out o j G E;rw[List.length_drop,C.out,I]at this;exact this
       ·rw[if_neg E]
        have e0:L-j=0:=by omega
        have e1:z=0:=by omega
        rw[e0,e1];exact a4.out o
      have a0:=hid F;have Y:=hid R;clear F I R H;have c5:IntKind.i64.wrap ((j:Int)+(z:Int))=(j:Int)+(z:Int):=IntWalk.i64_in _ (by omega);have e7:(inn:Int)+1=((inn+1:Nat):Int):=by omega
      by_cases E:j<cap
      ·have H5:=hid (λo G=>(show Calls Tryz.prog 46 #[.slice (some (K.add (j*4))) (L-j) (cap-j),.int .i64 ((inn+1:Nat):Int)] o _ from by have:=a0.out o G;rw[if_pos E]at this;exact this))
       generalize inn+1=inn1 at*;by_cases D:z=0
       ·subst D
        rw[if_pos rfl]at f;have p:U=0:=by rw[<-f];rfl
        have k:=hid p;clear f p v x
        go_wp2_with fail
        refine Calls.mono (u.out _) ?_;rintro e X ⟨rfl,g⟩;have m:=hid (A.trans g);obtain⟨p0,p1,p2,p3⟩:=Z.out X (A.trans g);clear g M O P Q q0 q1 q2 q3
        go_wp2_with fail
        refine Calls.mono (H5.out _ m.out) ?_;rintro e w4 ⟨rfl,q⟩;have B:=hid (m.trans q);clear q;go_wp2;go_ret;exact⟨by rw[k.out];rfl,B.out⟩
       ·rw[if_neg D,List.drop_drop,C9c,x]at f
        rw[show a+(1+z)=j+z by have:=Y.out;omega]at f;obtain⟨V,a7⟩:∃V,j+z=V:=⟨_,rfl⟩;have d5:(j:Int)+(z:Int)=(V:Int):=by omega
        rw[a7]at f;have b4:=hid f;have c6:((z:Int)==0)=false:=bqF (by omega);have a8:V<=L:=by omega
        have d4:i+2<=V:=by have:=Y.out;omega
        clear f v a7 c5 x b9 D
        go_wp2_with fail
        refine Calls.mono (u.out _) ?_;rintro e X ⟨rfl,g⟩;have m:=hid (A.trans g);obtain⟨p0,p1,p2,p3⟩:=Z.out X (A.trans g);clear g M O P Q q0 q1 q2 q3
        go_wp2_with fail
        refine Calls.mono (H5.out _ m.out) ?_;rintro e w4 ⟨rfl,q⟩;have B:=hid (m.trans q);clear q;go_wp2;go_roundw
        case rel=>exact⟨V,i+1,by omega,a8,by omega,rfl,by go_num,b4,B⟩
        case measure=>simp[intOf];omega
      ·have H5:=hid (λ(o:World) (G:Fr (λ_=>False) w o)=>a4.out o)
       have D:z=0:=by omega
       subst D;have b6:L=j:=by omega
       have b8:cap=j:=by omega
       subst b6;subst b8;clear a0 a3;generalize inn+1=inn1 at*;rw[if_pos rfl]at f;have p:U=0:=by rw[<-f];rfl
       have k:=hid p;clear f p v x
       go_wp2_with fail
       refine Calls.mono (u.out _) ?_;rintro e X ⟨rfl,g⟩;have m:=hid (A.trans g);obtain⟨p0,p1,p2,p3⟩:=Z.out X (A.trans g);clear g M O P Q q0 q1 q2 q3
       go_wp2_with fail
       refine Calls.mono (H5.out _ m.out) ?_;rintro e w4 ⟨rfl,q⟩;have B:=hid (m.trans q);clear q;go_wp2;go_ret;exact⟨by rw[k.out];rfl,B.out⟩
    ·rw[if_neg (λh=>J h.1)]at f
     have p:U=0:=by rw[<-f];rfl
     have k:=hid p;have e2:(yk !=4)=true:=by simpa using J
     have e3:(yk==4)=false:=bqF J;clear f p v x;go_wp2;go_ret;exact⟨by rw[k.out];rfl,A.out⟩
   ·have b2:l.drop a=[]:=List.drop_eq_nil_of_le (by have:=C.out;omega)
    rw[b2]at f;simp only[A0m,if_true]at f;have p:U=0:=by rw[<-f];rfl
    have k:=hid p;have b7:decide ((L:Int)<=(a:Int))=true:=dcT (by omega);clear f p v b2 x;go_wp2;go_ret;exact⟨by rw[k.out];rfl,A.out⟩
  ·have b1:i=N:=by omega
   subst b1;have f2:¬((i:Int)<(i:Int)):=by omega
   have p:a=U:=by have:=hG.out;rw[Nat.sub_self]at this;exact this
   have k:=hid p;clear p hG;go_wp2;go_ret;exact⟨by have hu:=k.out;subst hu;rfl,A.out⟩
theorem C6a (d:Nat):E4n d:=by
 induction d with
 |zero=>
  intro w p cap inn l o h a i m;cases l with
  |nil=>exact B8a w p cap inn
  |cons x r=>
   obtain⟨g,rfl,_⟩:=h (by simp);have e:=m x (by simp);by_cases f:x.k<5
   ·by_cases c:A0z x=true
    ·rw[show A0i 0 (x::r)=1 from by simp only[A0i];rw[if_pos ⟨c,f⟩]]
     exact C8z w g cap inn x r (by omega) h a i e f c
    ·rw[show A0i 0 (x::r)=0 from by simp only[A0i];rw[if_neg (λh=>c h.1)]]
     exact D5d w g cap inn x r (by omega) h a i e (.inr f) (by simpa using c)
   ·rw[show A0i 0 (x::r)=0 from by simp only[A0i];rw[if_neg (λh=>f h.2)]]
    exact E4p w g cap inn x r (by omega) h a i e (by omega) (by omega)
 |succ d ih=>
  intro w p cap inn l o h a i m;cases l with
  |nil=>exact B8a w p cap inn
  |cons x r=>
   obtain⟨g,rfl,_⟩:=h (by simp);have e:=m x (by simp);by_cases c:A0z x=true
   ·by_cases f:x.k<5
    ·rw[show A0i (d+1) (x::r)=1 from by simp only[A0i];rw[if_pos c,if_pos f]]
     exact C8z w g cap inn x r (by omega) h a i e f c
    ·obtain⟨k,n,b,s⟩:=x
     obtain⟨j,_⟩:=A5i c f;simp only at j f;rcases j with rfl|rfl
     ·rw[show A0i (d+1) (⟨5,n,b,s⟩::r)=D2i (A0m (A0i d) false n.toNat r)from by simp only[A0i];rw[if_pos c,if_neg f];rfl]
      exact F1g d ih w g cap inn n b s r o h a i m c
     ·rw[show A0i (d+1) (⟨6,n,b,s⟩::r)=D2i (A0m (A0i d) true n.toNat r)from by simp only[A0i];rw[if_pos c,if_neg f];rfl]
      exact F1h d ih w g cap inn n b s r o h a i m c
   ·rw[show A0i (d+1) (x::r)=0 from by simp only[A0i];rw[if_neg c]]
    exact D5d w g cap inn x r (by omega) h a i e (.inl (by omega)) (by simpa using c)
def A6p (indent:Int) (inn:Nat):LU8:=if indent<0 then[]else 10::List.replicate (indent.toNat*inn) 32
def C3j (n:Nat):UInt8:=if n<10 then UInt8.ofNat (48+n)else UInt8.ofNat (87+n)
def A4f (c:UInt8):LU8:=
 if c.toNat=34\/c.toNat=92 then[92,c]else if c.toNat=8 then[92,98]else if c.toNat=9 then[92,116]else if c.toNat=10 then[92,110]
 else if c.toNat=12 then[92,102]else if c.toNat=13 then[92,114]else if c.toNat<32 then[92,117,48,48,C3j (c.toNat/16),C3j (c.toNat % 16)]else[c]
def A3g (s:LU8):LU8:=34::(s.flatMap A4f++[34])
theorem E4q (c:UInt8):(A4f c).length<=6:=by
 unfold A4f
 repeat' split
 all_goals simp
theorem A8t (s:LU8):(s.flatMap A4f).length<=6*s.length:=by
 induction s with
 |nil=>simp
 |cons c s ih=>
  have:=E4q c;simp only[List.flatMap_cons,List.length_append,List.length_cons];omega
theorem D8h (l:LU8) (k:Nat) (a:k<l.length) (q:LU8) (b:A4f l[k]=q):ofL (34::(l.take k).flatMap A4f)++ofL q=ofL (34::(l.take (k+1)).flatMap A4f):=by
 rw[A0j,List.take_succ_eq_append_getElem a,List.flatMap_append,<-b];simp
theorem C9d (m:Nat) (h:m<16):(ByteArray.mk #[48,49,50,51,52,53,54,55,56,57,97,98,99,100,101,102]).extract m (m+1)=ofL [C3j m]:=by
 have:∀m:Fin 16,(ByteArray.mk #[48,49,50,51,52,53,54,55,56,57,97,98,99,100,101,102]).extract m.1 (m.1+1)=ofL [C3j m.1]:=by decide
 exact this ⟨m,h⟩
theorem C3k (l:LU8) (w:World) (hl:l.length<=100000000):
 Calls Tryz.prog 78 #[.string (ofL l)] w λe w'=>e=.returned (.string (ofL (A3g l)))/\Fr (λ_=>False) w w':=by
 have W:=A0c l;go_enter Tryz.func78,Tryz.ntmps78;go_wp2
 go_loopw [3,4] (λs t wr=>∃k:Nat,k<=l.length/\s=.string (ofL (34::(l.take k).flatMap A4f))/\t=.int .i64 (k:Int)/\Hid (Fr (λ_=>False) w wr)) (λ_ t _=>l.length-(intOf t).toNat)
 case atStart=>exact⟨0,by omega,rfl,rfl,hid (Fr.refl _ _)⟩
 case round=>
  obtain⟨k,hk,rfl,rfl,v⟩:=hrel
  have r:(ofL (34::(l.take k).flatMap A4f)).size<=600000001:=by
   have:=A8t (l.take k);rw[A0c,List.length_cons];rw[List.length_take]at this;omega
  by_cases C:k<l.length
  ·have hg:(ofL l)[k]'(by rw[W];exact C)=l[k]:=A1d l k _
   have a:=D8h l k C _ rfl
   have a0:(ofL l).extract k (k+1)=ofL [l[k]]:=by
    rw[A0r,List.drop_take,List.drop_eq_getElem_cons C];congr 1;rw[show k+1-k=1 by omega];rfl
   generalize l[k]=c at*;obtain⟨N,Y⟩:∃N,c.toNat=N:=⟨_,rfl⟩;have T:N<256:=by rw[<-Y];exact c.toNat_lt
   generalize ofL (34::(l.take k).flatMap A4f)=S at*;obtain⟨u,B⟩:∃u,ofL (34::(l.take (k+1)).flatMap A4f)=u:=⟨_,rfl⟩;rw[B]at a;have b:=hid B;have a1:(k:Int)<(l.length:Int):=by omega
   have a4:IntKind.i64.wrap ((k:Int)+1)=(k:Int)+1:=IntWalk.i64_in _ (by omega);have z1:((k:Int)+1).toNat=k+1:=by omega
   have z2:(k:Int)+1<=(l.length:Int):=by omega
   obtain⟨m,G⟩:∃m,S.size=m:=⟨_,rfl⟩;rw[G]at r;clear B;unfold A4f at a;rw[Y]at a;by_cases o:N=34\/N=92
   ·rw[if_pos o]at a
    have V:S++(⟨#[92]⟩:ByteArray)=S++ofL [92]:=rfl;obtain⟨x,d⟩:∃x,S++ofL [92]=x:=⟨_,rfl⟩;rw[d]at V;have f:x++ofL [c]=u:=by rw[<-d,<-a,ByteArray.append_assoc,A0j];rfl
    have H:x.size=m+1:=by rw[<-d,ByteArray.size_append,G];rfl
    have g:(⟨#[92]⟩:ByteArray).size=1:=rfl;have I:(ofL [c]).size=1:=A0c [c];clear a d;by_cases R:N=34
    ·have X:((N:Int)==34)=true:=by simp[R]
     clear o R;go_wp2;go_roundw
     case rel=>exact⟨k+1,by omega,by rw[b.out],by go_num,v⟩
     case measure=>simp[intOf];omega
    ·have X:((N:Int)==34)=false:=bqF (by omega)
     have e2:((N:Int)==92)=true:=by simp;omega
     clear o R;go_wp2;go_roundw
     case rel=>exact⟨k+1,by omega,by rw[b.out],by go_num,v⟩
     case measure=>simp[intOf];omega
   ·rw[if_neg o]at a
    have X:((N:Int)==34)=false:=bqF (by omega);have e2:((N:Int)==92)=false:=bqF (by omega);clear o;by_cases D:N=8
    ·rw[if_pos D]at a
     have e8:((N:Int)==8)=true:=by simp[D]
     have f:S++(⟨#[92,98]⟩:ByteArray)=u:=a;have g:(⟨#[92,98]⟩:ByteArray).size=2:=rfl;clear a D;go_wp2;go_roundw
     case rel=>exact⟨k+1,by omega,by rw[b.out],by go_num,v⟩
     case measure=>simp[intOf];omega
    rw[if_neg D]at a;have e8:((N:Int)==8)=false:=bqF (by omega);clear D;by_cases E:N=9
    ·rw[if_pos E]at a
     have e9:((N:Int)==9)=true:=by simp[E]
     have f:S++(⟨#[92,116]⟩:ByteArray)=u:=a;have g:(⟨#[92,116]⟩:ByteArray).size=2:=rfl;clear a E;go_wp2;go_roundw
     case rel=>exact⟨k+1,by omega,by rw[b.out],by go_num,v⟩
     case measure=>simp[intOf];omega
    rw[if_neg E]at a;have e9:((N:Int)==9)=false:=bqF (by omega);clear E;by_cases h:N=10
    ·rw[if_pos h]at a
     have L:((N:Int)==10)=true:=by simp[h]
     have f:S++(⟨#[92,110]⟩:ByteArray)=u:=a;have g:(⟨#[92,110]⟩:ByteArray).size=2:=rfl;clear a h;go_wp2;go_roundw
     case rel=>exact⟨k+1,by omega,by rw[b.out],by go_num,v⟩
     case measure=>simp[intOf];omega
    rw[if_neg h]at a;have L:((N:Int)==10)=false:=bqF (by omega);clear h;by_cases i:N=12
    ·rw[if_pos i]at a
     have M:((N:Int)==12)=true:=by simp[i]
     have f:S++(⟨#[92,102]⟩:ByteArray)=u:=a;have g:(⟨#[92,102]⟩:ByteArray).size=2:=rfl;clear a i;go_wp2;go_roundw
     case rel=>exact⟨k+1,by omega,by rw[b.out],by go_num,v⟩
     case measure=>simp[intOf];omega
    rw[if_neg i]at a;have M:((N:Int)==12)=false:=bqF (by omega);clear i;by_cases j:N=13
    ·rw[if_pos j]at a
     have O:((N:Int)==13)=true:=by simp[j]
     have f:S++(⟨#[92,114]⟩:ByteArray)=u:=a;have g:(⟨#[92,114]⟩:ByteArray).size=2:=rfl;clear a j;go_wp2;go_roundw
     case rel=>exact⟨k+1,by omega,by rw[b.out],by go_num,v⟩
     case measure=>simp[intOf];omega
    rw[if_neg j]at a;have O:((N:Int)==13)=false:=bqF (by omega);clear j;by_cases y:N<32
    ·rw[if_pos y]at a
     have P:decide ((N:Int)<32)=true:=dcT (by omega);obtain⟨p,Z⟩:∃p,N/16=p:=⟨_,rfl⟩;obtain⟨q,hq⟩:∃q,N % 16=q:=⟨_,rfl⟩;rw[Z,hq]at a;have z:p<16:=by omega
     have A:q<16:=by omega
     have t1:Int.tdiv (N:Int) 16=(p:Int):=by rw[Int.tdiv_eq_ediv_of_nonneg (by omega)];omega
     have t2:(N:Int)/16=(p:Int):=by omega
     have t3:Int.tmod (N:Int) 16=(q:Int):=by rw[Int.tmod_eq_emod_of_nonneg (by omega)];omega
     have t4:(N:Int) % 16=(q:Int):=by omega
     have u1:IntKind.u8.wrap ((p:Int)+1)=(p:Int)+1:=by rw[IntKind.wrap_u8];omega
     have u2:IntKind.u8.wrap ((q:Int)+1)=(q:Int)+1:=by rw[IntKind.wrap_u8];omega
     have v1:((p:Int)+1).toNat=p+1:=by omega
     have v2:((q:Int)+1).toNat=q+1:=by omega
     have x1:=C9d p z;have x2:=C9d q A;have x3:(ByteArray.mk #[48,49,50,51,52,53,54,55,56,57,97,98,99,100,101,102]).size=16:=rfl;obtain⟨x,d⟩:∃x,S++(⟨#[92,117,48,48]⟩:ByteArray)=x:=⟨_,rfl⟩;obtain⟨J,F⟩:∃J,x++ofL [C3j p]=J:=⟨_,rfl⟩
     have f:J++ofL [C3j q]=u:=by
      rw[<-F,<-d,<-a,show(⟨#[92,117,48,48]⟩:ByteArray)=ofL [92,117,48,48]from rfl,ByteArray.append_assoc,ByteArray.append_assoc,A0j,A0j];rfl
     have H:x.size=m+4:=by rw[<-d,ByteArray.size_append,G];rfl
     have a2:J.size=m+5:=by rw[<-F,ByteArray.size_append,H,A0c];rfl
     have g:(⟨#[92,117,48,48]⟩:ByteArray).size=4:=rfl;have I:(ofL [C3j p]).size=1:=A0c _;have a5:(ofL [C3j q]).size=1:=A0c _;have w1:(p:Int)+1<=16:=by omega
     have w2:(q:Int)+1<=16:=by omega
     have K:=hid (λn=>v.drewN n);generalize ofL [C3j p]=X1 at*;generalize ofL [C3j q]=X2 at*;clear a y Z hq z A;go_wp2;go_quiet (fail);go_wp2;go_roundw
     case rel=>exact⟨k+1,by omega,by rw[b.out],by go_num,hid (K.out _)⟩
     case measure=>simp[intOf];omega
    ·rw[if_neg y]at a
     have P:decide ((N:Int)<32)=false:=dcF (by omega);have f:S++ofL [c]=u:=a;have I:(ofL [c]).size=1:=A0c [c];clear a y;go_wp2;go_roundw
     case rel=>exact⟨k+1,by omega,by rw[b.out],by go_num,v⟩
     case measure=>simp[intOf];omega
  ·obtain rfl:k=l.length:=by omega
   have a3:¬((l.length:Int)<(l.length:Int)):=by omega
   rw[List.take_length]at r
   have hc:ofL (34::l.flatMap A4f)++(⟨#[34]⟩:ByteArray)=ofL (A3g l):=by
    rw[show(⟨#[34]⟩:ByteArray)=ofL [34]from rfl,A0j];rfl
   have g:(⟨#[34]⟩:ByteArray).size=1:=rfl;rw[List.take_length];generalize ofL (34::l.flatMap A4f)=S at*;obtain⟨Q,U⟩:∃Q,ofL (A3g l)=Q:=⟨_,rfl⟩;rw[U]at hc;have HQ:=hid U;clear U;obtain⟨m,G⟩:∃m,S.size=m:=⟨_,rfl⟩;rw[G]at r;go_wp2;go_ret;exact⟨by rw[HQ.out];rfl,v.out⟩
theorem A2d.trans {B:Nat} {w n o:World} {m l:Value} {j a:Int} {so:Bool} {k:Nat} {c b:Value} {bs:LU8} (e:Fr (λi=>i=B\/c.ownBlock=some i) w n) (f:∀g,b.ownBlock=some g->c.ownBlock=some g\/w.heap.size<=g) (h:A2d B n m l j a so k b bs o):A2d B w m l j a so k c bs o:=by
 obtain⟨d,p,q,r⟩:=h;have s:=e.size;refine⟨d,p,e.trans' q ?_,λg hg=>?_⟩
 ·rintro i (h|h)
  ·exact .inl (.inl h)
  ·rcases f i h with h|h
   ·exact .inl (.inr h)
   ·exact .inr h
 ·rcases r g hg with h|h
  ·exact f g h
  ·exact .inr (by omega)
theorem E4r (m:Nat) (h:m<16):(ByteArray.mk #[48,49,50,51,52,53,54,55,56,57,97,98,99,100,101,102])[m]'h=C3j m:=by
 have:∀m:Fin 16,(ByteArray.mk #[48,49,50,51,52,53,54,55,56,57,97,98,99,100,101,102])[m.1]'m.2=C3j m.1:=by decide
 exact this ⟨m,h⟩
theorem G4h (n:Nat) (h:n<32):bits BinOp.and IntKind.i32 (n:Int) 15=((n % 16:Nat):Int):=by
 have:∀n:Fin 32,bits BinOp.and IntKind.i32 (n.1:Int) 15=((n.1 % 16:Nat):Int):=by decide
 exact this ⟨n,h⟩
theorem C6b (B:Nat) (w:World) (z y:Value) (v a:Int) (so:Bool) (x:Nat) (M f:Value) (bs:LU8) (N:Nat) (h:WAt B w z y v a so x M f bs) (O:bs.length<=99999999000) (X:N<32):
 Calls Tryz.prog 127 #[.pointer (some ⟨B,0,none⟩),.int .i32 (N:Int)] w λe w'=>e=.returned (.tuple #[])/\A2d B w z y v a so x f (bs++[92,117,48,48,C3j (N/16),C3j (N % 16)]) w':=by
 have R:=hid (A1k B w z y v a so x M f bs [92,117,48,48] h (by simp;omega));obtain⟨p,Q⟩:∃p,N/16=p:=⟨_,rfl⟩;obtain⟨q,E⟩:∃q,N % 16=q:=⟨_,rfl⟩;have t:p<16:=by omega
 have u:q<16:=by omega
 have t1:(N:Int)/16=(p:Int):=by omega
 have t2:bits BinOp.and IntKind.i32 (N:Int) 15=(q:Int):=by rw[G4h N X,E]
 have V:=E4r p t;have W:=E4r q u;have x3:(ByteArray.mk #[48,49,50,51,52,53,54,55,56,57,97,98,99,100,101,102]).size=16:=rfl;have D:(p:Int)<16:=by omega
 have F:(q:Int)<16:=by omega
 rw[Q,E];have I:=hid (λ(w:World) (f:Value) (bs:LU8) (c:UInt8) (h:WAt B w z y v a so x (.pointer (some ⟨B,6,none⟩)) f bs) (O:bs.length<=100000000000)=>A1r B w z y v a so x _ f bs c h O);obtain⟨T,r⟩:∃P,C3j p=P:=⟨_,rfl⟩;obtain⟨U,s⟩:∃P,C3j q=P:=⟨_,rfl⟩;rw[r]at V ⊢;rw[s]at W ⊢;clear h Q E r s;go_enter Tryz.func127,Tryz.ntmps127
 go_wp2_with fail
 refine Calls.mono R.out ?_;rintro e Y ⟨rfl,G,b,j,m⟩;have A:=hid (And.intro j m);have g:=hid (λk=>I.out (Y.drewN k) G _ T ⟨b.blk,b.adr,b.row⟩ (by simp;omega));clear b j m
 go_wp2_with fail
 go_region_with (go_at_call 44;refine Calls.mono (g.out _) ?_;rintro e Z ⟨rfl,o⟩;have J:=hid o;clear o)
 all_goals
  have K:=hid (A2d.trans (A.1.drewN _) A.2 J.out);clear J A g;obtain⟨H,d,l,n⟩:=K.out;have C:=hid (And.intro l n);have i:=hid (λk=>I.out (Z.drewN k) H _ U ⟨d.blk,d.adr,d.row⟩ (by simp;omega));clear d l n K
  go_wp2_with fail
  go_region_with (go_at_call 44;refine Calls.mono (i.out _) ?_;rintro e w3 ⟨rfl,o⟩;have L:=hid o;clear o)
  all_goals
   have S:=hid (A2d.trans (C.1.drewN _) C.2 L.out);clear L C i;go_wp2;go_end0;refine⟨rfl,?_⟩;have:=S.out;simpa using this
def C3m (r:Nat):LU8:=
 if r=34\/r=92 then 92::A3z r else if r=8 then[92,98]else if r=9 then[92,116]else if r=10 then[92,110]
 else if r=12 then[92,102]else if r=13 then[92,114]else if r<32 then[92,117,48,48,C3j (r/16),C3j (r % 16)]else A3z r
theorem B5a (B:Nat) (w:World) (k j:Value) (g a:Int) (so:Bool) (i:Nat) (u f:Value) (bs:LU8) (r:Nat) (h:WAt B w k j g a so i u f bs) (R:bs.length<=99999990000) (hr:r<55296\/(57344<=r/\r<=1114111)):
 Calls Tryz.prog 72 #[.pointer (some ⟨B,0,none⟩),.int .i32 (r:Int)] w λe w'=>e=.returned (.tuple #[])/\A2d B w k j g a so i f (bs++C3m r) w':=by
 unfold C3m;by_cases p:r=34\/r=92
 ·rw[if_pos p]
  by_cases K:r=34
  ·have L:((r:Int)==34)=true:=by simp[K]
   clear K;have c:=hid (show Calls Tryz.prog 44 #[.pointer (some ⟨B,6,none⟩),.int .u8 92] w _ from A1r B w k j g a so i u f bs 92 h (by omega));have A:=hid (λ(w:World) (f:Value) (h:WAt B w k j g a so i (.pointer (some ⟨B,6,none⟩)) f (bs++[92]))=>B0v B w k j g a so i _ f (bs++[92]) r h (by simp;omega) hr);obtain⟨E,x⟩:∃E,A3z r=E:=⟨_,rfl⟩;rw[x]at A ⊢;clear h hr x p;go_enter Tryz.func72,Tryz.ntmps72
   go_wp2_with fail
   refine Calls.mono c.out ?_;rintro e v ⟨rfl,z,t,q,s⟩;have C:=hid (And.intro q s);have y:=hid (A.out v z t);clear t q s
   go_wp2_with fail
   refine Calls.mono y.out ?_;rintro e Q ⟨⟨M,rfl⟩,b⟩;have d:=hid (A2d.trans C.1 C.2 b);clear b;go_wp2;go_end0;exact⟨rfl,by simpa using d.out⟩
  ·have L:((r:Int)==34)=false:=bqF (by omega)
   have N:((r:Int)==92)=true:=by simp;omega
   clear K;have c:=hid (show Calls Tryz.prog 44 #[.pointer (some ⟨B,6,none⟩),.int .u8 92] w _ from A1r B w k j g a so i u f bs 92 h (by omega));have A:=hid (λ(w:World) (f:Value) (h:WAt B w k j g a so i (.pointer (some ⟨B,6,none⟩)) f (bs++[92]))=>B0v B w k j g a so i _ f (bs++[92]) r h (by simp;omega) hr);obtain⟨E,x⟩:∃E,A3z r=E:=⟨_,rfl⟩;rw[x]at A ⊢;clear h hr x p;go_enter Tryz.func72,Tryz.ntmps72
   go_wp2_with fail
   refine Calls.mono c.out ?_;rintro e v ⟨rfl,z,t,q,s⟩;have C:=hid (And.intro q s);have y:=hid (A.out v z t);clear t q s
   go_wp2_with fail
   refine Calls.mono y.out ?_;rintro e Q ⟨⟨M,rfl⟩,b⟩;have d:=hid (A2d.trans C.1 C.2 b);clear b;go_wp2;go_end0;exact⟨rfl,by simpa using d.out⟩
 ·rw[if_neg p]
  have L:((r:Int)==34)=false:=bqF (by omega);have N:((r:Int)==92)=false:=bqF (by omega);clear p;by_cases D:r=8
  ·rw[if_pos D]
   have O:((r:Int)==8)=true:=by simp[D]
   have c:=hid (A1k B w k j g a so i u f bs [92,98] h (by simp;omega));clear h hr D;go_enter Tryz.func72,Tryz.ntmps72
   go_wp2_with fail
   refine Calls.mono c.out ?_;rintro e v ⟨rfl,b⟩;have d:=hid b;clear b;go_wp2;go_end0;exact⟨rfl,d.out⟩
  rw[if_neg D];have O:((r:Int)==8)=false:=bqF (by omega);clear D;by_cases F:r=9
  ·rw[if_pos F]
   have P:((r:Int)==9)=true:=by simp[F]
   have c:=hid (A1k B w k j g a so i u f bs [92,116] h (by simp;omega));clear h hr F;go_enter Tryz.func72,Tryz.ntmps72
   go_wp2_with fail
   refine Calls.mono c.out ?_;rintro e v ⟨rfl,b⟩;have d:=hid b;clear b;go_wp2;go_end0;exact⟨rfl,d.out⟩
  rw[if_neg F];have P:((r:Int)==9)=false:=bqF (by omega);clear F;by_cases l:r=10
  ·rw[if_pos l]
   have G:((r:Int)==10)=true:=by simp[l]
   have c:=hid (A1k B w k j g a so i u f bs [92,110] h (by simp;omega));clear h hr l;go_enter Tryz.func72,Tryz.ntmps72
   go_wp2_with fail
   refine Calls.mono c.out ?_;rintro e v ⟨rfl,b⟩;have d:=hid b;clear b;go_wp2;go_end0;exact⟨rfl,d.out⟩
  rw[if_neg l];have G:((r:Int)==10)=false:=bqF (by omega);clear l;by_cases m:r=12
  ·rw[if_pos m]
   have H:((r:Int)==12)=true:=by simp[m]
   have c:=hid (A1k B w k j g a so i u f bs [92,102] h (by simp;omega));clear h hr m;go_enter Tryz.func72,Tryz.ntmps72
   go_wp2_with fail
   refine Calls.mono c.out ?_;rintro e v ⟨rfl,b⟩;have d:=hid b;clear b;go_wp2;go_end0;exact⟨rfl,d.out⟩
  rw[if_neg m];have H:((r:Int)==12)=false:=bqF (by omega);clear m;by_cases n:r=13
  ·rw[if_pos n]
   have I:((r:Int)==13)=true:=by simp[n]
   have c:=hid (A1k B w k j g a so i u f bs [92,114] h (by simp;omega));clear h hr n;go_enter Tryz.func72,Tryz.ntmps72
   go_wp2_with fail
   refine Calls.mono c.out ?_;rintro e v ⟨rfl,b⟩;have d:=hid b;clear b;go_wp2;go_end0;exact⟨rfl,d.out⟩
  rw[if_neg n];have I:((r:Int)==13)=false:=bqF (by omega);clear n;by_cases o:r<32
  ·rw[if_pos o]
   have J:decide ((r:Int)<32)=true:=dcT (by omega);have c:=hid (C6b B w k j g a so i u f bs r h (by omega) o);generalize [92,117,48,48,C3j (r/16),C3j (r % 16)]=L6 at*;clear h hr o;go_enter Tryz.func72,Tryz.ntmps72
   go_wp2_with fail
   refine Calls.mono c.out ?_;rintro e v ⟨rfl,b⟩;have d:=hid b;clear b;go_wp2;go_end0;exact⟨rfl,d.out⟩
  ·rw[if_neg o]
   have J:decide ((r:Int)<32)=false:=dcF (by omega);have c:=hid (B0v B w k j g a so i u f bs r h (by omega) hr);obtain⟨E,x⟩:∃E,A3z r=E:=⟨_,rfl⟩;rw[x]at c ⊢;clear h hr o x;go_enter Tryz.func72,Tryz.ntmps72
   go_wp2_with fail
   refine Calls.mono c.out ?_;rintro e v ⟨⟨M,rfl⟩,b⟩;have d:=hid b;clear b;go_wp2;go_end0;exact⟨rfl,d.out⟩
end Go.Proofs.YtmkkibaacclhnaaGreatDoor
