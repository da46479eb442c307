/-
  Part Sg.
-/
import Derived.Test.YtmkkibaacclhnaaGreatDoorSd
namespace Go.Proofs.YtmkkibaacclhnaaGreatDoor
open Go.RowKit
set_option maxRecDepth 100000
set_option maxHeartbeats 80000000
theorem E7b {b:Bool} {k n m:Nat} {r q:LU8} (h:A1m b k n r=.ok m q):n*16^k<=m/\m<(n+1)*16^k:=by
 induction k generalizing n r with
 |zero=>
  rw[A1m]at h;cases h;omega
 |succ k ih=>
  cases r with
  |nil=>cases h
  |cons c r=>
   rw[A1m]at h;cases a:B5v c with
   |none=>rw[a]at h;cases h
   |some x=>
    rw[a]at h;have i:=A6i a;simp only at h;split at h
    ·cases h
    split at h
    ·cases h
    obtain⟨f,g⟩:=ih h
    have d:n*16^(k+1)<=(16*n+x)*16^k:=by
     rw[Nat.pow_succ,<-Nat.mul_assoc,Nat.mul_comm (n*16^k) 16,<-Nat.mul_assoc];exact Nat.mul_le_mul_right _ (by omega)
    have e:(16*n+x+1)*16^k<=(n+1)*16^(k+1):=by
     rw[Nat.pow_succ,<-Nat.mul_assoc,Nat.mul_comm ((n+1)*16^k) 16,<-Nat.mul_assoc];exact Nat.mul_le_mul_right _ (by omega)
    exact⟨Nat.le_trans d f,Nat.lt_of_lt_of_le g e⟩
theorem F8w {a:Bool} {m:Nat} {r q:LU8} (h:A1m a 4 0 r=.ok m q):m<65536:=by
 have:=(E7b h).2;simpa using this
theorem F3j {m:Nat} {r q:LU8} (h:A1m true 4 0 r=.ok m q):56320<=m/\m<57344:=by
 cases r with
 |nil=>cases h
 |cons c r=>
  rw[A1m]at h;cases f:B5v c with
  |none=>rw[f]at h;cases h
  |some x=>
   rw[f]at h;simp only at h;split at h
   ·cases h
   rename_i h1
   split at h
   ·cases h
   have i:16*0+x=13:=by
    by_cases e:16*0+x=13
    ·exact e
    ·exact absurd ⟨trivial,.inl ⟨trivial,e⟩⟩ h1
   rw[i]at h;cases r with
   |nil=>cases h
   |cons c2 r=>
    rw[A1m]at h;cases d:B5v c2 with
    |none=>rw[d]at h;cases h
    |some y=>
     rw[d]at h;have j:=A6i d;simp only at h;split at h
     ·cases h
     rename_i h2
     split at h
     ·cases h
     have g:¬16*13+y<220:=λe=>h2 ⟨trivial,.inr ⟨trivial,e⟩⟩
     obtain⟨a,b⟩:=E7b h;simp only[Nat.reducePow]at a b;omega
theorem SC.same {B:Nat} {w0 w w':World} {l p:LU8} {inn d:Nat} {c:Value} {its:List It} {e:Nat} {en b:Bool} (h:SC B w0 w l p inn d c its e en b) (a:Fr (λ_=>False) w w'):SC B w0 w' l p inn d c its e en b:=
 ⟨a.heap h.blk id,A7e h.oi a (λ_ _=>id),h.suf,h.fr.trans a,h.hB,h.hv⟩
theorem D6e (n:Nat):A5b n []=.ended:=rfl
theorem C7a (n:Nat):A5b n [92]=.ended:=by rw[A5b.eq_def];simp
theorem D3i (n:Nat) {c:UInt8} (q:LU8) (h:c≠92):A5b n (c::q)=.wrong 5 (c::q):=by rw[A5b.eq_def];simp[h]
theorem D3j (n:Nat) {c:UInt8} (q:LU8) (h:c≠117):A5b n (92::c::q)=.wrong 5 (c::q):=by rw[A5b.eq_def];simp[h]
theorem E7c (n:Nat) (q:LU8):A5b n (92::117::q)=match A1m true 4 0 q with
 |.ok m q3=>.ok (A3z (65536+1024*(n-55296)+(m-56320))) q3
 |.wrong e q=>.wrong e q
 |.ended=>.ended:=by
 rw[A5b.eq_def];simp only[ne_eq,not_true,if_false];cases A1m true 4 0 q<;>rfl
def shI:LU8:=[34,92,47,98,102,110,114,116]
def shO:LU8:=[34,92,47,8,12,10,13,9]
theorem G2y:∀k:Nat,(h:k<8)->C4r (shI[k]'h)=some (shO[k]'h):=by decide
theorem F8x (c:UInt8) (h:∀j:Nat,(m:j<8)->shI[j]'m≠c):C4r c=none:=by
 have a:=h 0 (by omega);have b:=h 1 (by omega);have d:=h 2 (by omega);have f:=h 3 (by omega);have g:=h 4 (by omega);have i:=h 5 (by omega);have k:=h 6 (by omega);have l:=h 7 (by omega);simp only[shI,List.getElem_cons_zero,List.getElem_cons_succ]at a b d f g i k l;unfold C4r;rw[if_neg (by rintro(e|e|e);exact a e.symm;exact b e.symm;exact d e.symm),if_neg (λe=>f e.symm),if_neg (λe=>g e.symm),if_neg (λe=>i e.symm),if_neg (λe=>k e.symm),if_neg (λe=>l e.symm)]
theorem F3k (m:Nat) (h:m<8):(ByteArray.mk #[34,92,47,8,12,10,13,9]).extract m (m+1)=ofL [shO[m]'h]:=by
 have:m=0\/m=1\/m=2\/m=3\/m=4\/m=5\/m=6\/m=7:=by omega
 rcases this with rfl|rfl|rfl|rfl|rfl|rfl|rfl|rfl<;>rfl
def D3k (s:LU8):Value:=.tuple #[.string (ofL s),.bool true]
def E7d:Value:=.tuple #[.string (ofL []),.bool false]
theorem D9x (B:Nat) (w0 w:World) (l r:LU8) (inn d:Nat) (p:Value) (its:List It) (hl:l.length<=100000000) (h:SC B w0 w l (92::r) inn d p its 0 false false):
 Calls Tryz.prog 141 #[.pointer (some ⟨B,0,none⟩)] w (D9w B w0 l inn d p its D3k E7d (A5f r)):=by
 obtain⟨U,hU⟩:∃U,A5f r=U:=⟨_,rfl⟩;rw[hU];have V:=A0c l;have k1:=A0a h.blk (show(A0e l (l.length-(92::r).length) inn d p 0 false false)[1]? =some (.int .i64 ((l.length-(92::r).length:Nat):Int))from rfl);have f1:=A0b (j:=1) h.blk;have a4:=h.at_;have h1:=h.step;have Z:=hid h1;obtain⟨W,hp⟩:∃W,l.length-(92::r).length=W:=⟨_,rfl⟩;have b6:W<=100000000:=by omega
 rw[hp]at k1 Z;clear h h1 a4 hp;cases r with
 |nil=>
  have D:=hid (B0y B w0 _ l inn d p its 0 false false Z.out);rw[A5f]at hU;subst hU;go_enter Tryz.func141,Tryz.ntmps141
  go_wp2_with fail
  refine Calls.mono D.out ?_;rintro x w2 ⟨rfl,b⟩;have v:=hid b;clear b;go_wp2;go_ret2;exact⟨rfl,v.out⟩
 |cons c q=>
  have D:=hid (A7v B w0 _ l c q inn d p its 0 false false Z.out);have X:=hid hU;clear hU;go_enter Tryz.func141,Tryz.ntmps141
  go_wp2_with fail
  refine Calls.mono D.out ?_;rintro x w2 ⟨rfl,a5⟩;have HI:=hid (a5▸Z.drew:SC B w0 w2 l (c::q) inn d p its 0 false false);clear a5 k1 f1 D Z;go_wp2
  go_loopw [6] (λi wr=>∃k:Nat,k<=8/\i=.int .i64 k/\Hid (SC B w0 wr l (c::q) inn d p its 0 false false)/\Hid (∀j:Nat,j<k->(hj:j<8)->shI[j]'hj≠c)) (λi _=>8-(intOf i).toNat)
  case atStart=>exact⟨0,by omega,rfl,HI,hid (λj hj=>by omega)⟩
  case round=>
   obtain⟨k,hk,rfl,Q,hN⟩:=hrel;obtain⟨a3,hg⟩:=A3i Q.suf;have k0:=A0a Q.blk (show(A0e l (l.length-(c::q).length) inn d p 0 false false)[0]? =some (.string (ofL l))from rfl);have k1:=A0a Q.blk (show(A0e l (l.length-(c::q).length) inn d p 0 false false)[1]? =some (.int .i64 ((l.length-(c::q).length:Nat):Int))from rfl);have f1:=A0b (j:=1) Q.blk;have a7:(ofL l)[l.length-(c::q).length]'(by rw[V];exact a3)=c:=(A1d l _ _).trans hg;have T:=hid (λn=>(Q.drewN n).step);have a0:=hid (λn=>Q.drewN n);generalize l.length-(c::q).length=ps at*;clear hg;by_cases A:k<8
   ·have b0:(ByteArray.mk #[34,92,47,98,102,110,114,116])[k]'A=shI[k]'A:=rfl
    have a9:=F3k k A;have hV:=hid (G2y k A);generalize hx:shI[k]'A=y at*;generalize shO[k]'A=z at*;by_cases hy:y=c
    ·subst hy
     have hb:((y.toNat:Int)==(y.toNat:Int))=true:=beq_self_eq_true _;clear hx;go_wp2;go_quiet (fail);go_wp2;go_ret2;rw[<-X.out,A5f,hV.out];exact⟨rfl,T.out _⟩
    ·have b7:((y.toNat:Int)==(c.toNat:Int))=false:=bqF (by have:=A0k hy;omega)
     have HX:=hid hx;have HY:=hid hy;clear hx hy a9;go_wp2;go_quiet (fail);go_wp2;go_roundw
     case rel=>exact⟨k+1,by omega,by go_num,hid (a0.out _),hid (λj hj hj2=>by
      by_cases e:j=k
      ·subst e;rw[HX.out];exact HY.out
      ·exact hN.out j (by omega) hj2)⟩
     case measure=>simp[intOf];omega
   ·obtain rfl:k=8:=by omega
    have HE:=hid (F8x c (λj hj=>hN.out j hj hj));have a1:=hid (λn e=>A2m B w0 (wr.drewN n) l (c::q) inn d p its 0 e false false (Q.drewN n));by_cases G:c=117
    ·subst G
     have f:=hid (λn=>D6d false B w0 _ l q inn d p its hl (T.out n));have hb:((117:Int)!=117)=false:=rfl;cases s:A1m false 4 0 q with
     |wrong e q1=>
      rw[s]at f;have a:=hid (show U=.wrong e q1 by rw[<-X.out,A5f,B4p];simp[s]);clear s;go_wp2;go_quiet (fail)
      go_wp2_with fail
      refine Calls.mono (f.out _) ?_;rintro x w3 ⟨rfl,b⟩;unfold G2x;have v:=hid b;clear b;go_wp2;go_ret2;rw[a.out];exact⟨rfl,v.out⟩
     |ended=>
      rw[s]at f;have a:=hid (show U=.ended by rw[<-X.out,A5f,B4p];simp[s]);clear s;go_wp2;go_quiet (fail)
      go_wp2_with fail
      refine Calls.mono (f.out _) ?_;rintro x w3 ⟨rfl,b⟩;unfold G2x;have v:=hid b;clear b;go_wp2;go_ret2;rw[a.out];exact⟨rfl,v.out⟩
     |ok n q1=>
      rw[s]at f;have hn:=F8w s;by_cases C:n<55296\/56320<=n
      ·have a:=hid (show U=.ok (A3z n) q1 by rw[<-X.out,A5f,B4p];simp[s,C])
       have F:=hid (λw=>C8w n w (by omega));clear s;generalize A3z n=en at*;rcases C with C|C
       ·go_wp2
        go_quiet (fail)
        go_wp2_with fail
        refine Calls.mono (f.out _) ?_;rintro x w3 ⟨rfl,b⟩;unfold E6z;have v:=hid b;clear b
        go_wp2_with fail
        refine Calls.mono (F.out _) ?_;rintro x E ⟨rfl,P⟩;have Y:=hid P;clear P;go_wp2;go_ret2;rw[a.out];exact⟨rfl,v.same Y.out⟩
       ·go_wp2
        go_quiet (fail)
        go_wp2_with fail
        refine Calls.mono (f.out _) ?_;rintro x w3 ⟨rfl,b⟩;unfold E6z;have v:=hid b;clear b
        go_wp2_with fail
        refine Calls.mono (F.out _) ?_;rintro x E ⟨rfl,P⟩;have Y:=hid P;clear P;go_wp2;go_ret2;rw[a.out];exact⟨rfl,v.same Y.out⟩
      ·have a:=hid (show U=A5b n q1 by rw[<-X.out,A5f,B4p];simp[s,C])
       have b4:55296<=n:=by omega
       have b5:n<56320:=by omega
       clear s C;go_wp2;go_quiet (fail)
       go_wp2_with fail
       refine Calls.mono (f.out _) ?_;rintro x w3 ⟨rfl,b⟩;unfold E6z;have v:=hid b;clear b;go_wp2;clear f T a0 k0 k1 f1 a1 Q hN a7 a3 HI HE
       go_loopw [8] (λi wr2=>∃(k:Nat) (p':LU8),k<=2/\i=.int .i64 k/\Hid (SC B w0 wr2 l p' inn d p its 0 false false)/\Hid ((k=0/\p'=q1)\/(k=1/\q1=92::p')\/(k=2/\q1=92::117::p'))) (λi _=>2-(intOf i).toNat)
       case atStart=>exact⟨0,q1,by omega,rfl,v,hid (.inl ⟨rfl,rfl⟩)⟩
       case round=>
        obtain⟨k2,p',b1,rfl,u,O⟩:=hrel;rcases O.out with⟨J,L⟩|⟨J,L⟩|⟨J,L⟩
        ·subst J
         subst L;clear O;cases p' with
         |nil=>
          have D:=hid (B0y B w0 _ l inn d p its 0 false false u.out)
          go_wp2_with fail
          refine Calls.mono D.out ?_;rintro x E ⟨rfl,b⟩;have o:=hid b;clear b;go_wp2;go_ret2;rw[a.out,D6e];exact⟨rfl,o.out⟩
         |cons c2 q2=>
          have D:=hid (A7v B w0 _ l c2 q2 inn d p its 0 false false u.out)
          go_wp2_with fail
          refine Calls.mono D.out ?_;rintro x E ⟨rfl,N⟩;have g:SC B w0 E l (c2::q2) inn d p its 0 false false:=N▸u.drew;clear N;obtain⟨K,I⟩:=A3i g.suf;have m0:=A0a g.blk (show(A0e l (l.length-(c2::q2).length) inn d p 0 false false)[0]? =some (.string (ofL l))from rfl);have m1:=A0a g.blk (show(A0e l (l.length-(c2::q2).length) inn d p 0 false false)[1]? =some (.int .i64 ((l.length-(c2::q2).length:Nat):Int))from rfl);have m2:=A0b (j:=1) g.blk;have a2:(ofL l)[l.length-(c2::q2).length]'(by rw[V];exact K)=c2:=(A1d l _ _).trans I;have M:=hid (λn=>(g.drewN n).step);have H:=hid (λn=>A2m B w0 (E.drewN n) l (c2::q2) inn d p its 0 5 false false (g.drewN n));generalize l.length-(c2::q2).length=ps4 at*;clear I g;have a8:(ByteArray.mk #[92,117])[0]'(by decide)=92:=rfl;by_cases t:c2=92
          ·subst t
           go_wp2;go_quiet (fail);go_wp2;go_roundw
           case rel=>exact⟨1,q2,by omega,by go_num,hid (M.out _),hid ((.inr (.inl ⟨rfl,rfl⟩)))⟩
           case measure=>simp[intOf]
          ·have a6:((c2.toNat:Int)!=92)=true:=bne_iff_ne.2 (by have:=A0k t;simp at this;omega)
           have R:=hid (D3i n q2 t);clear t;go_wp2;go_quiet (fail)
           go_wp2_with fail
           refine Calls.mono (H.out _) ?_;rintro x w5 ⟨rfl,b⟩;have o:=hid b;clear b;go_wp2;go_ret2;rw[a.out,R.out];exact⟨rfl,o.out⟩
        ·subst J
         subst L;clear O;cases p' with
         |nil=>
          have D:=hid (B0y B w0 _ l inn d p its 0 false false u.out)
          go_wp2_with fail
          refine Calls.mono D.out ?_;rintro x E ⟨rfl,b⟩;have o:=hid b;clear b;go_wp2;go_ret2;rw[a.out,C7a];exact⟨rfl,o.out⟩
         |cons c2 q2=>
          have D:=hid (A7v B w0 _ l c2 q2 inn d p its 0 false false u.out)
          go_wp2_with fail
          refine Calls.mono D.out ?_;rintro x E ⟨rfl,N⟩;have g:SC B w0 E l (c2::q2) inn d p its 0 false false:=N▸u.drew;clear N;obtain⟨K,I⟩:=A3i g.suf;have m0:=A0a g.blk (show(A0e l (l.length-(c2::q2).length) inn d p 0 false false)[0]? =some (.string (ofL l))from rfl);have m1:=A0a g.blk (show(A0e l (l.length-(c2::q2).length) inn d p 0 false false)[1]? =some (.int .i64 ((l.length-(c2::q2).length:Nat):Int))from rfl);have m2:=A0b (j:=1) g.blk;have a2:(ofL l)[l.length-(c2::q2).length]'(by rw[V];exact K)=c2:=(A1d l _ _).trans I;have M:=hid (λn=>(g.drewN n).step);have H:=hid (λn=>A2m B w0 (E.drewN n) l (c2::q2) inn d p its 0 5 false false (g.drewN n));generalize l.length-(c2::q2).length=ps4 at*;clear I g;have a8:(ByteArray.mk #[92,117])[1]'(by decide)=117:=rfl;by_cases t:c2=117
          ·subst t
           go_wp2;go_quiet (fail);go_wp2;go_roundw
           case rel=>exact⟨2,q2,by omega,by go_num,hid (M.out _),hid ((.inr (.inr ⟨rfl,rfl⟩)))⟩
           case measure=>simp[intOf]
          ·have a6:((c2.toNat:Int)!=117)=true:=bne_iff_ne.2 (by have:=A0k t;simp at this;omega)
           have R:=hid (D3j n q2 t);clear t;go_wp2;go_quiet (fail)
           go_wp2_with fail
           refine Calls.mono (H.out _) ?_;rintro x w5 ⟨rfl,b⟩;have o:=hid b;clear b;go_wp2;go_ret2;rw[a.out,R.out];exact⟨rfl,o.out⟩
        ·subst J
         subst L;clear O;rw[E7c]at a;have f:=hid (D6d true B w0 _ l p' inn d p its hl u.out);cases s:A1m true 4 0 p' with
         |wrong e q2=>
          rw[s]at f a;clear s
          go_wp2_with fail
          refine Calls.mono f.out ?_;rintro x E ⟨rfl,b⟩;unfold G2x;have o:=hid b;clear b;go_wp2;go_ret2;rw[a.out];exact⟨rfl,o.out⟩
         |ended=>
          rw[s]at f a;clear s
          go_wp2_with fail
          refine Calls.mono f.out ?_;rintro x E ⟨rfl,b⟩;unfold G2x;have o:=hid b;clear b;go_wp2;go_ret2;rw[a.out];exact⟨rfl,o.out⟩
         |ok m q3=>
          rw[s]at f a;obtain⟨b2,b3⟩:=F3j s;have F:=hid (λw=>C8w (65536+1024*(n-55296)+(m-56320)) w (by omega));have S:=hid (show((65536+1024*(n-55296)+(m-56320):Nat):Int)=65536+1024*((n:Int)-55296)+(m:Int)-56320 by omega);rw[S.out]at F;simp only at a;generalize A3z (65536+1024*(n-55296)+(m-56320))=en at*;clear s
          go_wp2_with fail
          refine Calls.mono f.out ?_;rintro x E ⟨rfl,b⟩;unfold E6z;have o:=hid b;clear b
          go_wp2_with fail
          refine Calls.mono (F.out _) ?_;rintro x w5 ⟨rfl,P⟩;have Y:=hid P;clear P;go_wp2;go_ret2;rw[a.out];exact⟨rfl,o.same Y.out⟩
    ·have hb:((c.toNat:Int)!=117)=true:=bne_iff_ne.2 (by have:=A0k G;simp at this;omega)
     have a:=hid (show U=.wrong 3 (c::q) by rw[<-X.out,A5f,HE.out];simp[G]);go_wp2;go_quiet (fail)
     go_wp2_with fail
     refine Calls.mono (a1.out _ 3) ?_;rintro x w3 ⟨rfl,b⟩;have v:=hid b;clear b;go_wp2;go_ret2;rw[a.out];exact⟨rfl,v.out⟩
theorem E7e {l P a q:LU8} {x:UInt8} (h:P<:+l) (b:P=a++x::q):l.length-(x::q).length=l.length-P.length+a.length/\(l.take (l.length-P.length+a.length+1)).drop (l.length-P.length)=a++[x]:=by
 obtain⟨t,rfl⟩:=h;subst b;have e:(t++(a++x::q)).length-(a++x::q).length=t.length:=by simp
 rw[e];constructor
 ·simp
  omega
 ·rw[show t.length+a.length+1=(t++(a++[x])).length by simp;omega,show t++(a++x::q)=(t++(a++[x]))++q by simp,List.take_left,List.drop_left]
theorem E7f (p:LU8) (w:World) (a:p≠[]) (hr:p.length<=1000000000):
 Calls Tryz.prog 175 #[.string (ofL p)] w λx w'=>x=.returned (.int .i64 ((A0n p:Nat):Int))/\Fr (λ_=>False) w w':=by
 cases p with
 |nil=>exact absurd rfl a
 |cons c r=>exact C3h c r w (by simp only[List.length_cons]at hr;omega)
theorem C7b (B:Nat) (w0 w:World) (l P:LU8) (inn d:Nat) (m:Value) (its:List It) (hl:l.length<=100000000) (h:SC B w0 w l P inn d m its 0 false false):
 Calls Tryz.prog 142 #[.pointer (some ⟨B,0,none⟩)] w (D9w B w0 l inn d m its D3k E7d (A6c [] P)):=by
 obtain⟨U,S⟩:∃U,A6c [] P=U:=⟨_,rfl⟩;rw[S];have HU:=hid S;have a2:=A0c l;have Z:=hid h.suf;have kP:=A0a h.blk (show(A0e l (l.length-P.length) inn d m 0 false false)[1]? =some (.int .i64 ((l.length-P.length:Nat):Int))from rfl);have R:=h.at_;have H:=hid h;obtain⟨fr,y⟩:∃fr,l.length-P.length=fr:=⟨_,rfl⟩;have a0:fr+P.length=l.length:=by omega
 rw[y]at kP;have M:=hid y;clear h S y R;go_enter Tryz.func142,Tryz.ntmps142;go_wp2
 go_loopw [] (λwr=>∃b p',Hid (SC B w0 wr l p' inn d m its 0 false false)/\Hid (A6c b p'=U)/\Hid (P=b++p')) (λwr=>l.length-atOf wr B)
 case atStart=>exact⟨[],P,H,HU,hid rfl⟩
 case round=>
  clear kP;obtain⟨b,p',F,n,t⟩:=hrel;cases p' with
  |nil=>
   have N:=hid (B0y B w0 _ l inn d m its 0 false false F.out);rw[A6c]at n
   go_wp2_with fail
   refine Calls.mono N.out ?_;rintro x D ⟨rfl,E⟩;have L:=hid E;clear E;go_wp2;go_ret2;rw[<-n.out];exact⟨rfl,L.out⟩
  |cons x q=>
   have N:=hid (A7v B w0 _ l x q inn d m its 0 false false F.out);obtain⟨z,A⟩:=E7e Z.out t.out;rw[M.out]at z A;have hA:=hid F.atOf
   go_wp2_with fail
   refine Calls.mono N.out ?_;rintro x2 D ⟨rfl,K⟩;have c:SC B w0 D l (x::q) inn d m its 0 false false:=K▸F.drew;clear K;have X:fr+b.length<l.length:=by have:=c.at_;have h3:=congrArg List.length t.out;simp at h3;omega
   have k0:=A0a c.blk (show(A0e l (l.length-(x::q).length) inn d m 0 false false)[0]? =some (.string (ofL l))from rfl);have k1:=A0a c.blk (show(A0e l (l.length-(x::q).length) inn d m 0 false false)[1]? =some (.int .i64 ((l.length-(x::q).length:Nat):Int))from rfl);have f1:=A0b (j:=1) c.blk;have o:=hid (λwx (hF:Fr (λ_=>False) D.drew wx)=>(c.drew.same hF).step);have Q:=hid (λwx (hF:Fr (λ_=>False) D.drew wx)=>A2m B w0 wx l (x::q) inn d m its 0 2 false false (c.drew.same hF));have i:=hid (λwx (hF:Fr (λ_=>False) D.drew wx)=>(show wx.cell? ⟨B,1,none⟩=some (.int .i64 ((l.length-(x::q).length:Nat):Int))from A0a (c.drew.same hF).blk rfl));have r:=hid (λwx (hF:Fr (λ_=>False) D.drew wx)=>(show wx.cell? ⟨B,0,none⟩=some (.string (ofL l))from A0a (c.drew.same hF).blk rfl));have s:=hid (λwx (hF:Fr (λ_=>False) D.drew wx)=>(show wx.frozen? ⟨B,1,none⟩=false from A0b (j:=1) (c.drew.same hF).blk));have G:(ofL l).extract fr (fr+b.length+1)=ofL (b++[x]):=by rw[A0r,A]
   rw[z]at k1 o i;have p:=hid (λw=>E7f (b++[x]) w (by simp) (by simp;omega));have I:(b++[x]).length=b.length+1:=by simp
   generalize C:b++[x]=px at*;have v:=A5c b x q;rw[C]at v;rw[v]at n;generalize W:A0n px=bv at*;clear c A v W;obtain⟨e,J⟩:∃e,fr+b.length=e:=⟨_,rfl⟩;rw[J]at k1 i o G X z;have a1:fr<=e:=by omega
   have Y:px.length=e+1-fr:=by omega
   clear J I;have z1:fr<=e+1:=by omega
   have z2:e+1<=l.length:=by omega
   have z3:(fr:Int)<=(e:Int)+1:=by omega
   have z4:(e:Int)+1<=(l.length:Int):=by omega
   have z5:¬(e:Int)+1<(fr:Int):=by omega
   have z6:¬(l.length:Int)<(e:Int)+1:=by omega
   have a3:IntKind.i64.wrap ((e:Int)+1)=(e:Int)+1:=IntWalk.i64_in ((e:Int)+1) (by omega);have z8:(0:Int)<=(e:Int)+1:=by omega
   have z9:(0:Int)<=(fr:Int):=by omega
   have z7:((e:Int)+1).toNat=e+1:=by omega
   have g:bv=0\/(bv≠0/\px.length=bv)\/(bv≠0/\px.length≠bv):=by omega
   rcases g with g|⟨g,u⟩|⟨g,u⟩
   ·subst g
    rw[if_pos rfl]at n;go_wp2
    go_region_with (refine Calls.mono (p.out _) ?_;rintro x3 k ⟨rfl,a⟩;have m0:=r.out k a;have m1:=i.out k a;have mf:=s.out k a;have f:=hid a;clear a)
    all_goals
     go_wp2_with fail
     refine Calls.mono (Q.out _ (by first|exact f.out|exact f.drew)) ?_;rintro x4 w4 ⟨rfl,E⟩;have L:=hid E;clear E;go_wp2;go_ret2;rw[<-n.out];exact⟨rfl,L.out⟩
   ·rw[if_neg g,if_pos u]at n
    have T:((bv:Int)==0)=false:=bqF (by omega);have V:(((e:Int)+1-(fr:Int))==(bv:Int))=true:=beq_iff_eq.2 (by omega);go_wp2
    go_region_with (refine Calls.mono (p.out _) ?_;rintro x3 k ⟨rfl,a⟩;have m0:=r.out k a;have m1:=i.out k a;have mf:=s.out k a;have f:=hid a;clear a)
    all_goals
     go_wp2;go_quiet (fail);go_wp2;go_ret2;rw[<-n.out];exact⟨rfl,(o.out _ (by first|exact f.out|exact f.drew)).drewN _⟩
   ·rw[if_neg g,if_neg u]at n
    have T:((bv:Int)==0)=false:=bqF (by omega);have V:(((e:Int)+1-(fr:Int))==(bv:Int))=false:=bqF (by omega);have O:=hid (show P=px++q by rw[t.out,<-C];simp);clear C;go_wp2
    go_region_with (refine Calls.mono (p.out _) ?_;rintro x3 k ⟨rfl,a⟩;have m0:=r.out k a;have m1:=i.out k a;have mf:=s.out k a;have f:=hid a;clear a)
    all_goals
     go_wp2;have hS:=o.out _ (by first|exact f.out|exact f.drew);exact⟨⟨px,q,hid hS,n,O⟩,by rw[hS.atOf,hA.out];have:=B0x F.suf;omega⟩
theorem C3z (a:Bool) (k n:Nat) (r:LU8):(A1m a k n r).suf r:=by
 induction k generalizing n r with
 |zero=>exact List.suffix_refl _
 |succ k ih=>
  cases r with
  |nil=>trivial
  |cons c r=>
   rw[A1m];cases B5v c with
   |none=>exact A7u
   |some h=>
    simp only;split
    ·exact A7u
    split
    ·exact A7u
    ·exact(ih _ r).mono (List.suffix_cons c r)
theorem D3m (n:Nat) (q:LU8):(A5b n q).suf q:=by
 cases q with
 |nil=>trivial
 |cons c q=>
  by_cases h:c=92
  ·subst h
   cases q with
   |nil=>rw[C7a];trivial
   |cons c2 q2=>
    by_cases a:c2=117
    ·subst a
     rw[E7c];have:=(C3z true 4 0 q2).mono ((List.suffix_cons 117 q2).trans (List.suffix_cons 92 (117::q2)));cases b:A1m true 4 0 q2 with
     |ok m q3=>
      rw[b]at this;have this:q3<:+92::117::q2:=this
      show q3<:+92::117::q2
      exact this
     |wrong e q3=>rw[b]at this;exact this
     |ended=>trivial
    ·rw[D3j n q2 a]
     exact⟨List.suffix_cons 92 _,by simp⟩
  ·rw[D3i n q h]
   exact A7u
theorem D9y (r:LU8):(A5f r).suf r:=by
 cases r with
 |nil=>trivial
 |cons c r=>
  rw[A5f];cases C4r c with
  |some x=>exact List.suffix_cons c r
  |none=>
   simp only;split
   ·exact A7u
   ·have:=(C3z false 4 0 r).mono (List.suffix_cons c r)
    cases a:A1m false 4 0 r with
    |wrong e q=>rw[a]at this;exact this
    |ended=>trivial
    |ok n q=>
     rw[a]at this;simp only;split
     ·exact this
     ·exact(D3m n q).mono this
theorem D9z {r s q:LU8} (h:A5f r=.ok s q):s.length<=4:=by
 cases r with
 |nil=>cases h
 |cons c r=>
  rw[A5f]at h;cases g:C4r c with
  |some x=>rw[g]at h;cases h;simp
  |none=>
   rw[g]at h;simp only at h;split at h
   ·cases h
   cases d:A1m false 4 0 r with
   |wrong e q=>rw[d]at h;cases h
   |ended=>rw[d]at h;cases h
   |ok n q1=>
    rw[d]at h;simp only at h;split at h
    ·cases h
     exact B7y _
    ·cases q1 with
     |nil=>rw[D6e]at h;cases h
     |cons c1 q1=>
      by_cases a:c1=92
      ·subst a
       cases q1 with
       |nil=>rw[C7a]at h;cases h
       |cons c2 q2=>
        by_cases b:c2=117
        ·subst b
         rw[E7c]at h;cases f:A1m true 4 0 q2 with
         |ok m q3=>
          rw[f]at h;injection h with a b
          rw[<-a];exact B7y _
         |wrong e q3=>rw[f]at h;cases h
         |ended=>rw[f]at h;cases h
        ·rw[D3j n q2 b]at h;cases h
      ·rw[D3i n q1 a]at h;cases h
theorem E0a {a p s q:LU8} (h:A6c a p=.ok s q):s.length+q.length=a.length+p.length:=by
 induction p generalizing a with
 |nil=>cases h
 |cons c r ih=>
  rw[A6c]at h;split at h
  ·cases h
  split at h
  ·cases h
   simp;omega
  ·have:=ih h
   simp at this ⊢;omega
theorem E7g {a p s q:LU8} (h:A6c a p=.ok s q):s≠[]:=by
 induction p generalizing a with
 |nil=>cases h
 |cons c r ih=>
  rw[A6c]at h;split at h
  ·cases h
  split at h
  ·cases h
   simp
  ·exact ih h
theorem F3m {a q:LU8} {t:Tr} (h:Tx0 a t):A1i t (34::q)=.ok a q:=by
 rw[A1i,B3s h.1,A9f,if_neg (by decide),if_neg (by have:=h.2.2;omega),if_pos rfl];simp only;rw[h.2.1]
theorem F3n {b q:LU8} {t:Tr} {c:UInt8} (h:Tx0 b t) (a:c.toNat<32):A1i t (c::q)=.wrong 3 (c::q):=by
 refine A5t ?_;rw[B3s h.1,A9f,if_neg (by rintro rfl;exact absurd a (by decide)),if_neg (by have:=h.2.2;omega),if_neg (by rintro rfl;exact absurd a (by decide)),if_pos a]
theorem F3p {a q:LU8} {t:Tr} {c:UInt8} (h:Tx0 a t) (b:c≠34) (d:¬c.toNat<32) (e:c≠92) (f:c.toNat<128):∃t',Tx0 (a++[c]) t'/\A1i t (c::q)=A1i t' q:=by
 refine⟨⟨t.st,t.made++[c],t.lack,t.lo,t.hi,t.dg,t.code,t.high⟩,⟨h.1,by show t.made++[c]=_;rw[h.2.1],h.2.2⟩,A6u ?_⟩;rw[B3s h.1,A9f,if_neg e,if_neg (by have:=h.2.2;omega),if_neg b,if_neg d,if_pos f]
theorem D6f (B:Nat) (w0 w:World) (l:LU8) (c0:UInt8) (r:LU8) (inn d:Nat) (A:Value) (its:List It) (hl:l.length<=100000000) (h:SC B w0 w l (c0::r) inn d A its 0 false false):
 Calls Tryz.prog 87 #[.pointer (some ⟨B,0,none⟩)] w (D9w B w0 l inn d A its D3k E7d (A1i tr0 r)):=by
 obtain⟨U,hU⟩:∃U,A1i tr0 r=U:=⟨_,rfl⟩;rw[hU];have HU:=hid hU;have a6:=A0c l;have kP:=A0a h.blk (show(A0e l (l.length-(c0::r).length) inn d A 0 false false)[1]? =some (.int .i64 ((l.length-(c0::r).length:Nat):Int))from rfl);have fP:=A0b (j:=1) h.blk;have b2:r.length<=l.length:=by have:=h.at_;simp at this;omega
 have HS:=hid h.step;obtain⟨pP,T⟩:∃pP,l.length-(c0::r).length=pP:=⟨_,rfl⟩;have b1:pP<=100000000:=by omega
 rw[T]at kP HS;clear h hU T;go_enter Tryz.func87,Tryz.ntmps87;go_wp2
 go_loopw [4] (λo wr=>∃a p',o=.string (ofL a)/\Hid (SC B w0 wr l p' inn d A its 0 false false)/\Hid (∃t,Tx0 a t/\A1i t p'=U)/\a.length+4*p'.length<=4*r.length) (λ_ wr=>l.length-atOf wr B)
 case atStart=>exact⟨[],r,rfl,HS,hid ⟨tr0,⟨rfl,rfl,rfl⟩,HU.out⟩,by simp⟩
 case round=>
  clear kP fP;obtain⟨a,p',rfl,P,J,S⟩:=hrel;have b4:=A0c a;cases p' with
  |nil=>
   have HM:=hid (B0y B w0 _ l inn d A its 0 false false P.out);have y:=hid (show U=.ended by obtain⟨t,_,E⟩:=J.out;rw[<-E];rfl)
   go_wp2_with fail
   refine Calls.mono HM.out ?_;rintro x F ⟨rfl,i⟩;have p:=hid i;clear i;go_wp2;go_ret2;rw[y.out];exact⟨rfl,p.out⟩
  |cons c q=>
   have HM:=hid (A7v B w0 _ l c q inn d A its 0 false false P.out);have hA:=hid P.atOf;have b0:=B0x P.suf;have a7:c.toNat<256:=c.toNat_lt;rw[List.length_cons]at S
   go_wp2_with fail
   refine Calls.mono HM.out ?_;rintro x2 F ⟨rfl,Z⟩;have k:SC B w0 F l (c::q) inn d A its 0 false false:=Z▸P.drew;clear Z;obtain⟨a3,hg⟩:=A3i k.suf;have k0:=A0a k.blk (show(A0e l (l.length-(c::q).length) inn d A 0 false false)[0]? =some (.string (ofL l))from rfl);have k1:=A0a k.blk (show(A0e l (l.length-(c::q).length) inn d A 0 false false)[1]? =some (.int .i64 ((l.length-(c::q).length:Nat):Int))from rfl);have f1:=A0b (j:=1) k.blk;have a9:(ofL l)[l.length-(c::q).length]'(by rw[a6];exact a3)=c:=(A1d l _ _).trans hg;have L:=hid k;have a0:=hid (λn ob=>A0a ((k.drewN n).same ((Fr.refl _ _).alloc ob)).blk (show(A0e l (l.length-(c::q).length) inn d A 0 false false)[1]? =some (.int .i64 ((l.length-(c::q).length:Nat):Int))from rfl));have G:=hid (λn ob=>((k.drewN n).same ((Fr.refl _ _).alloc ob)).step);have a1:=hid (λn ob=>A0b (j:=1) ((k.drewN n).same ((Fr.refl _ _).alloc ob)).blk);have a5:=hid (λn=>(k.drewN n).step);have a2:=hid (λn=>A2m B w0 (F.drewN n) l (c::q) inn d A its 0 3 false false (k.drewN n));generalize l.length-(c::q).length=ps at*;clear hg k;by_cases H:c=34
   ·subst H
    have y:=hid (show U=.ok a q by obtain⟨t,g,E⟩:=J.out;rw[<-E];exact F3m g);go_wp2;go_quiet (fail);go_wp2;go_ret2;rw[y.out];exact⟨rfl,a5.out _⟩
   have b5:((c.toNat:Int)==34)=false:=bqF (by have:=A0k H;simp at this;omega);by_cases O:c.toNat<32
   ·have y:=hid (show U=.wrong 3 (c::q) by obtain⟨t,g,E⟩:=J.out;rw[<-E];exact F3n g O)
    go_wp2;go_quiet (fail)
    go_wp2_with fail
    refine Calls.mono (a2.out _) ?_;rintro x K ⟨rfl,i⟩;have p:=hid i;clear i;go_wp2;go_ret2;rw[y.out];exact⟨rfl,p.out⟩
   by_cases I:c=92
   ·subst I
    have z:=hid (λn=>D9x B w0 (F.drewN n) l q inn d A its hl (L.drewN n));have b:=hid (show∃t,Tx0 a t/\(match A5f q with|.ok s q'=>∃m,Tx0 (a++s) m/\A1i t (92::q)=A1i m q'|.wrong e q'=>A1i t (92::q)=.wrong e q'|.ended=>A1i t (92::q)=.ended)/\A1i t (92::q)=U from by obtain⟨t,g,E⟩:=J.out;exact⟨t,g,E3a a t g q,E⟩);have W:=hid (D9y q);cases u:A5f q with
    |wrong e q'=>
     rw[u]at z b;have y:=hid (show U=.wrong e q' by obtain⟨t,_,g,D⟩:=b.out;exact D.symm.trans g);clear u b;go_wp2;go_quiet (fail)
     go_wp2_with fail
     refine Calls.mono (z.out _) ?_;rintro x K ⟨rfl,i⟩;unfold E7d;have p:=hid i;clear i;go_wp2;go_ret2;rw[y.out];exact⟨rfl,p.out⟩
    |ended=>
     rw[u]at z b;have y:=hid (show U=.ended by obtain⟨t,_,g,D⟩:=b.out;exact D.symm.trans g);clear u b;go_wp2;go_quiet (fail)
     go_wp2_with fail
     refine Calls.mono (z.out _) ?_;rintro x K ⟨rfl,i⟩;unfold E7d;have p:=hid i;clear i;go_wp2;go_ret2;rw[y.out];exact⟨rfl,p.out⟩
    |ok s q'=>
     have X:=D9z u;rw[u]at z b W;have a4:q'.length<=q.length:=List.IsSuffix.length_le W.out;have M:=hid (show∃m,Tx0 (a++s) m/\A1i m q'=U by obtain⟨t,_,⟨m,g,D⟩,h3⟩:=b.out;exact⟨m,g,D.symm.trans h3⟩);have Y:=A0c s;have Q:ofL a++ofL s=ofL (a++s):=A0j a s;have f:(a++s).length+4*q'.length<=4*r.length:=by rw[List.length_append];omega
     have C:=hid f;clear u b f;go_wp2;go_quiet (fail)
     go_wp2_with fail
     refine Calls.mono (z.out _) ?_;rintro x K ⟨rfl,i⟩;unfold D3k;have p:=hid i;clear i;go_wp2;exact⟨⟨a++s,q',rfl,p,M,C.out⟩,by rw[p.atOf,hA.out];have:=p.at_;omega⟩
   have b6:((c.toNat:Int)==92)=false:=bqF (by have:=A0k I;simp at this;omega);by_cases N:c.toNat<128
   ·have M:=hid (show∃m,Tx0 (a++[c]) m/\A1i m q=U by obtain⟨t,g,E⟩:=J.out;obtain⟨m,g1,g2⟩:=F3p (q:=q) g H O I N;exact⟨m,g1,g2.symm.trans E⟩)
    have a8:∀n,(convert 65 9 (.slice (some ⟨F.heap.size,0,none⟩) 1 1)).run Tryz.prog ((F.drewN n).alloc (.cells #[.int .u8 (c.toNat:Int)] 5))=.ok (.string (ofL [c])) ((F.drewN n).alloc (.cells #[.int .u8 (c.toNat:Int)] 5)):=λn=>B4x (F.drewN n) [c] #[.int .u8 (c.toNat:Int)] 1 rfl (by omega) rfl
    have Y:=A0c [c];have Q:ofL a++ofL [c]=ofL (a++[c]):=A0j a [c];have f:(a++[c]).length+4*q.length<=4*r.length:=by rw[List.length_append];simp;omega
    have C:=hid f;have ka:=a0.out;have fa:=a1.out;generalize R:ofL [c]=cs at*;clear f R;go_wp2;go_quiet (fail);go_wp2;exact⟨⟨a++[c],q,rfl,hid (G.out _ _),M,C.out⟩,by rw[(G.out _ _).atOf,hA.out];omega⟩
   ·have v:=hid (λn=>C7b B w0 (F.drewN n) l (c::q) inn d A its hl (L.drewN n))
    have b:=hid (show∃t,Tx0 a t/\(match A6c [] (c::q)with|.ok s q'=>∃m,Tx0 (a++s) m/\A1i t (c::q)=A1i m q'|.wrong e q'=>A1i t (c::q)=.wrong e q'|.ended=>A1i t (c::q)=.ended)/\A1i t (c::q)=U from by obtain⟨t,g,E⟩:=J.out;exact⟨t,g,D4q a t g c (by omega) q,E⟩);cases u:A6c [] (c::q)with
    |wrong e q'=>
     rw[u]at v b;have y:=hid (show U=.wrong e q' by obtain⟨t,_,g,D⟩:=b.out;exact D.symm.trans g);clear u b;go_wp2;go_quiet (fail)
     go_wp2_with fail
     refine Calls.mono (v.out _) ?_;rintro x K ⟨rfl,i⟩;unfold E7d;have p:=hid i;clear i;go_wp2;go_ret2;rw[y.out];exact⟨rfl,p.out⟩
    |ended=>
     rw[u]at v b;have y:=hid (show U=.ended by obtain⟨t,_,g,D⟩:=b.out;exact D.symm.trans g);clear u b;go_wp2;go_quiet (fail)
     go_wp2_with fail
     refine Calls.mono (v.out _) ?_;rintro x K ⟨rfl,i⟩;unfold E7d;have p:=hid i;clear i;go_wp2;go_ret2;rw[y.out];exact⟨rfl,p.out⟩
    |ok s q'=>
     have X:=E0a u;simp only[List.length_nil,List.length_cons,Nat.zero_add]at X;have V:s≠[]:=E7g u;have b3:0<s.length:=List.length_pos_iff.2 V;rw[u]at v b;have M:=hid (show∃m,Tx0 (a++s) m/\A1i m q'=U by obtain⟨t,_,⟨m,g,D⟩,h3⟩:=b.out;exact⟨m,g,D.symm.trans h3⟩);have Y:=A0c s;have Q:ofL a++ofL s=ofL (a++s):=A0j a s;have f:(a++s).length+4*q'.length<=4*r.length:=by rw[List.length_append];omega
     have C:=hid f;have a4:q'.length<=q.length:=by omega
     clear u b f V;go_wp2;go_quiet (fail)
     go_wp2_with fail
     refine Calls.mono (v.out _) ?_;rintro x K ⟨rfl,i⟩;unfold D3k;have p:=hid i;clear i;go_wp2;exact⟨⟨a++s,q',rfl,p,M,C.out⟩,by rw[p.atOf,hA.out];have:=p.at_;omega⟩
end Go.Proofs.YtmkkibaacclhnaaGreatDoor
