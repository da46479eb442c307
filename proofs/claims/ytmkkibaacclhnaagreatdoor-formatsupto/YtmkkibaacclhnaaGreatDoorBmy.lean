/-
  Part Bmy.
-/
import Derived.Test.YtmkkibaacclhnaaGreatDoorXcd
import Derived.Test.YtmkkibaacclhnaaGreatDoorXfg
namespace Go.Proofs.YtmkkibaacclhnaaGreatDoor
open Go.RowKit
set_option maxRecDepth 100000
set_option maxHeartbeats 16000000
theorem A1b {w:World} {B:Nat} {a b c:Value} {t:TypeId} (h:w.heap[B]? =some (.cells #[a,b,c] t (0,0))):w.cell? ⟨B,0,none⟩=some a:=by simp[World.cell?,h]
theorem A0t {w:World} {B:Nat} {a b c:Value} {t:TypeId} (h:w.heap[B]? =some (.cells #[a,b,c] t (0,0))):w.cell? ⟨B,1,none⟩=some b:=by simp[World.cell?,h]
theorem A1c {w:World} {B:Nat} {a b c:Value} {t:TypeId} (h:w.heap[B]? =some (.cells #[a,b,c] t (0,0))):w.cell? ⟨B,2,none⟩=some c:=by simp[World.cell?,h]
theorem A0u {w:World} {B j:Nat} {a b c:Value} {t:TypeId} (h:w.heap[B]? =some (.cells #[a,b,c] t (0,0))):w.frozen? ⟨B,j,none⟩=false:=by simp[World.frozen?,h]
theorem A2u {w:World} {B:Nat} {a b c u:Value} {t:TypeId} (h:w.heap[B]? =some (.cells #[a,b,c] t (0,0))):(w.setCell ⟨B,0,none⟩ u).heap[B]? =some (.cells #[u,b,c] t (0,0)):=by
 have:=heap_setCell_same w B 0 #[a,b,c] t u h;simpa using this
theorem A1s {w:World} {B:Nat} {a b c u:Value} {t:TypeId} (h:w.heap[B]? =some (.cells #[a,b,c] t (0,0))):(w.setCell ⟨B,1,none⟩ u).heap[B]? =some (.cells #[a,u,c] t (0,0)):=by
 have:=heap_setCell_same w B 1 #[a,b,c] t u h;simpa using this
theorem A1y {w:World} {B:Nat} {a b c u:Value} {t:TypeId} (h:w.heap[B]? =some (.cells #[a,b,c] t (0,0))):(w.setCell ⟨B,2,none⟩ u).heap[B]? =some (.cells #[a,b,u] t (0,0)):=by
 have:=heap_setCell_same w B 2 #[a,b,c] t u h;simpa using this
def A1g (l:LU8):LU8:=l.dropWhile (λc=>decide (c=48))
theorem C9n (l:LU8):(A1g l).length<=l.length:=(List.dropWhile_sublist _).length_le
theorem E5j (l:LU8):(A2e l).length<=l.length:=by
 unfold A2e;rw[List.length_reverse];have:=(List.dropWhile_sublist (l:=l.reverse) (λc=>decide (c=48))).length_le;simpa using this
def C0i (w:World) (a:Addr):Nat:=match w.cell? a with|some (.string s)=>s.size|_=>0
theorem A8e {w:World} {a:Addr} {m:LU8} (h:w.cell? a=some (.string (ofL m))):C0i w a=m.length:=by unfold C0i;rw[h];exact A0c m
def C6k (w:World) (mi:Bool) (m:LU8) (Y:Int) (wr:World):Prop:=
 wr.heap[w.heap.size]? =some (.cells #[.bool mi,.string (ofL m),.int .i64 Y] 194 (0,0))/\wr.heap[w.heap.size+1]? =some (.cells #[.bool false,.string ⟨#[]⟩,.int .i64 0] 194 (0,0))/\Fr (λ_=>False) w wr
theorem B5d (g:Bool) (l:LU8) (X:Int) (w:World) (hl:l.length<=4000000) (h1: -2000000000000<=X) (h2:X<=2000000000000):
 Calls Tryz.prog 181 #[.agg #[.bool g,.string (ofL l),.int .i64 X]] w λe w'=>e=.returned (.agg #[.bool g,.string (ofL (A2e (A1g l))),.int .i64 (X+((A1g l).length:Int)-((A2e (A1g l)).length:Int))])/\Fr (λ_=>False) w w':=by
 have a1:=C9n l;go_enter Tryz.func181,Tryz.ntmps181;go_wp2
 have M:=hid (show C6k w g l X ((w.alloc (.cells #[.bool g,.string (ofL l),.int .i64 X] 194)).alloc (.cells #[.bool false,.string ⟨#[]⟩,.int .i64 0] 194))from
  ⟨(Below.heap_alloc _ _ _ (by simp)).trans (heap_alloc_new w _),by have:=heap_alloc_new (w.alloc (.cells #[.bool g,.string (ofL l),.int .i64 X] 194)) (.cells #[.bool false,.string ⟨#[]⟩,.int .i64 0] 194);rwa[World.size_alloc]at this,((Fr.refl _ w).alloc _).alloc _⟩)
 go_loopw [] (λwr=>∃m,Hid (C6k w g m X wr)/\m.length<=l.length/\Hid (A1g m=A1g l)) (λwr=>C0i wr ⟨w.heap.size,1,none⟩)
 case atStart=>exact⟨l,M,Nat.le_refl _,hid rfl⟩
 case round=>
  clear M;obtain⟨m,z,J,G⟩:=hrel;obtain⟨b,d,A⟩:=z.out;have f:=A0t b;have x:=A0u (j:=1) b;have n:=hid A;have k:=hid d;have i:=hid b;have K:=A0c m;clear b d A z;cases m with
  |nil=>
   have h:(ofL []).toList.isEmpty=true:=by rw[A0y];rfl
   have t:=G;go_wp2;have t:Hid ([]=A1g l):=by rw[Hid,<-G.out];rfl
   clear G h
   go_loopw [] (λwr=>∃(p:LU8) (Y:Int),Hid (C6k w g p Y wr)/\p.length<=l.length/\Hid (A2e p=A2e (A1g l))/\Y+(p.length:Int)=X+((A1g l).length:Int)) (λwr=>C0i wr ⟨w.heap.size,1,none⟩)
   case atStart=>exact⟨_,X,hid ⟨i.out,k.out,n.out⟩,J,hid (by rw[t.out]),by rw[t.out]⟩
   case round=>
    clear i k n f x K t J;obtain⟨p,Y,z,y,o,H⟩:=hrel;obtain⟨b,d,A⟩:=z.out;have f:=A0t b;have T:=A1c b;have x:=A0u (j:=1) b;have U:=A0u (j:=2) b;have n:=hid A;have k:=hid d;have i:=hid b;clear z
    have F:A2e p=p->∀wx,wx=wr->bodyPost Tryz.prog Tryz.f181 (λe w'=>e=.returned (.agg #[.bool g,.string (ofL (A2e (A1g l))),.int .i64 (X+((A1g l).length:Int)-((A2e (A1g l)).length:Int))])/\Fr (λ_=>False) w w') Exit.ret
     {tmps:=#[],defers:=[]} wx->True:=λ_ _ _ _=>trivial
    clear F;have S:=A1b b;have d0:=A1b d;have d1:=A0t d;have d2:=A1c d;have O:=A0u (j:=0) d;have P:=A0u (j:=1) d;have Q:=A0u (j:=2) d;clear b d A;rcases List.eq_nil_or_concat p with rfl|⟨q,c,rfl⟩
    ·have h:(ofL []).toList.isEmpty=true:=by rw[A0y];rfl
     have B:=hid (show A2e (A1g l)=[] by rw[<-o.out];rfl);go_wp2;have a:=A1y (u:=.int .i64 Y) (A1s (u:=.string (ofL ([]))) (A2u (u:=.bool g) k.out));have C:=A1b a;have D:=A0t a;have E:=A1c a;refine bodyPost_ret (v:=.agg #[.bool g,.string (ofL ([])),.int .i64 Y]) (by simp[results,Tryz.results181,go_sem,C,D,E]) rfl ?_;refine⟨?_,((n.setCell (.inr (by simp)) _).setCell (.inr (by simp)) _).setCell (.inr (by simp)) _⟩;rw[B.out];congr 4;simp at*;omega
    ·rw[List.concat_eq_append]at o y H f i
     have K:(ofL (q++[c])).size=q.length+1:=by rw[A0c];simp
     have h:(ofL (q++[c])).toList.isEmpty=false:=by rw[A0y];simp
     have V:(ofL (q++[c]))[q.length]'(by omega)=c:=by rw[A1d];simp
     have hx:(ofL (q++[c])).extract 0 q.length=ofL q:=by rw[A0r];simp
     have W:q.length<=4000000:=by simp at y;omega
     have L:q.length+1<=l.length:=by simpa using y
     have R:Y+((q.length:Int)+1)=X+((A1g l).length:Int):=by simpa using H
     by_cases s:c=48
     ·subst s
      have N:=hid (show A2e q=A2e (A1g l)from by rw[<-o.out,B6i]);clear o y H;go_wp2;go_roundw
      case rel=>
       refine⟨q,Y+1,hid ⟨A1y (A1s i.out),(Below.heap_setCell _ _ _ _ (by simp)).trans ((Below.heap_setCell _ _ _ _ (by simp)).trans k.out),(n.setCell (.inr (Nat.le_refl _)) _).setCell (.inr (Nat.le_refl _)) _⟩,by omega,N,by omega⟩
      case measure=>
       rw[A8e (A0t (A1y (A1s i.out))),A8e f];simp
     ·have I:((c.toNat:Int)==48)=false:=bqF (by have:=A2w s;simp at this;omega)
      have B:=hid (show A2e (A1g l)=q++[c]from by rw[<-o.out,C6d _ _ s]);clear o;go_wp2;have a:=A1y (u:=.int .i64 Y) (A1s (u:=.string (ofL (q++[c]))) (A2u (u:=.bool g) k.out));have C:=A1b a;have D:=A0t a;have E:=A1c a;refine bodyPost_ret (v:=.agg #[.bool g,.string (ofL (q++[c])),.int .i64 Y]) (by simp[results,Tryz.results181,go_sem,C,D,E]) rfl ?_;refine⟨?_,((n.setCell (.inr (by simp)) _).setCell (.inr (by simp)) _).setCell (.inr (by simp)) _⟩;rw[B.out];congr 4;simp at*;omega
  |cons c r=>
   have h:(ofL (c::r)).toList.isEmpty=false:=by rw[A0y];rfl
   have V:(ofL (c::r))[0]'(by rw[A0c];simp)=c:=by rw[A1d];rfl
   have hx:(ofL (c::r)).extract 1 (r.length+1)=ofL r:=by rw[A0r];simp
   have a0:(ofL (c::r)).size=r.length+1:=by rw[K];simp
   have Z:r.length+1<=l.length:=by simpa using J
   by_cases s:c=48
   ·subst s
    have t:=hid (show A1g r=A1g l from by rw[<-G.out];rfl);clear K G J;go_wp2;go_roundw
    case rel=>exact⟨r,hid ⟨A1s i.out,(Below.heap_setCell _ _ _ _ (by simp)).trans k.out,n.setCell (.inr (Nat.le_refl _)) _⟩,by omega,t⟩
    case measure=>rw[A8e (A0t (A1s i.out)),A8e f];simp
   ·have I:((c.toNat:Int)==48)=false:=bqF (by have:=A2w s;simp at this;omega)
    have t:=hid (show c::r=A1g l from by rw[<-G.out,A1g,List.dropWhile_cons,if_neg (by simpa using s)]);clear G;go_wp2;clear h V hx a0 Z I
    go_loopw [] (λwr=>∃(p:LU8) (Y:Int),Hid (C6k w g p Y wr)/\p.length<=l.length/\Hid (A2e p=A2e (A1g l))/\Y+(p.length:Int)=X+((A1g l).length:Int)) (λwr=>C0i wr ⟨w.heap.size,1,none⟩)
    case atStart=>exact⟨_,X,hid ⟨i.out,k.out,n.out⟩,J,hid (by rw[t.out]),by rw[t.out]⟩
    case round=>
     clear i k n f x K t J;obtain⟨p,Y,z,y,o,H⟩:=hrel;obtain⟨b,d,A⟩:=z.out;have f:=A0t b;have T:=A1c b;have x:=A0u (j:=1) b;have U:=A0u (j:=2) b;have n:=hid A;have k:=hid d;have i:=hid b;clear z
     have F:A2e p=p->∀wx,wx=wr->bodyPost Tryz.prog Tryz.f181 (λe w'=>e=.returned (.agg #[.bool g,.string (ofL (A2e (A1g l))),.int .i64 (X+((A1g l).length:Int)-((A2e (A1g l)).length:Int))])/\Fr (λ_=>False) w w') Exit.ret
      {tmps:=#[],defers:=[]} wx->True:=λ_ _ _ _=>trivial
     clear F;have S:=A1b b;have d0:=A1b d;have d1:=A0t d;have d2:=A1c d;have O:=A0u (j:=0) d;have P:=A0u (j:=1) d;have Q:=A0u (j:=2) d;clear b d A;rcases List.eq_nil_or_concat p with rfl|⟨q,c,rfl⟩
     ·have h:(ofL []).toList.isEmpty=true:=by rw[A0y];rfl
      have B:=hid (show A2e (A1g l)=[] by rw[<-o.out];rfl);go_wp2;have a:=A1y (u:=.int .i64 Y) (A1s (u:=.string (ofL ([]))) (A2u (u:=.bool g) k.out));have C:=A1b a;have D:=A0t a;have E:=A1c a;refine bodyPost_ret (v:=.agg #[.bool g,.string (ofL ([])),.int .i64 Y]) (by simp[results,Tryz.results181,go_sem,C,D,E]) rfl ?_;refine⟨?_,((n.setCell (.inr (by simp)) _).setCell (.inr (by simp)) _).setCell (.inr (by simp)) _⟩;rw[B.out];congr 4;simp at*;omega
     ·rw[List.concat_eq_append]at o y H f i
      have K:(ofL (q++[c])).size=q.length+1:=by rw[A0c];simp
      have h:(ofL (q++[c])).toList.isEmpty=false:=by rw[A0y];simp
      have V:(ofL (q++[c]))[q.length]'(by omega)=c:=by rw[A1d];simp
      have hx:(ofL (q++[c])).extract 0 q.length=ofL q:=by rw[A0r];simp
      have W:q.length<=4000000:=by simp at y;omega
      have L:q.length+1<=l.length:=by simpa using y
      have R:Y+((q.length:Int)+1)=X+((A1g l).length:Int):=by simpa using H
      by_cases s:c=48
      ·subst s
       have N:=hid (show A2e q=A2e (A1g l)from by rw[<-o.out,B6i]);clear o y H;go_wp2;go_roundw
       case rel=>
        refine⟨q,Y+1,hid ⟨A1y (A1s i.out),(Below.heap_setCell _ _ _ _ (by simp)).trans ((Below.heap_setCell _ _ _ _ (by simp)).trans k.out),(n.setCell (.inr (Nat.le_refl _)) _).setCell (.inr (Nat.le_refl _)) _⟩,by omega,N,by omega⟩
       case measure=>
        rw[A8e (A0t (A1y (A1s i.out))),A8e f];simp
      ·have I:((c.toNat:Int)==48)=false:=bqF (by have:=A2w s;simp at this;omega)
       have B:=hid (show A2e (A1g l)=q++[c]from by rw[<-o.out,C6d _ _ s]);clear o;go_wp2;have a:=A1y (u:=.int .i64 Y) (A1s (u:=.string (ofL (q++[c]))) (A2u (u:=.bool g) k.out));have C:=A1b a;have D:=A0t a;have E:=A1c a;refine bodyPost_ret (v:=.agg #[.bool g,.string (ofL (q++[c])),.int .i64 Y]) (by simp[results,Tryz.results181,go_sem,C,D,E]) rfl ?_;refine⟨?_,((n.setCell (.inr (by simp)) _).setCell (.inr (by simp)) _).setCell (.inr (by simp)) _⟩;rw[B.out];congr 4;simp at*;omega
def TK (K:Nat) (q:Int):Nat:=p10 (q+K).toNat*p2 1074
theorem F5m (K:Nat) (q:Int):0<TK K q:=Nat.mul_pos (A0v _) (A2y _)
theorem B6k (K:Nat) (q:Int) (h: -(K:Int)<=q):TK K (q+1)=10*TK K q:=by
 unfold TK;rw[show(q+1+(K:Int)).toNat=(q+K).toNat+1 by omega,A1z,Nat.mul_comm (p10 _) 10,Nat.mul_assoc]
theorem E5k (K:Nat) (q:Int) (j:Nat) (h: -(K:Int)<=q):TK K (q+j)=p10 j*TK K q:=by
 unfold TK;rw[show(q+j+(K:Int)).toNat=j+(q+K).toNat by omega,A1h,Nat.mul_assoc]
theorem F7z (K:Nat) {q r:Int} (h:q<=r):TK K q<=TK K r:=Nat.mul_le_mul_right _ (A3r _ _ (by omega))
theorem E5m (K:Nat) (m c:Nat) (q:Int) (h: -(K:Int)<=q):CLe m c q↔c*TK K q<=p10 K*V m:=by
 unfold CLe TK;have f:=A0v (K-(-q).toNat);have d:p10 (q+K).toNat=p10 q.toNat*p10 (K-(-q).toNat):=by rw[<-A1h];congr 1;omega
 have e:p10 K=p10 (-q).toNat*p10 (K-(-q).toNat):=by rw[<-A1h];congr 1;omega
 rw[d,e];generalize p10 (K-(-q).toNat)=z at*;generalize p10 q.toNat=a;generalize p10 (-q).toNat=b;generalize p2 1074=s;rw[show c*(a*z*s)=c*a*s*z by simp only[Nat.mul_left_comm,Nat.mul_comm],show b*z*V m=b*V m*z from Nat.mul_right_comm ..];exact(Nat.mul_le_mul_right_iff f).symm
theorem F1w (K:Nat) (c:Nat) (q:Int) (n:Nat) (h: -(K:Int)<=q):A3u c q n↔Rnd (c*TK K q) (p10 K) n:=by
 have e:p10 q.toNat*p10 K=p10 (q+K).toNat*p10 (-q).toNat:=by rw[<-A1h,<-A1h];congr 1;omega
 have a:c*pP q*p10 K=c*TK K q*p10 (-q).toNat:=by
  unfold pP TK;rw[show c*(p10 q.toNat*p2 1074)*p10 K=c*p2 1074*(p10 q.toNat*p10 K) by simp only[Nat.mul_assoc,Nat.mul_left_comm,Nat.mul_comm],e];simp only[Nat.mul_assoc,Nat.mul_left_comm,Nat.mul_comm]
 exact⟨Rnd.cross (A0v _) (A0v _) a,Rnd.cross (A0v _) (A0v _) a.symm⟩
def InV (v gl gh:Nat) (e:Prop) (z:Nat):Prop:=(2*v<2*z+gl\/(2*v=2*z+gl/\e))/\(2*z<2*v+gh\/(2*z=2*v+gh/\e))
theorem D5g (P z n:Nat) (d:n≠0):Rnd z P n↔InV (P*V n) (P*A7j n) (P*A7d n) (n % 2=0) z:=by
 have f:=C4w n d;have g:=B4h n;have h:mid (n-1)*P+P*A7j n=2*(P*V n):=by rw[Nat.mul_comm _ P,<-Nat.mul_add,f,Nat.mul_left_comm]
 have e:mid n*P=2*(P*V n)+P*A7d n:=by rw[Nat.mul_comm _ P,g,Nat.mul_add,Nat.mul_left_comm]
 unfold Rnd InV;rw[e];generalize P*V n=v at*;generalize P*A7j n=gl at*;generalize P*A7d n=gh at*;generalize mid (n-1)*P=ml at*;constructor
 ·rintro⟨a,b⟩
  refine⟨?_,b⟩;rcases a with a|a|⟨a,c⟩
  ·exact absurd a d
  ·left;omega
  ·right;exact⟨by omega,c⟩
 ·rintro⟨a,b⟩
  refine⟨?_,b⟩;rcases a with a|⟨a,c⟩
  ·right;left;omega
  ·right;right;exact⟨by omega,c⟩
def C1z (v c t:Nat):Prop:=2*v<2*(c*t)+t\/(2*v=2*(c*t)+t/\c % 2=0)
def Pk (v gl gh:Nat) (e:Prop) (c t D:Nat):Prop:=
 (InV v gl gh e (c*t)/\(¬InV v gl gh e (c*t+t)\/C1z v c t)/\D=c)\/(InV v gl gh e (c*t+t)/\(¬InV v gl gh e (c*t)\/¬C1z v c t)/\D=c+1)
theorem Inv.floorT {n c:Nat} {b:Int} {R L H U:Nat} (K:Nat) (h:Inv n c b R L H U) (g: -(K:Int)<=b):(c*U+R)*TK K b=p10 K*V n*U:=by
 have e:p10 b.toNat*p10 K=p10 (b+K).toNat*p10 (-b).toNat:=by rw[<-A1h,<-A1h];congr 1;omega
 have f:=h.a;unfold pP pQ at f;refine Nat.eq_of_mul_eq_mul_right (A0v (-b).toNat) ?_;unfold TK;generalize p2 1074=s at*;generalize c*U+R=d at*;rw[show d*(p10 (b+K).toNat*s)*p10 (-b).toNat=d*s*(p10 (b+K).toNat*p10 (-b).toNat) by simp only[Nat.mul_assoc,Nat.mul_left_comm,Nat.mul_comm],<-e];rw[show d*s*(p10 b.toNat*p10 K)=d*(p10 b.toNat*s)*p10 K by simp only[Nat.mul_assoc,Nat.mul_left_comm,Nat.mul_comm],f];simp only[Nat.mul_assoc,Nat.mul_left_comm,Nat.mul_comm]
theorem Inv.floor {n b:Nat} {d:Int} {R L H U:Nat} (K:Nat) (h:Inv n b d R L H U) (l: -(K:Int)<=d):
 b*TK K d<=p10 K*V n/\p10 K*V n<b*TK K d+TK K d/\(D4c b R U=true↔C1z (p10 K*V n) b (TK K d)):=by
 have e:=h.floorT K l;have hr:=h.r;have k:=h.upos;have j:=F5m K d;unfold C1z;generalize TK K d=t at*;generalize p10 K*V n=v at*;have q:b*t*U+R*t=v*U:=by rw[<-e,Nat.add_mul,Nat.mul_right_comm]
 have m:R*t<U*t:=Nat.mul_lt_mul_of_pos_right hr j;have s:U*t=t*U:=Nat.mul_comm ..;refine⟨?_,?_,?_⟩
 ·refine Nat.le_of_mul_le_mul_right (c:=U) ?_ k
  omega
 ·refine Nat.lt_of_mul_lt_mul_right (a:=U) ?_
  rw[Nat.add_mul];omega
 ·have o:R<U-R↔2*v<2*(b*t)+t:=by
   have f:R<U-R↔2*R<U:=by omega
   have g:2*R<U↔2*R*t<U*t:=(Nat.mul_lt_mul_right j).symm;have i:2*v<2*(b*t)+t↔2*v*U<(2*(b*t)+t)*U:=(Nat.mul_lt_mul_right k).symm;rw[f,g,i,Nat.add_mul,Nat.mul_assoc 2 v,Nat.mul_assoc 2 (b*t),Nat.mul_assoc 2 R];omega
  have p:R=U-R↔2*v=2*(b*t)+t:=by
   have f:R=U-R↔2*R=U:=by omega
   have g:2*R=U↔2*R*t=U*t:=(Nat.mul_left_inj (by omega)).symm;have i:2*v=2*(b*t)+t↔2*v*U=(2*(b*t)+t)*U:=(Nat.mul_left_inj (by omega)).symm;rw[f,g,i,Nat.add_mul,Nat.mul_assoc 2 v,Nat.mul_assoc 2 (b*t),Nat.mul_assoc 2 R];omega
  unfold D4c;simp only[Bool.or_eq_true,Bool.and_eq_true,decide_eq_true_eq,o,p]
theorem B1e.pk {n D:Nat} {a:Int} (K:Nat) (h:B1e n D a) (e:n≠0) (i: -(K:Int)<=a):
 ∃b,b*TK K a<=p10 K*V n/\p10 K*V n<b*TK K a+TK K a/\Pk (p10 K*V n) (p10 K*A7j n) (p10 K*A7d n) (n % 2=0) b (TK K a) D/\
  (b=0\/∀c,¬InV (p10 K*V n) (p10 K*A7j n) (p10 K*A7d n) (n % 2=0) (c*TK K (a+1))):=by
 obtain⟨b,R,L,H,U,g,d,j⟩:=h;obtain⟨k,l,m⟩:=g.floor K i
 have r:wi R L (ev n)=true↔InV (p10 K*V n) (p10 K*A7j n) (p10 K*A7d n) (n % 2=0) (b*TK K a):=by
  rw[<-D5g _ _ _ e,<-F1w K b a n i,g.low e (Nat.le_refl _),Nat.sub_self,Nat.zero_mul,Nat.add_zero]
 have s:wi (U-R) H (ev n)=true↔InV (p10 K*V n) (p10 K*A7j n) (p10 K*A7d n) (n % 2=0) (b*TK K a+TK K a):=by
  rw[<-D5g _ _ _ e,show b*TK K a+TK K a=(b+1)*TK K a from(Nat.succ_mul _ _).symm,<-F1w K (b+1) a n i,g.high e (Nat.lt_succ_self _),show b+1-b=1 by omega,Nat.one_mul]
 refine⟨b,k,l,?_,?_⟩
 ·unfold Pk
  rw[<-r,<-s,<-m];unfold A6y at d;cases o:wi R L (ev n)<;>cases p:wi (U-R) H (ev n)<;>rw[o,p]at d<;>simp only at d
  ·simp at d
  ·simp at d;right;simp[d]
  ·simp at d;left;simp[d]
  ·cases q:D4c b R U<;>rw[q]at d<;>simp at d
   ·right;simp[d]
   ·left;simp[d]
 ·rcases j with f|f
  ·exact .inl f
  ·right
   intro c;rw[<-D5g _ _ _ e,<-F1w K c (a+1) n (by omega)];exact f.none e c
theorem G4i (n:Nat) (l:n≠0):A7j n<=A7d n/\0<A7j n/\V n<=9007199254740992*A7j n/\A7d n<=V n/\(V n<100*A7d n->V n=n/\A7d n=1):=by
 have j:=B1n n;have c:=C4u n l;have k:=B1a n;obtain⟨g,o⟩:=B1m n;have q:=A2y (A0w n).2;unfold B2w at c;rw[k,j];have f:1<=(A0w n).1:=by omega
 have a:p2 (A0w n).2<=(A0w n).1*p2 (A0w n).2:=Nat.le_mul_of_pos_left _ f;have m:(A0w n).1*p2 (A0w n).2<=9007199254740992*p2 (A0w n).2:=Nat.mul_le_mul_right _ (by omega)
 have b:(A0w n).1*p2 (A0w n).2<100*p2 (A0w n).2->(A0w n).1*p2 (A0w n).2=n/\p2 (A0w n).2=1:=by
  intro h;have p:=Nat.lt_of_mul_lt_mul_right h;have i:(A0w n).2=0:=by omega
  rw[i]at g ⊢;rw[show p2 0=1 from rfl];omega
 by_cases d:(A0w n).1=4503599627370496/\0<(A0w n).2
 ·rw[if_pos d]at c
  have e:(A0w n).1*p2 (A0w n).2=4503599627370496*p2 (A0w n).2:=by rw[d.1]
  refine⟨by omega,by omega,by omega,a,b⟩
 ·rw[if_neg d]at c
  refine⟨by omega,by omega,by omega,a,b⟩
theorem G4j:19*p2 1074<4*p10 324:=by decide+kernel
theorem G5e {K n:Nat} {x:Int} (p:324<=K) (k: -(K:Int)<=x) (q:TK K x<=p10 K) (s:p10 K*n<10*TK K x) (j:0<n):∃y,0<y/\TK K x=y*p2 1074/\p10 K=y*p10 324:=by
 obtain⟨l,m,_⟩:=G0q;have r:=A2y 1074;have e:p10 K=p10 (K-324)*p10 324:=by rw[<-A1h];congr 1;omega
 have g:∀a:Nat,p10 (K-324+a)=p10 a*p10 (K-324):=by intro a;rw[A1h,Nat.mul_comm]
 have f:=A0v (K-324)
 have c:x= -324:=by
  rcases Int.lt_trichotomy x (-324)with h|h|h
  ·exfalso
   have d:10*TK K x<=p10 (K-324)*p2 1074:=by
    rw[<-B6k K x k];unfold TK;exact Nat.mul_le_mul_right _ (A3r _ _ (by omega))
   have o:p10 K<=p10 K*n:=Nat.le_mul_of_pos_right _ j;have b:p10 (K-324)*p10 324<p10 (K-324)*p2 1074:=by omega
   have i:=Nat.lt_of_mul_lt_mul_left b;omega
  ·exact h
  ·exfalso
   have d:p10 (K-324+1)*p2 1074<=TK K x:=by
    unfold TK;exact Nat.mul_le_mul_right _ (A3r _ _ (by omega))
   rw[g,show p10 1=10 from rfl]at d
   have b:p10 (K-324)*(10*p2 1074)<=p10 (K-324)*p10 324:=by
    rw[<-e,Nat.mul_left_comm,<-Nat.mul_assoc];omega
   have i:=Nat.le_of_mul_le_mul_left b f;omega
 refine⟨p10 (K-324),f,?_,e⟩;unfold TK;rw[c,show((-324:Int)+K).toNat=K-324 by omega]
theorem E5n {K n c:Nat} {x:Int} (p:n≠0) (v:324<=K) (z: -(K:Int)<=x) (j:p10 K*V n<10*TK K x) (d:c*TK K x<=p10 K*V n) (i:p10 K*V n<c*TK K x+TK K x)
 (o:InV (p10 K*V n) (p10 K*A7j n) (p10 K*A7d n) (n % 2=0) (10*TK K x)):
 c=9/\¬(InV (p10 K*V n) (p10 K*A7j n) (p10 K*A7d n) (n % 2=0) (9*TK K x)/\C1z (p10 K*V n) 9 (TK K x)):=by
 obtain⟨C,P,Q,R,D⟩:=G4i n p;obtain⟨J,L,M⟩:=G0q;have O:=G4j;have T:=A2y 1074;have S:=A0v K;have U:=F5m K x
 have b:20*TK K x<=2*(p10 K*V n)+p10 K*A7d n:=by
  rcases o.2 with h|⟨h,_⟩<;>omega
 have e:p10 K*V n<10*(p10 K*A7d n)->V n=n/\A7d n=1:=by
  intro h;refine D ?_;have:p10 K*V n<p10 K*(10*A7d n):=by rw[Nat.mul_left_comm];exact h
  have:=Nat.lt_of_mul_lt_mul_left this;omega
 have w:c<10:=by
  rcases Nat.lt_or_ge c 10 with h|h
  ·exact h
  ·have:=Nat.mul_le_mul_right (TK K x) h
   omega
 have u:c=9:=by
  rcases Nat.lt_or_ge c 9 with h|h
  ·exfalso
   have f:p10 K*V n<9*TK K x:=by
    have:(c+1)*TK K x<=9*TK K x:=Nat.mul_le_mul_right _ (by omega);rw[Nat.add_mul,Nat.one_mul]at this;omega
   obtain⟨l,m⟩:=e (by omega);rw[l]at b f;rw[m]at b;obtain⟨y,k,r,t⟩:=G5e v z (by omega) (by omega) (Nat.pos_of_ne_zero p);rw[r,t]at f b;clear o d i j;generalize p2 1074=s at*;generalize p10 324=N at*;rw[Nat.mul_left_comm,Nat.mul_assoc y]at f;have G:N*n<9*s:=Nat.lt_of_mul_lt_mul_left f
   have H:20*s<=2*(N*n)+N:=by
    refine Nat.le_of_mul_le_mul_left (c:=y) ?_ k;rw[Nat.mul_add,Nat.mul_left_comm y 20,Nat.mul_left_comm y 2,<-Nat.mul_assoc y N];omega
   have I:n<=2:=by
    rcases Nat.lt_or_ge 2 n with g|g
    ·have:N*3<=N*n:=Nat.mul_le_mul_left _ g
     omega
    ·exact g
   have:n=1\/n=2:=by omega
   rcases this with rfl|rfl<;>omega
  ·omega
 refine⟨u,?_⟩;rintro⟨A,B⟩
 have F:2*(p10 K*V n)<=18*TK K x+p10 K*A7j n:=by
  rcases A.1 with h|⟨h,_⟩<;>omega
 have q:2*(p10 K*V n)<=19*TK K x:=by
  rcases B with h|⟨h,_⟩<;>omega
 have E:p10 K*A7j n<=p10 K*A7d n:=Nat.mul_le_mul_left _ C;obtain⟨l,m⟩:=e (by omega);rw[u]at d;rw[l]at q d j F b;rw[m]at b E;obtain⟨y,k,r,t⟩:=G5e v z (by omega) (by omega) (Nat.pos_of_ne_zero p);rw[r,t]at j d q;clear o A B i;generalize p2 1074=s at*;generalize p10 324=N at*
 have G:N*n<10*s:=by
  refine Nat.lt_of_mul_lt_mul_left (a:=y) ?_;rw[Nat.mul_left_comm y 10,<-Nat.mul_assoc y N];exact j
 have H:9*s<=N*n:=by
  refine Nat.le_of_mul_le_mul_left (c:=y) ?_ k;rw[Nat.mul_left_comm y 9,<-Nat.mul_assoc y N];exact d
 have W:2*(N*n)<=19*s:=by
  refine Nat.le_of_mul_le_mul_left (c:=y) ?_ k;rw[Nat.mul_left_comm y 19,Nat.mul_left_comm y 2,<-Nat.mul_assoc y N];exact q
 have I:n<=2:=by
  rcases Nat.lt_or_ge 2 n with g|g
  ·have:N*3<=N*n:=Nat.mul_le_mul_left _ g
   omega
  ·exact g
 have:n=1\/n=2:=by omega
 rcases this with rfl|rfl<;>omega
theorem G2b:p10 16=10000000000000000:=by decide+kernel
theorem F5n {K n c:Nat} {x:Int} (k:n≠0) (l: -(K:Int)<=x-16) (s:TK K x<=p10 K*V n) (g:c*TK K (x-16)<=p10 K*V n) (i:p10 K*V n<c*TK K (x-16)+TK K (x-16)):
 (C1z (p10 K*V n) c (TK K (x-16))->InV (p10 K*V n) (p10 K*A7j n) (p10 K*A7d n) (n % 2=0) (c*TK K (x-16)))/\
 (¬C1z (p10 K*V n) c (TK K (x-16))->InV (p10 K*V n) (p10 K*A7j n) (p10 K*A7d n) (n % 2=0) (c*TK K (x-16)+TK K (x-16))):=by
 obtain⟨a,b,d,m,o⟩:=G4i n k;have f:=A0v K
 have e:TK K x=10000000000000000*TK K (x-16):=by
  rw[<-G2b,<-E5k K (x-16) 16 l];congr 1;omega
 have p:p10 K*A7j n<=p10 K*A7d n:=Nat.mul_le_mul_left _ a;have q:0<p10 K*A7j n:=Nat.mul_pos f b;have r:p10 K*V n<=9007199254740992*(p10 K*A7j n):=by rw[Nat.mul_left_comm];exact Nat.mul_le_mul_left _ d
 unfold C1z InV;generalize TK K (x-16)=t at*;generalize p10 K*V n=v at*;generalize p10 K*A7j n=gl at*;generalize p10 K*A7d n=gh at*;generalize c*t=z at*;have j:t<gl:=by omega
 constructor
 ·intro h
  exact⟨.inl (by rcases h with h|⟨h,_⟩<;>omega),.inl (by omega)⟩
 ·intro h
  have:2*z+t<=2*v:=by
   rcases Nat.lt_or_ge (2*v) (2*z+t)with h3|h3
   ·exact absurd (Or.inl h3) h
   ·exact h3
  exact⟨.inl (by omega),.inl (by omega)⟩
theorem InV.mul {v b a:Nat} {e:Prop} {c t d p:Nat} (f:d=p*t) (h:InV v b a e (c*d)):InV v b a e (c*p*t):=by
 rwa[Nat.mul_assoc,<-f]
theorem D8q {v t a b:Nat} (c:a*t<=v) (d:v<a*t+t) (e:b*t<=v) (f:v<b*t+t):a=b:=by
 rcases Nat.lt_trichotomy a b with h|h|h
 ·exfalso
  have:(a+1)*t<=b*t:=Nat.mul_le_mul_right _ h;rw[Nat.add_mul,Nat.one_mul]at this;omega
 ·exact h
 ·exfalso
  have:(b+1)*t<=a*t:=Nat.mul_le_mul_right _ h;rw[Nat.add_mul,Nat.one_mul]at this;omega
theorem B1e.where_ {n D K:Nat} {f x:Int} {c:Nat->Nat} (h:B1e n D f) (r:n≠0) (Q: -(K:Int)<=f) (R: -(K:Int)<=x-16) (I:TK K x<=p10 K*V n) (Z:p10 K*V n<10*TK K x)
 (z:∀j:Nat,1<=j->j<=17->c j*TK K (x+1-j)<=p10 K*V n/\p10 K*V n<c j*TK K (x+1-j)+TK K (x+1-j)):
 (D=1/\f=x+1/\InV (p10 K*V n) (p10 K*A7j n) (p10 K*A7d n) (n % 2=0) (10*TK K x))\/
 ∃k:Nat,1<=k/\k<=17/\f=x+1-k/\Pk (p10 K*V n) (p10 K*A7j n) (p10 K*A7d n) (n % 2=0) (c k) (TK K (x+1-k)) D/\
  ∀j:Nat,1<=j->j<k->∀d,¬InV (p10 K*V n) (p10 K*A7j n) (p10 K*A7d n) (n % 2=0) (d*TK K (x+1-j)):=by
 obtain⟨w,y,o,g,t⟩:=h.pk K r Q;obtain⟨G,W,X,H,Y⟩:=G4i n r;have L:=A0v K;have M:p10 K*A7d n<=p10 K*V n:=Nat.mul_le_mul_left _ H;by_cases p:w=0
 ·left
  subst p;rw[Nat.zero_mul,Nat.zero_add]at o
  have S:¬InV (p10 K*V n) (p10 K*A7j n) (p10 K*A7d n) (n % 2=0) (0*TK K f):=by
   rw[Nat.zero_mul];have:p10 K*A7j n<=p10 K*A7d n:=Nat.mul_le_mul_left _ G;have:=Nat.mul_pos L (show 0<V n by omega);rintro⟨a,_⟩;rcases a with a|⟨a,_⟩<;>omega
  rcases g with⟨a,_⟩|⟨a,_,b⟩
  ·exact absurd a S
  ·rw[Nat.zero_mul,Nat.zero_add]at a
   have u:x+1<=f:=by
    rcases Int.lt_or_le f (x+1)with h|h
    ·have:=F7z K (show f<=x by omega);omega
    ·exact h
   have v:f<=x+1:=by
    rcases Int.lt_or_le (x+1) f with h|h
    ·have C:=F7z K (show x+2<=f by omega)
     have E:=B6k K (x+1) (by omega);have F:=B6k K x (by omega);rw[show x+1+1=x+2 by omega]at E;have:2*TK K f<=2*(p10 K*V n)+p10 K*A7d n:=by rcases a.2 with h|⟨h,_⟩<;>omega
     omega
    ·exact h
   have e:f=x+1:=by omega
   rw[e,B6k K x (by omega)]at a;exact⟨b,e,a⟩
 ·right
  have s:=t.resolve_left p;have N:TK K f<=w*TK K f:=Nat.le_mul_of_pos_left _ (Nat.pos_of_ne_zero p)
  have u:f<=x:=by
   rcases Int.lt_or_le x f with h|h
   ·have C:=F7z K (show x+1<=f by omega)
    have F:=B6k K x (by omega);omega
   ·exact h
  have i:∀q:Int,f<q->∀d,¬InV (p10 K*V n) (p10 K*A7j n) (p10 K*A7d n) (n % 2=0) (d*TK K q):=by
   intro q hq d J;have e:=E5k K (f+1) (q-(f+1)).toNat (by omega);rw[show f+1+((q-(f+1)).toNat:Int)=q by omega]at e;exact s _ (J.mul e)
  have v:x-16<=f:=by
   rcases Int.lt_or_le f (x-16)with h|h
   ·exfalso
    obtain⟨l,m⟩:=z 17 (by omega) (by omega);rw[show x+1-((17:Nat):Int)=x-16 by omega]at l m;obtain⟨T,U⟩:=F5n r R I l m;by_cases B:C1z (p10 K*V n) (c 17) (TK K (x-16))
    ·exact i _ h _ (T B)
    ·have:=U B
     rw[show c 17*TK K (x-16)+TK K (x-16)=(c 17+1)*TK K (x-16)from(Nat.succ_mul _ _).symm]at this;exact i _ h _ this
   ·exact h
  obtain⟨k,A⟩:∃k:Nat,f=x+1-k:=⟨(x+1-f).toNat,by omega⟩;obtain⟨l,m⟩:=z k (by omega) (by omega);rw[A]at g y o;have:=D8q y o l m;rw[this]at g;refine⟨k,by omega,by omega,A,g,?_⟩;intro j O P d;exact i _ (by omega) d
theorem C9p (c t:Nat):c*t+t=(c+1)*t:=(Nat.succ_mul _ _).symm
theorem Pk.some {v d b:Nat} {e:Prop} {c t D:Nat} (h:Pk v d b e c t D):InV v d b e (c*t)\/InV v d b e (c*t+t):=by
 rcases h with⟨a,_⟩|⟨a,_⟩
 ·exact .inl a
 ·exact .inr a
theorem B1e.ref {n D K i:Nat} {q x:Int} {c:Nat->Nat} (h:B1e n D q) (B:n≠0) (M:324<=K) (R: -(K:Int)<=q) (H: -(K:Int)<=x-16) (F:TK K x<=p10 K*V n) (G:p10 K*V n<10*TK K x)
 (z:∀j:Nat,1<=j->j<=17->c j*TK K (x+1-j)<=p10 K*V n/\p10 K*V n<c j*TK K (x+1-j)+TK K (x+1-j)) (u:1<=i) (O:i<=17)
 (v:∀j:Nat,1<=j->j<i->¬InV (p10 K*V n) (p10 K*A7j n) (p10 K*A7d n) (n % 2=0) (c j*TK K (x+1-j))/\¬InV (p10 K*V n) (p10 K*A7j n) (p10 K*A7d n) (n % 2=0) (c j*TK K (x+1-j)+TK K (x+1-j))):
 (InV (p10 K*V n) (p10 K*A7j n) (p10 K*A7d n) (n % 2=0) (c i*TK K (x+1-i))->(¬InV (p10 K*V n) (p10 K*A7j n) (p10 K*A7d n) (n % 2=0) (c i*TK K (x+1-i)+TK K (x+1-i))\/C1z (p10 K*V n) (c i) (TK K (x+1-i)))->c i=D/\x+1-i=q)/\
 (InV (p10 K*V n) (p10 K*A7j n) (p10 K*A7d n) (n % 2=0) (c i*TK K (x+1-i)+TK K (x+1-i))->(¬InV (p10 K*V n) (p10 K*A7j n) (p10 K*A7d n) (n % 2=0) (c i*TK K (x+1-i))\/¬C1z (p10 K*V n) (c i) (TK K (x+1-i)))->(c i+1=D/\x+1-i=q)\/(i=1/\c i=9/\D=1/\q=x+1))/\
 (i=17->(C1z (p10 K*V n) (c i) (TK K (x-16))->c i=D/\x-16=q)/\(¬C1z (p10 K*V n) (c i) (TK K (x-16))->c i+1=D/\x-16=q)):=by
 rcases h.where_ B R H F G z with⟨L,d,y⟩|⟨k,A,Q,d,g,f⟩
 ·obtain⟨r,s⟩:=z 1 (by omega) (by omega)
  rw[show x+1-((1:Nat):Int)=x by omega]at r s;obtain⟨E,w⟩:=E5n B M (by omega) G r s y
  have N:i=1:=by
   rcases Nat.lt_or_ge 1 i with h|h
   ·exfalso
    have:=(v 1 (by omega) h).2;rw[show x+1-((1:Nat):Int)=x by omega,E,C9p]at this;exact this y
   ·omega
  subst N;rw[show x+1-((1:Nat):Int)=x by omega,E];refine⟨λa b=>?_,λa b=>.inr ⟨rfl,rfl,L,d⟩,λh=>absurd h (by omega)⟩;exfalso;rcases b with b|b
  ·rw[C9p]at b;exact b y
  ·exact w ⟨a,b⟩
 ·have l:(InV (p10 K*V n) (p10 K*A7j n) (p10 K*A7d n) (n % 2=0) (c i*TK K (x+1-i))\/InV (p10 K*V n) (p10 K*A7j n) (p10 K*A7d n) (n % 2=0) (c i*TK K (x+1-i)+TK K (x+1-i)))->i=k:=by
   intro C;rcases Nat.lt_trichotomy i k with h|h|h
   ·exfalso
    rcases C with a|a
    ·exact f i u h _ a
    ·rw[C9p]at a;exact f i u h _ a
   ·exact h
   ·exfalso
    have:=v k A h;rcases g.some with a|a
    ·exact this.1 a
    ·exact this.2 a
  refine⟨λa b=>?_,λa b=>?_,λh=>?_⟩
  ·have e:=l (.inl a)
   subst e;rcases g with⟨o,p2,m⟩|⟨o,p2,m⟩
   ·exact⟨m.symm,d.symm⟩
   ·exfalso
    rcases p2 with p2|p2
    ·exact p2 a
    ·rcases b with b|b
     ·exact b o
     ·exact p2 b
  ·left
   have e:=l (.inr a);subst e;rcases g with⟨o,p2,m⟩|⟨o,p2,m⟩
   ·exfalso
    rcases b with b|b
    ·exact b o
    ·rcases p2 with p2|p2
     ·exact p2 a
     ·exact b p2
   ·exact⟨m.symm,d.symm⟩
  ·subst h
   have t:x+1-((17:Nat):Int)=x-16:=by omega
   obtain⟨r,s⟩:=z 17 (by omega) (by omega);rw[t]at r s l;obtain⟨I,J⟩:=F5n B H F r s
   have P:k=17:=by
    by_cases p:C1z (p10 K*V n) (c 17) (TK K (x-16))
    ·exact(l (.inl (I p))).symm
    ·exact(l (.inr (J p))).symm
   subst P;rw[t]at g d;refine⟨λp=>?_,λp=>?_⟩
   ·rcases g with⟨o,p2,m⟩|⟨o,p2,m⟩
    ·exact⟨m.symm,d.symm⟩
    ·exfalso
     rcases p2 with p2|p2
     ·exact p2 (I p)
     ·exact p2 p
   ·rcases g with⟨o,p2,m⟩|⟨o,p2,m⟩
    ·exfalso
     rcases p2 with p2|p2
     ·exact p2 (J p)
     ·exact p p2
    ·exact⟨m.symm,d.symm⟩
theorem E5p {P:LU8->Prop} (b:P []) (h:∀a x,P a->P (a++[x])) (l:LU8):P l:=by
 rw[<-List.reverse_reverse l];generalize l.reverse=r
 induction r with
 |nil=>exact b
 |cons c r ih=>rw[List.reverse_cons];exact h _ _ ih
theorem G2c {l:LU8} (b:A4h l) (m:l≠[]) (f:l.head? ≠some 48):l=dgs (num (dv l)):=by
 refine E5p (P:=λl=>A4h l->l≠[]->l.head? ≠some 48->l=dgs (num (dv l))) ?_ ?_ l b m f
 ·intro _ h;exact absurd rfl h
 ·intro l c n b _ f
  have i:isD c=true:=b c (by simp);have j:A4h l:=λx hx=>b x (by simp[hx])
  unfold isD at i;simp at i
  have g:c=UInt8.ofNat (48+(c.toNat-48)):=by
   apply UInt8.toNat_inj.1;rw[A3s _ (by omega)];omega
  have en:num (dv (l++[c]))=num (dv l)*10+(c.toNat-48):=by
   rw[A4d]
   show num (dv l++[c.toNat-48])=_
   rw[A4x]
  rw[en];by_cases d:l=[]
  ·subst d
   rw[show num (dv [])=0 from rfl,A6a (by omega),Nat.zero_mul,Nat.zero_add,<-g];rfl
  ·have a:l.head? ≠some 48:=by rwa[C5f d]at f
   have e:=n j d a
   have k:1<=num (dv l):=by
    have:=E2m l j d a;have:=A0v (l.length-1);omega
   rw[A9h (by omega),show(num (dv l)*10+(c.toNat-48))/10=num (dv l) by omega,show(num (dv l)*10+(c.toNat-48)) % 10=c.toNat-48 by omega,<-e,<-g]
theorem C9q (D:Nat) (a:D≠0):A1g (dgs D)=dgs D:=by
 have:=E9y D a;unfold A1g;cases h:dgs D with
 |nil=>rfl
 |cons c r=>
  rw[h]at this;rw[List.dropWhile_cons,if_neg];simpa using this
theorem D8r {l:LU8} (h:l.getLast? ≠some 48):A2e l=l:=by
 unfold A2e;cases hr:l.reverse with
 |nil=>rw[List.dropWhile_nil,<-hr,List.reverse_reverse]
 |cons c r=>
  have:c≠48:=by
   intro e;apply h;rw[List.getLast?_eq_head?_reverse,hr,e];rfl
  rw[List.dropWhile_cons,if_neg (by simpa using this),<-hr,List.reverse_reverse]
theorem F1t.take {m:Nat} {l:LU8} {x:Int} (K:Nat) (f: -(K:Int)<=x-16) (h:F1t m l 17 (x-16)) (j:Nat) (n:1<=j) (o:j<=17):
 num (dv (l.take j))*TK K (x+1-j)<=p10 K*V m/\p10 K*V m<num (dv (l.take j))*TK K (x+1-j)+TK K (x+1-j):=by
 obtain⟨k,d,b,a⟩:=h;rw[E5m K _ _ _ f]at b a
 have e:TK K (x+1-j)=p10 (17-j)*TK K (x-16):=by
  rw[<-E5k K (x-16) (17-j) f];congr 1;omega
 have i:num (dv l)=num (dv (l.take j))*p10 (17-j)+num (dv (l.drop j)):=by
  conv=>lhs;rw[<-List.take_append_drop j l,A4d,A2s]
  rw[A3e,List.length_drop,d]
 have hr:num (dv (l.drop j))<p10 (17-j):=by
  have:=A7i _ (k.drop j).digs;rwa[A3e,List.length_drop,d]at this
 rw[e];generalize num (dv (l.take j))=c at*;generalize num (dv (l.drop j))=r at*;generalize p10 (17-j)=p at*;generalize TK K (x-16)=t at*;have g:c*(p*t)=c*p*t:=(Nat.mul_assoc ..).symm;rw[g];rw[i]at b a;constructor
 ·refine Nat.le_trans (Nat.mul_le_mul_right t (Nat.le_add_right _ r)) b
 ·rw[<-Nat.add_mul]
  refine Nat.lt_of_lt_of_le (Nat.lt_of_not_le a) (Nat.mul_le_mul_right t ?_);omega
end Go.Proofs.YtmkkibaacclhnaaGreatDoor
