/-
  Part Str.
-/
import Derived.Test.YtmkkibaacclhnaaGreatDoorNds
import Derived.Lib.Strings
namespace Go.Proofs.YtmkkibaacclhnaaGreatDoor
open Go.RowKit
set_option maxRecDepth 100000
set_option maxHeartbeats 16000000
theorem C4p {k:IntKind} {a b:Int} (h:a=b):Ending.returned (.int k a)=.returned (.int k b):=by rw[h]
theorem F4t {S A:Nat->Prop} {w0 w:World} {l:List (Nat×Nat)} (b N k:Nat) (a:k<=30000) (c:Sm (p2 k*N)) (h:Sx S A w0 w ((b,N)::l)):
 Calls Tryz.prog 114 #[.pointer (some ⟨b,0,none⟩),.int .i64 k] w λe w'=>e=.returned (.tuple #[])/\Sx S A w0 w' ((b,p2 k*N)::l):=B6w b N k a c h
theorem D1a {S A:Nat->Prop} {w0 w:World} {l:List (Nat×Nat)} (b N:Nat) (a:Sm (2*N)) (h:Sx S A w0 w ((b,N)::l)):
 Calls Tryz.prog 114 #[.pointer (some ⟨b,0,none⟩),.int .i64 1] w λe w'=>e=.returned (.tuple #[])/\Sx S A w0 w' ((b,2*N)::l):=B6w b N 1 (by omega) a h
theorem A5a {n k:Nat} (h:n<p2 k) (a:k<=32000):Sm n:=F4s n k a h
theorem E1i {n k:Nat} (h:n<p2 k):A2x n<=k:=B1j n k h
theorem A1x {n j k:Nat} (h:n<p2 k):p2 j*n<p2 (j+k):=by rw[A3x];exact Nat.mul_lt_mul_of_pos_left h (A2y j)
theorem D1b (N M:Nat) (o:0<N) (p:0<M) (j:N<M*p2 1030) (a:Int) (l:a=max ((A2x N:Int)-(A2x M:Int)-52-1) (-1074)):
 (∃sh E:Nat,a+52+1=sh/\a+1074=E/\E<=2100/\sh<=1031/\Pre N M N (p2 sh*M) E/\N<2*(p2 sh*M)/\p2 sh*M<2*N)\/
 (∃k E:Nat,a+52+1= -(k:Int)/\0<k/\k<=1021/\a+1074=E/\E<=2100/\Pre N M (p2 k*N) M E/\p2 k*N<2*M/\((E=0/\p2 k*N<M)\/M<2*(p2 k*N))):=by
 have b:N<p2 (A2x N):=C4h N;have g:p2 (A2x N)<=2*N:=B8s N (by omega);have c:M<p2 (A2x M):=C4h M;have f:p2 (A2x M)<=2*M:=B8s M (by omega)
 have i:A2x N<=A2x M+1030:=by
  refine B1j N _ ?_;have:M*p2 1030<p2 (A2x M)*p2 1030:=Nat.mul_lt_mul_of_pos_right c (A2y _);rw[<-A3x]at this;exact Nat.lt_trans j this
 generalize A2x N=d at*;generalize A2x M=e at*;by_cases n:(d:Int)-e< -1021
 ·right
  have h:=E1h N M d e b f (by omega);exact⟨1021,0,by omega,by omega,by omega,by omega,by omega,h.1,by omega,.inl ⟨rfl,h.2⟩⟩
 ·rcases Nat.lt_or_ge d e with m|m
  ·right
   have h:=D6r N M d e (e-d) b g c f (by omega) (by omega);exact⟨e-d,1021-(e-d),by omega,by omega,by omega,by omega,by omega,h.1,h.2.1,.inr h.2.2⟩
  ·left
   have h:=E9a N M d e (d-e) b g c f (by omega);exact⟨d-e,d-e+1021,by omega,by omega,by omega,by omega,h.1,h.2.1,h.2.2⟩
theorem C1h {S A:Nat->Prop} {w0:World} {l:List (Nat×Nat)} (b N c M:Nat) (w:World) (hN:0<N) (hM:0<M) (T:N<p2 8000) (O:M<p2 8000) (hq:N<M*p2 1030) (h:Sx S A w0 w ((b,N)::(c,M)::l)):
 Calls Tryz.prog 109 #[.pointer (some ⟨b,0,none⟩),.pointer (some ⟨c,0,none⟩)] w λe w'=>∃r:Nat,e=.returned (.int .u64 r)/\Rnd (N*p2 1074) M r/\∃N' M',Sx S A w0 w' ((b,N')::(c,M')::l):=by
 have a4:=D1b N M hN hM hq _ rfl;have HC:Hid _:=a4;have HX:Hid _:=h;have c2:A2x N<=8000:=E1i T;have c5:A2x M<=8000:=E1i O;have HN:Hid (N<p2 8000):=T;have X:Hid (M<p2 8000):=O;clear a4 h T O hq;go_enter Tryz.func109,Tryz.ntmps109
 go_wp2_with fail
 refine(C7q b N (A5a HN.out (by omega)) HX.out).mono ?_;rintro e w' ⟨rfl,rfl⟩
 go_wp2_with fail
 refine(C7q c M (A5a X.out (by omega)) (Sx.swap HX.out)).mono ?_;rintro e w' ⟨rfl,rfl⟩
 go_wp2_with fail
 focus
  obtain⟨G,E,V,e2,hE,a8,Z,s,p⟩:∃G E:Nat,max ((A2x N:Int)-(A2x M:Int)-52-1) (-1074)+52+1=G/\max ((A2x N:Int)-(A2x M:Int)-52-1) (-1074)+1074=E/\E<=2100/\G<=1031/\Pre N M N (p2 G*M) E/\N<2*(p2 G*M)/\p2 G*M<2*N:=by
   rcases HC.out with h|⟨k,E,V,e2,e3,e4,e5,e6,e7,e8⟩
   ·exact h
   ·exfalso;omega
  have hS:Sm (p2 G*M):=A5a (A1x X.out) (by omega);generalize max ((A2x N:Int)-(A2x M:Int)-52-1) (-1074)=sc at*;obtain rfl:sc=(E:Int)-1074:=by omega
  rw[V];refine(F4t c M G (by omega) hS (Sx.swap HX.out)).mono ?_;rintro e w1 ⟨rfl,C⟩;obtain⟨d,a,H1⟩:∃d a,Hid (Sx S A w0 w1 ((b,d)::(c,a)::l)/\Pre N M d a E/\d<2*a/\((E=0/\d<a)\/a<2*d)/\a<p2 9500/\d<p2 9500):=⟨_,_,C.swap,Z,s,.inr p,Nat.lt_of_lt_of_le (A1x X.out) (A2t (by omega)),Nat.lt_of_lt_of_le HN.out (A2t (by omega))⟩;clear C Z s p V e2 hS HC HX HN X a8
 rotate_left
 focus
  obtain⟨k,E,V,b6,b5,e2,hE,Z,s,p⟩:∃k E:Nat,max ((A2x N:Int)-(A2x M:Int)-52-1) (-1074)+52+1= -(k:Int)/\0<k/\k<=1021/\max ((A2x N:Int)-(A2x M:Int)-52-1) (-1074)+1074=E/\E<=2100/\Pre N M (p2 k*N) M E/\p2 k*N<2*M/\((E=0/\p2 k*N<M)\/M<2*(p2 k*N)):=by
   rcases HC.out with⟨G,E,V,e2,hE,a8,Z,s,p⟩|h
   ·exfalso;omega
   ·exact h
  have hS:Sm (p2 k*N):=A5a (A1x HN.out) (by omega);generalize max ((A2x N:Int)-(A2x M:Int)-52-1) (-1074)=sc at*;obtain rfl:sc=(E:Int)-1074:=by omega
  rw[V,Int.neg_neg];refine(F4t b N k (by omega) hS HX.out).mono ?_;rintro e w1 ⟨rfl,C⟩;obtain⟨d,a,H1⟩:∃d a,Hid (Sx S A w0 w1 ((b,d)::(c,a)::l)/\Pre N M d a E/\d<2*a/\((E=0/\d<a)\/a<2*d)/\a<p2 9500/\d<p2 9500):=⟨_,_,C,Z,s,p,Nat.lt_of_lt_of_le X.out (A2t (by omega)),Nat.lt_of_lt_of_le (A1x HN.out) (A2t (by omega))⟩;clear C Z s p V e2 hS HC HX HN X b6 b5
 all_goals
  obtain⟨q1,q2,q3,q4,q5,q6⟩:=H1.out;have z:Hid _:=q1;have HP:Hid _:=q2;have Hlt:Hid _:=q3;have Hbig:Hid _:=q4;have u:Hid _:=q5;have b7:Hid _:=q6;clear q1 q2 q3 q4 q5 q6 H1
  go_wp2_with fail
  refine(A9w b d c a (A5a b7.out (by omega)) (A5a u.out (by omega)) z.out (Sx.swap z.out)).mono ?_;rintro e w2 ⟨r,rfl,a3,b0,c3,c4,mm,rfl⟩;have H:Hid (Sx S A w0 (w1.drewN mm) ((b,d)::(c,a)::l)):=Sx.drewN z.out mm;by_cases K:a<=d
  focus
   have hr:0<=r:=by omega
   clear a3 b0 z
   go_wp2_with fail
   refine(D1a c a (A5a (A1x (j:=1) u.out) (by omega)) (Sx.swap H.out)).mono ?_;rintro e w3 ⟨rfl,a0⟩;have a7:Hid (Sx S A w0 w3 ((b,d)::(c,2*a)::l)):=a0.swap;have a6:Hid (Pre N M d (2*a) (E+1)):=D6q HP.out;have x:Hid (d<2*a):=Hlt.out;have y:Hid (E+1=0\/2*a<=2*d):=.inr (by omega);have Q:Hid (2*a<p2 9600):=Nat.lt_of_lt_of_le (A1x (j:=1) u.out) (A2t (by omega));clear a0 HP Hlt Hbig H K u;go_wp2;rw[show(E:Int)-1074+1=((E+1:Nat):Int)-1074 from by omega];have b9:E+1<=2101:=by omega
   generalize E+1=E2 at*;generalize 2*a=M2 at*
  rotate_left
  focus
   have hr:r<0:=by omega
   clear a3 b0 z;have a7:Hid (Sx S A w0 (w1.drewN mm) ((b,d)::(c,a)::l)):=H.out;have a6:Hid (Pre N M d a E):=HP.out;have x:Hid (d<a):=by show _<_;omega
   have y:Hid (E=0\/a<=2*d):=by rcases Hbig.out with h|h;exact .inl h.1;exact .inr (Nat.le_of_lt h)
   have Q:Hid (a<p2 9600):=Nat.lt_of_lt_of_le u.out (A2t (by omega));clear HP Hlt Hbig H K u;have b9:E<=2101:=by omega
   generalize w1.drewN mm=w3 at*;go_wp2;generalize E=E2 at*;generalize a=M2 at*
  all_goals
   go_loopw [7,37] (λmv i wr=>∃(k m R:Nat),k<=53/\i=.int .i64 k/\mv=.int .u64 m/\Hid (m<p2 k)/\Hid (R<M2)/\Hid (d*p2 k=m*M2+R)/\Sx S A w0 wr ((b,R)::(c,M2)::l)) (λ_ i _=>53-(intOf i).toNat)
   case atStart=>exact⟨0,0,d,by omega,rfl,rfl,(by show _<_;exact A2y 0),x.out,(by show _=_;simp[p2]),a7.out⟩
   case round=>
    obtain⟨k,m,R,hk,rfl,rfl,hm,hR,hD,hx⟩:=hrel;have I:Hid _:=hx;clear hx;have a9:R<p2 9600:=Nat.lt_trans hR.out Q.out;have D:Hid (Sm (2*R)):=A5a (A1x (j:=1) a9) (by omega);have P:Hid (Sm M2):=A5a Q.out (by omega);clear a9;by_cases s:k<53
    ·have c0:m<4503599627370496:=Nat.lt_of_lt_of_le hm.out (A2t (b:=52) (by omega))
     have b3:Hid (d*p2 (k+1)=(2*m)*M2+2*R):=E9b hD.out;have b1:Hid (2*m+1<p2 (k+1)):=by show _<_;rw[A8j];have:=hm.out;omega
     go_wp2_with fail
     refine(D1a b R D.out I.out).mono ?_;rintro e w4 ⟨rfl,F⟩;have o:Hid _:=F;clear F I
     go_wp2_with fail
     refine(A9w b (2*R) c M2 D.out P.out o.out (Sx.swap o.out)).mono ?_;rintro e w5 ⟨Y,rfl,n,g,a5,b4,J,rfl⟩;by_cases W:M2<=2*R
     ·have B:0<=Y:=by omega
      clear n g;have L:Hid (2*R-M2<M2):=by show _<_;have:=hR.out;omega
      have b8:Hid (d*p2 (k+1)=(2*m+1)*M2+(2*R-M2)):=by show _=_;rw[b3.out,Nat.add_mul];omega
      go_wp2_with fail
      refine(D0z b (2*R) c M2 D.out P.out W (Sx.drewN o.out J)).mono ?_;rintro e w6 ⟨rfl,a2⟩;have q:Hid _:=a2;clear a2 o W;go_wp2;go_roundw
      case rel=>exact⟨k+1,2*m+1,2*R-M2,by omega,by go_num,by go_num,b1.out,L.out,b8.out,q.out⟩
      case measure=>simp[intOf];omega
     ·have B:Y<0:=by omega
      clear n g;have L:Hid (2*R<M2):=by show _<_;omega
      have b2:Hid (2*m<p2 (k+1)):=by show _<_;have:=b1.out;omega
      have q:Hid _:=Sx.drewN o.out J;clear o W;go_wp2;go_roundw
      case rel=>exact⟨k+1,2*m,2*R,by omega,by go_num,by go_num,b2.out,L.out,b3.out,q.out⟩
      case measure=>simp[intOf];omega
    ·obtain rfl:k=53:=by omega
     have v:=F6f hM (by have:=hR.out;omega) a6.out hD.out hR.out x.out y.out;have c1:=v.1;have f:Hid _:=v.2;clear v
     go_wp2_with fail
     refine(D1a b R D.out I.out).mono ?_;rintro e w4 ⟨rfl,F⟩;have o:Hid _:=F;clear F I
     go_wp2_with fail
     refine(A9w b (2*R) c M2 D.out P.out o.out (Sx.swap o.out)).mono ?_;rintro e w5 ⟨Y,rfl,n,g,a5,b4,J,rfl⟩;have q:Hid _:=Sx.drewN o.out J;clear o;rcases Nat.lt_trichotomy M2 (2*R)with hc|hc|hc
     ·have B:0<Y:=by omega
      have U:Hid _:=f.out (E2*4503599627370496+m+1) (by rw[if_pos (.inl hc)]);clear n g f hc;go_wp2;go_ret;exact⟨E2*4503599627370496+m+1,C4p (by omega),U.out,_,_,q.out⟩
     ·have B:Y=0:=by omega
      subst B;by_cases t:m % 2=1
      ·have a1:(bits BinOp.and IntKind.u64 (m:Int) 1==1)=true:=by rw[show(1:Int)=((1:Nat):Int)from rfl,u64_and_nat m 1 (by omega) (by omega),nat_mask1,t];rfl
       have U:Hid _:=f.out (E2*4503599627370496+m+1) (by rw[if_pos (.inr ⟨hc.symm,t⟩)]);clear n g f hc t;go_wp2;go_ret;exact⟨E2*4503599627370496+m+1,C4p (by omega),U.out,_,_,q.out⟩
      ·have a1:(bits BinOp.and IntKind.u64 (m:Int) 1==1)=false:=by rw[show(1:Int)=((1:Nat):Int)from rfl,u64_and_nat m 1 (by omega) (by omega),nat_mask1,show m % 2=0 from by omega];rfl
       have U:Hid _:=f.out (E2*4503599627370496+m) (by rw[if_neg (by omega),Nat.add_zero]);clear n g f hc t;go_wp2;go_ret;exact⟨E2*4503599627370496+m,C4p (by omega),U.out,_,_,q.out⟩
     ·have B:Y<0:=by omega
      have U:Hid _:=f.out (E2*4503599627370496+m) (by rw[if_neg (by omega),Nat.add_zero]);clear n g f hc;go_wp2;go_ret;exact⟨E2*4503599627370496+m,C4p (by omega),U.out,_,_,q.out⟩
theorem hid {p:Prop} (h:p):Hid p:=h
theorem A3d (w:World) (a:Array Value) (T j:Nat):(w.alloc (.cells a T)).cell? ⟨w.heap.size,j,none⟩=a[j]? :=by
 have:=heap_alloc_new w (.cells a T);simp only[World.cell?,this];rfl
theorem E1j (k:Nat):p10 k<=p2 (4*k):=E1e k
theorem F6g:p10 309<=p2 1030:=by decide+kernel
theorem E9c (b a cap:Nat) (D:List Nat) (P:Int) (w:World) (C:B0m D) (J:D.length=a) (H:a<=800) (s:a<=cap) (U:b<w.heap.size) (E:C4k w b D) (T: -400<=P) (S:P<=400):
 Calls Tryz.prog 108 #[.agg #[.slice (some ⟨b,0,none⟩) a cap,.int .i64 P]] w λe w'=>∃bo g,e=.returned (.tuple #[.pointer (some ⟨bo,0,none⟩),.pointer (some ⟨g,0,none⟩)])/\
  Sx (λ_=>False) (λ_=>False) w w' [(bo,num D*p10 (P-a).toNat),(g,p10 (a-P).toNat)]:=by
 have k:Hid (num D<p10 a):=by have:=A7i D C;rwa[J]at this
 go_enter Tryz.func108,Tryz.ntmps108
 go_wp2_with fail
 refine(C4n b a cap D _ C J (by omega) s (by simp;omega) ?_).mono ?_
 ·intro j Q
  have:=E j Q;rw[<-this];exact World.cell?_of_block (Below.heap_alloc w _ b U)
 rintro e v ⟨bo,V,rfl,F,u,I,G⟩;have m:Sx (λ_=>False) (λi=>False\/i=w.heap.size) w v [(bo,num D)]:=((Sx.start (A:=λ_=>False) w (λi h=>h.elim)).alloc _).more F u I G;have l:=hid m;have n:v.cell? ⟨w.heap.size,0,none⟩=some (.slice (some ⟨b,0,none⟩) a cap):=(u.cell (p:=⟨w.heap.size,0,none⟩) (by simp) id).trans (A3d _ _ _ _);have r:v.cell? ⟨w.heap.size,1,none⟩=some (.int .i64 P):=(u.cell (p:=⟨w.heap.size,1,none⟩) (by simp) id).trans (A3d _ _ _ _);have o:w.heap.size<v.heap.size:=by have:=u.size;simp at this;omega
 clear F u I G m
 go_wp2_with fail
 refine(B4f 1 (by omega) l.out).mono ?_;rintro e W ⟨g,rfl,q,R,f⟩;have t:=hid q;have L:=(f.cell (p:=⟨w.heap.size,0,none⟩) o id).trans n;have N:=(f.cell (p:=⟨w.heap.size,1,none⟩) o id).trans r;clear q f n r l E;by_cases B:0<=P-a
 ·have z:Sm (num D*p10 (P-a).toNat):=E1f _ 1300 (by omega) (by
   have K:num D*p10 (P-a).toNat<p10 a*p10 (P-a).toNat:=Nat.mul_lt_mul_of_pos_right k.out (A0v _);rw[<-A1h]at K
   exact Nat.lt_of_lt_of_le K (A3r _ _ (by omega)))
  have y:Hid (P-a=((P-a).toNat:Int)):=by show _=_;omega
  have x:Hid ((a-P).toNat=0):=by show _=_;omega
  go_wp2_with fail
  rw[y.out];refine(A9c bo (num D) (P-a).toNat z (by omega) (Sx.swap t.out)).mono ?_;rintro e M ⟨rfl,c⟩;have d:=hid c;clear c;go_wp2;go_ret2;refine⟨bo,g,rfl,?_⟩;rw[x.out];exact Sx.weaken d.out (λi h=>h.elim)
 ·have z:Sm (1*p10 (a-P).toNat):=by rw[Nat.one_mul];exact E1f _ 1300 (by omega) (by
   have O:=A0v (a-P).toNat
   exact Nat.lt_of_lt_of_le (Nat.lt_of_lt_of_le (by omega:p10 (a-P).toNat<p10 (a-P).toNat*10) (Nat.le_of_eq (A1z _).symm)) (A3r _ _ (by omega)))
  have y:Hid (-(P-a)=((a-P).toNat:Int)):=by show _=_;omega
  have x:Hid ((P-a).toNat=0):=by show _=_;omega
  go_wp2_with fail
  rw[y.out];refine(A9c g 1 (a-P).toNat z (by omega) t.out).mono ?_;rintro e M ⟨rfl,c⟩;have d:=hid c;clear c;go_wp2;go_ret2;refine⟨bo,g,rfl,?_⟩;rw[x.out];have:=Sx.weaken (Sx.swap d.out) (A':=λ_=>False) (λi h=>h.elim);simpa[p10]using this
def bs (D:List Nat):List Value:=D.map (λd:Nat=>Value.int .u8 ((48+d:Nat):Int))
def E1k (D:List Nat) (P:Int) (r:Nat):Prop:=
 (D=[]\/P< -323->r=0)/\(D≠[]->¬P< -323->309<P->r=9218868437227405312)/\
 (D≠[]->¬P< -323->¬309<P->Rnd (num D*p10 (P-D.length).toNat*p2 1074) (p10 (D.length-P).toNat) r)
theorem F6h (D:List Nat) (d:Nat) (r:List Nat) (h:D=d::r) (b:d≠0):0<num D:=by
 subst h;have:num (d::r)=num ([d]++r):=rfl;rw[this,A2s];have a:num [d]=d:=by simp[num]
 rw[a];have:=A0v r.length;have:0<d*p10 r.length:=Nat.mul_pos (by omega) this;omega
theorem E9d (D:List Nat) (P:Int) (a:B0m D) (d:P<=309):num D*p10 (P-D.length).toNat<p10 (D.length-P).toNat*p2 1030:=by
 have h:=A7i D a;have e:num D*p10 (P-D.length).toNat<p10 (D.length+(P-D.length).toNat):=by rw[A1h];exact Nat.mul_lt_mul_of_pos_right h (A0v _)
 have b:p10 (D.length+(P-D.length).toNat)<=p10 ((D.length-P).toNat+309):=A3r _ _ (by omega);rw[A1h (D.length-P).toNat 309]at b;have c:=Nat.mul_le_mul_left (p10 (D.length-P).toNat) F6g;omega
theorem D1c (dv:Value) (D:List Nat) (P:Int) (w:World) (z:B0m D) (E:D.length<=800) (p:D.head? ≠some 0) (T: -9000000000000000<=P) (k:D≠[]->P<=309)
 (l:w.ownsRow 0 5 1 dv D.length (bs D)):
 Calls Tryz.prog 62 #[.agg #[dv,.int .i64 P]] w λe w'=>∃r:Nat,e=.returned (.int .u64 r)/\E1k D P r/\Fr (λ_=>False) w w':=by
 rcases List.eq_nil_or_concat D with rfl|⟨i,x,o⟩
 ·obtain⟨n,c,A⟩:∃(a:Option Addr) (c:Nat),dv=.slice a 0 c:=by
   rcases l.2 with⟨h,_⟩|⟨g,c,I,h,_⟩
   ·exact⟨none,0,h⟩
   ·exact⟨_,c,h⟩
  subst A;clear l;go_enter Tryz.func62,Tryz.ntmps62;go_wp2;go_ret;exact⟨0,rfl,⟨λ_=>rfl,λh=>absurd rfl h,λh=>absurd rfl h⟩,(Fr.refl _ _).alloc _⟩
 ·have m:0<D.length:=by rw[o];simp
  have b:D≠[]:=by rintro rfl;simp at m
  have S:=k b;clear k;obtain⟨g,cap,rfl⟩:=A9r l m;have u:=A2a l;have M:((D.length:Int)==0)=false:=by simp;omega
  by_cases H:P< -323
  ·clear l o p
   have G:=hid b;clear b;go_enter Tryz.func62,Tryz.ntmps62;go_wp2;go_ret;exact⟨0,rfl,⟨λ_=>rfl,λ_ h=>absurd H h,λ_ h=>absurd H h⟩,(Fr.refl _ _).alloc _⟩
  ·have L:g<w.heap.size:=(l.lt g rfl).2
   have C:C4k (w.alloc (.cells #[.slice (some ⟨g,0,none⟩) D.length cap,.int .i64 P] 89)) g D:=by
    intro j Q;rw[World.cell?_of_block (w:=w) (Below.heap_alloc w _ g L),l.cellAt j (by omega),bs,List.getElem?_map,List.getElem?_eq_getElem Q];rfl
   have f:0<num D:=by
    cases D with
    |nil=>exact absurd rfl b
    |cons d r=>exact F6h _ d r rfl (by intro e;apply p;simp[e])
   have v:=E9d D P z (by omega);have q:0<num D*p10 (P-D.length).toNat:=Nat.mul_pos f (A0v _)
   have t:num D*p10 (P-D.length).toNat<p2 8000:=by
    have a:num D*p10 (P-D.length).toNat<p10 (D.length+(P-D.length).toNat):=by rw[A1h];exact Nat.mul_lt_mul_of_pos_right (A7i D z) (A0v _)
    exact Nat.lt_of_lt_of_le a (Nat.le_trans (E1j _) (A2t (by omega)))
   have y:p10 (D.length-P).toNat<p2 8000:=by
    have O:=A0v (D.length-P).toNat;have a:p10 (D.length-P).toNat<p10 ((D.length-P).toNat+1):=by rw[A1z];omega
    exact Nat.lt_of_lt_of_le a (Nat.le_trans (E1j _) (A2t (by omega)))
   have V:=hid C;have G:=hid b;have X:=hid q;have R:=hid t;have J:=hid y;have K:=hid v;clear C l p o b f v q t y;go_enter Tryz.func62,Tryz.ntmps62
   go_wp2_with fail
   refine(E9c g D.length cap D P _ z rfl (by omega) u (by simp;omega) V.out (by omega) (by omega)).mono ?_;rintro e Z ⟨bo,U,rfl,F⟩;have N:=hid F;clear F
   go_wp2_with fail
   refine(C1h bo _ U _ _ X.out (A0v _) R.out J.out K.out N.out).mono ?_;rintro e w2 ⟨r,rfl,hr,Y,M',s⟩;have W:=hid hr;have B:=hid s;clear hr s;go_wp2;go_ret;exact⟨r,rfl,⟨λh=>by rcases h with h|h;exact absurd h G.out;exact absurd h (by omega),λ_ _ h=>absurd h (by omega),λ_ _ _=>W.out⟩,((Fr.refl (λ_=>False) w).alloc _).trans (Sx.fr B.out)⟩
def A5p (x:List Nat×Int) (d:Nat):List Nat×Int:=
 if x.1=[]/\d=0 then(x.1,x.2-1)else if x.1.length<768 then(x.1++[d],x.2)else if x.1.length=768/\d≠0 then(x.1++[1],x.2)else x
def A1p (x:List Nat×Int) (ds:List Nat):List Nat×Int:=ds.foldl A5p x
theorem D6s (x:List Nat×Int) (a:List Nat) (d:Nat):A1p x (a++[d])=A5p (A1p x a) d:=by simp[A1p]
theorem A6x (x:List Nat×Int) (a b:List Nat):A1p x (a++b)=A1p (A1p x a) b:=by simp[A1p]
def dig (s:ByteArray):List Nat:=s.data.toList.map (λc=>c.toNat-48)
theorem Tryz.info5:(Tryz.prog.info? 5).map (λi=>(i.zero,i.size,i.bytes))=some (some (.int .u8 0),1,1):=by kernel_rfl
theorem D3w {w:World} {B:Nat} {a b u:Value} {t:TypeId} (h:w.heap[B]? =some (.cells #[a,b] t (0,0))):(w.setCell ⟨B,1,none⟩ u).heap[B]? =some (.cells #[a,u] t (0,0)):=by
 have:=heap_setCell_same w B 1 #[a,b] t u h;simpa using this
theorem D3x {w:World} {B:Nat} {a b u:Value} {t:TypeId} (h:w.heap[B]? =some (.cells #[a,b] t (0,0))):(w.setCell ⟨B,0,none⟩ u).heap[B]? =some (.cells #[u,b] t (0,0)):=by
 have:=heap_setCell_same w B 0 #[a,b] t u h;simpa using this
theorem A4r {w:World} {B:Nat} {a b:Value} {t:TypeId} (h:w.heap[B]? =some (.cells #[a,b] t (0,0))):w.cell? ⟨B,0,none⟩=some a:=by simp[World.cell?,h]
theorem A4s {w:World} {B:Nat} {a b:Value} {t:TypeId} (h:w.heap[B]? =some (.cells #[a,b] t (0,0))):w.cell? ⟨B,1,none⟩=some b:=by simp[World.cell?,h]
theorem A9d {w:World} {B j:Nat} {a b:Value} {t:TypeId} (h:w.heap[B]? =some (.cells #[a,b] t (0,0))):w.frozen? ⟨B,j,none⟩=false:=by simp[World.frozen?,h]
theorem A2i {w:World} {base:Nat} {dv:Value} {n:Nat} {xs:List Value} {B T:Nat} {a:Array Value} (h:w.ownsRow base 5 1 dv n xs) (b:w.heap[B]? =some (.cells a T (0,0))) (c:T≠5):dv.ownBlock≠some B:=by
 intro e;rcases h.2 with⟨rfl,_⟩|⟨g,cap,d,rfl,_,f,_⟩
 ·simp[Value.ownBlock]at e
 ·simp[Value.ownBlock]at e
  subst e;rw[f]at b;simp at b;exact c b.2.symm
theorem A3y {w:World} {base:Nat} {dv:Value} {n:Nat} {xs:List Value} (h:w.ownsRow base 5 1 dv n xs):∃a cap,dv=.slice a n cap:=by
 rcases h.2 with⟨rfl,rfl⟩|⟨g,cap,b,rfl,_⟩
 ·exact⟨none,0,rfl⟩
 ·exact⟨_,cap,rfl⟩
theorem E9e (x:List Nat×Int) (d:Nat) (h:x.1.length<=769):(A5p x d).1.length<=769:=by
 unfold A5p;split
 ·exact h
 ·split
  ·simp;omega
  ·split
   ·simp;omega
   ·exact h
theorem G0f (x:List Nat×Int) (d:Nat):x.2-1<=(A5p x d).2/\(A5p x d).2<=x.2:=by
 unfold A5p;split
 ·simp only;omega
 ·split
  ·simp only;omega
  ·split
   ·simp only;omega
   ·omega
theorem D3y {w:World} {base:Nat} {v:Value} {D:List Nat} {z:Int} {d:Nat} (h:w.ownsRow base 5 1 v (D.length+1) (bs D++[.int .u8 z])) (a:z=((48+d:Nat):Int)):w.ownsRow base 5 1 v (D++[d]).length (bs (D++[d])):=by
 subst a;have e:bs (D++[d])=bs D++[.int .u8 ((48+d:Nat):Int)]:=by simp[bs]
 rw[e,List.length_append];exact h
def ofL (l:LU8):ByteArray:=⟨l.toArray⟩
theorem A0c (l:LU8):(ofL l).size=l.length:=by simp[ofL,ByteArray.size]
theorem A0r (l:LU8) (a b:Nat):(ofL l).extract a b=ofL ((l.take b).drop a):=by
 apply ByteArray.ext;simp[ofL,List.drop_take]
theorem A0y (l:LU8):(ofL l).toList=l:=by rw[Lib.toList_data];simp[ofL]
theorem A1d (l:LU8) (k:Nat) (h:k<(ofL l).size):(ofL l)[k]=l[k]'(by rw[A0c]at h;exact h):=by
 show(ofL l).data[k]=_
 simp[ofL]
def isD (c:UInt8):Bool:=decide (48<=c.toNat/\c.toNat<=57)
theorem B8w (a:List Nat) (d L:Nat):min (min (num a) L*10+d) L=min (num (a++[d])) L:=by
 rw[A4x];omega
def E0q (_ _:ByteArray) (en:Bool) (ex:ByteArray):Int:=if en then-(num (dig ex):Int)else(num (dig ex):Int)
theorem E1m (x:List Nat×Int) (d:Nat) (c:d<=9) (h:B0m x.1) (b:x.1.head? ≠some 0):B0m (A5p x d).1/\(A5p x d).1.head? ≠some 0:=by
 unfold A5p;split
 ·exact⟨h,b⟩
 ·rename_i h1
  split
  ·refine⟨?_,?_⟩
   ·intro y a;simp only[List.mem_append,List.mem_singleton]at a;rcases a with a|a
    ·exact h y a
    ·omega
   ·obtain⟨D,P⟩:=x
    cases D with
    |nil=>simp at h1 ⊢;exact h1
    |cons y r=>simpa using b
  ·split
   ·rename_i h2
    refine⟨?_,?_⟩
    ·intro y a;simp only[List.mem_append,List.mem_singleton]at a;rcases a with a|a
     ·exact h y a
     ·omega
    ·obtain⟨D,P⟩:=x
     cases D with
     |nil=>simp at h2
     |cons y r=>simpa using b
   ·exact⟨h,b⟩
def A2z (neg:Bool) (r:Nat):Nat×Nat:=if 9218868437227405312<=r then(0,6)else(if neg then r+9223372036854775808 else r,0)
theorem F6i (r:Nat) (h:r<9223372036854775808):bits BinOp.or IntKind.u64 (r:Int) 9223372036854775808=((r+9223372036854775808:Nat):Int):=by
 rw[show(9223372036854775808:Int)=((9223372036854775808:Nat):Int)from rfl,u64_or_nat r _ (by omega) (by omega),Nat.or_comm,nat_join 63 _ r (by decide) h,Nat.add_comm]
end Go.Proofs.YtmkkibaacclhnaaGreatDoor
