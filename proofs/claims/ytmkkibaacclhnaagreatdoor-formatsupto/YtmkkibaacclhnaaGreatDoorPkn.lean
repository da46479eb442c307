/-
  Part Pkn.
-/
import Derived.Test.YtmkkibaacclhnaaGreatDoorSrb
import Derived.Deep.LoopGhost
namespace Go.Proofs.YtmkkibaacclhnaaGreatDoor
open Go.RowKit
set_option maxRecDepth 100000
set_option maxHeartbeats 16000000
theorem D4b (k:Nat):p2 (3*k)<=p10 k:=by
 unfold p2 p10;rw[Nat.pow_mul];exact Nat.pow_le_pow_left (by omega) k
theorem lt5 {x:Nat} (h:x<=10*p2 3000):x<p2 5000*10:=by
 have e:p2 5000=p2 2000*p2 3000:=by rw[<-A3x]
 have a:2<=p2 2000:=Nat.le_trans (by decide:2<=p2 1) (A2t (by omega));have b:=Nat.mul_le_mul_right (p2 3000) a;have c:=A2y 3000;omega
def A8w (p:Int) (X:Nat):Nat:=X*p10 (-p).toNat
def B7z (p:Int) (k U:Nat):Nat:=U*p10 p.toNat*p10 k
theorem St.alloc {A:Nat->Prop} {w0 w:World} {B b:Nat} {f:Int} {R L H U e d g c:Nat} {a:Bool} (h:St A w0 w B b f R L H U e d g c a) (o:Obj):St (λi=>A i\/i=w.heap.size) w0 (w.alloc o) B b f R L H U e d g c a:=
 ⟨(Below.heap_alloc w o B (lt_of_block h.sv)).trans h.sv,h.sx.alloc o,.inl h.inA,h.new⟩
theorem St.weaken {A A':Nat->Prop} {w0 w:World} {B b:Nat} {d:Int} {R L H U f c g e:Nat} {a:Bool} (h:St A w0 w B b d R L H U f c g e a) (k:∀i,A' i->A i) (j:A' B):St A' w0 w B b d R L H U f c g e a:=
 ⟨h.sv,h.sx.weaken k,j,h.new⟩
theorem E1y (a:Int) (b: -33200000<=a) (c:a<=33200000): -332<=a.tdiv 100000/\a.tdiv 100000<=332:=by
 by_cases h:0<=a
 ·rw[Int.tdiv_eq_ediv_of_nonneg h];omega
 ·have e:a= -(-a):=by omega
  rw[e,Int.neg_tdiv,Int.tdiv_eq_ediv_of_nonneg (by omega)];omega
theorem A4b {w0 w:World} {B dg:Nat} {pw:Int} {R L H U br bl bh J:Nat} {j:Bool} (z:Int) (e6: -1100<=z) (e5:z<=1100) (hU:0<U) (hR:R<p2 1400) (hL:L<p2 1400) (hH:H<p2 1400) (d1:U<p2 1400) (h:St (λi=>i=B) w0 w B dg pw R L H U br bl bh J j) (p:Int) (hp:p=(z*30103).tdiv 100000):
 Calls Tryz.prog 115 #[.pointer (some ⟨B,0,none⟩),.int .i64 z] w λe w'=>e=.returned (.tuple #[])/\∃k:Nat,k<=2000/\A8w p R<B7z p k U/\B7z p k U<p2 5000*10/\St (λi=>i=B) w0 w' B dg (p+k) (A8w p R) (A8w p L) (A8w p H) (B7z p k U) br bl bh J j:=by
 have c6:=E1y (z*30103) (by omega) (by omega);rw[<-hp]at c6;obtain⟨e7,e0⟩:=c6
 have d0:∀X,X<p2 1400->∀q:Nat,q<=332->X*p10 q<p2 3000:=by
  intro X hX q hq;have a:X*p10 q<p2 1400*p10 q:=Nat.mul_lt_mul_of_pos_right hX (A0v _);have b:p2 1400*p10 q<=p2 1400*p2 (4*q):=Nat.mul_le_mul_left _ (E1j q);rw[<-A3x]at b;exact Nat.lt_of_lt_of_le a (Nat.le_trans b (A2t (by omega)))
 have a3:St (λi=>i=B\/i=w.heap.size) w0 ((w.setCell ⟨B,1,none⟩ (.int .i64 p)).alloc (.cells #[.pointer (some ⟨B,0,none⟩)] 137)) B dg p R L H U br bl bh J j:=by
  have:=(h.set1 p).alloc (.cells #[.pointer (some ⟨B,0,none⟩)] 137);simpa[World.setCell]using this
 have a5:((w.setCell ⟨B,1,none⟩ (.int .i64 p)).alloc (.cells #[.pointer (some ⟨B,0,none⟩)] 137)).heap[w.heap.size]? =some (.cells #[.pointer (some ⟨B,0,none⟩)] 137 (0,0)):=by
  have:=heap_alloc_new (w.setCell ⟨B,1,none⟩ (.int .i64 p)) (.cells #[.pointer (some ⟨B,0,none⟩)] 137);simpa[World.setCell]using this
 have HP:=hid hp;have K:=hid d0;have HR:=hid hR;have HL:=hid hL;have HH:=hid hH;have HU:=hid d1;have t:=hid a3;have e8:=lt_of_block h.sv;have a0:=h.sv.cells.2.1;have c4:=h.sv.cells.2.2.2.2.2.2.2 1;have o:=hid a5;clear d0 a3 h hR hL hH d1 hp a5;go_enter Tryz.func115,Tryz.ntmps115;have a2:w.heap.size≠B:=by omega
 by_cases a8:0<=p
 ·have a7:decide ((0:Int)<=(z*30103).tdiv 100000)=true:=by rw[<-HP.out];simpa using a8
  go_wp2_with fail
  rw[<-HP.out];generalize (w.setCell ⟨B,1,none⟩ (.int .i64 p)).alloc (.cells #[.pointer (some ⟨B,0,none⟩)] 137)=w1 at*;generalize w.heap.size=bx at*;clear a0 c4 a7 HP;obtain⟨n,rfl⟩:=Int.eq_ofNat_of_zero_le a8;have a9:=cell_of_one o.out;have a0:=t.sv.cells.2.1;have c1:=t.sv.cells.2.2.2.2.2.1;have b5:=K.out U HU.out n (by omega);have c3:Hid (Sm (U*p10 n)):=A5a b5 (by omega);have b3:=hid b5;have u:Hid (R<p2 3000):=Nat.lt_of_lt_of_le HR.out (A2t (by omega));have b7:Hid (0<U*p10 n):=Nat.mul_pos hU (A0v n);clear b5
  go_region_with (go_at_call 161;refine(A9g J U n c3.out (by omega) (Sx.drewN (E0r t.sx) 1)).mono ?_;rintro e w2 ⟨rfl,c2,M⟩)
  all_goals
   have a4:=A4a.keep (w:=w1.drewN 1) t.sv M (.inl rfl);have Y:=hid (show St (λi=>i=B\/i=bx) w0 w2 B dg n R L H (U*p10 n) br bl bh J j from⟨a4,C7u c2,.inl rfl,t.new⟩);have I:=hid ((M bx (.inr rfl)).trans o.out);have V:Hid (A8w (n:Int) R=R):=by rw[Hid,A8w,show(-(n:Int)).toNat=0 from by omega,show p10 0=1 from rfl,Nat.mul_one]
   have b2:Hid (A8w (n:Int) L=L):=by rw[Hid,A8w,show(-(n:Int)).toNat=0 from by omega,show p10 0=1 from rfl,Nat.mul_one]
   have b0:Hid (A8w (n:Int) H=H):=by rw[Hid,A8w,show(-(n:Int)).toNat=0 from by omega,show p10 0=1 from rfl,Nat.mul_one]
   have e4:Hid (∀k,U*p10 n*p10 k=B7z (n:Int) k U):=by intro k;rw[B7z];rfl
   clear a4 c2 M K t o HR HL HH HU c3 a9 a0 c1 hU;generalize U*p10 n=U' at*;have Z:Hid (Sm R):=A5a u.out (by omega)
   go_wp2_with fail
   go_loopg [] 1000 (λg wr=>∃k:Nat,k+g=1000/\Hid (U'*p10 k<=10*p2 3000)/\Hid (R<U'*p10 k*p10 g)/\wr.heap[bx]? =some (.cells #[.pointer (some ⟨B,0,none⟩)] 137 (0,0))/\St (λi=>i=B\/i=bx) w0 wr B dg ((n:Int)+k) R L H (U'*p10 k) br bl bh J j)
   case atStart=>
    refine⟨0,by omega,?_,?_,I.out,?_⟩
    ·show _<=_
     rw[show p10 0=1 from rfl,Nat.mul_one];have:=b3.out;omega
    ·show _<_
     rw[show p10 0=1 from rfl,Nat.mul_one];have a:R<p10 1000:=Nat.lt_of_lt_of_le u.out (Nat.le_trans (A2t (show 3000<=3*1000 by omega)) (D4b 1000));exact Nat.lt_of_lt_of_le a (Nat.le_mul_of_pos_left _ b7.out)
    ·have:=Y.out
     rw[show p10 0=1 from rfl,Nat.mul_one];simpa using this
   case round=>
    obtain⟨k,d7,S,T,E,f⟩:=hrel;have a9:=cell_of_one E;have d6:=f.sv.cells.2.2.1;have c1:=f.sv.cells.2.2.2.2.2.1
    have y:Hid (Sm (U'*p10 k)):=A5a (k:=3004) (Nat.lt_of_le_of_lt S.out (by
     have e:p2 3004=16*p2 3000:=by rw[show 3004=4+3000 from rfl,A3x,show p2 4=16 from rfl]
     have:=A2y 3000
     omega)) (by omega)
    obtain⟨r,P,W,d8,d9,N⟩:=B9d br R J _ Z.out y.out f.sx (E0r f.sx);have Q:=hid N;have C:=hid f;have O:=hid E;clear N f E
    go_wp2_with fail
    go_quiet ((go_at_call 120;exact Calls.quiet_of (Q.out _)));clear Q;by_cases G:U'*p10 k<=R
    ·have hr:0<=r:=by omega
     have D:Hid (gk≠0):=by
      rintro rfl;have:=T.out;rw[show p10 0=1 from rfl,Nat.mul_one]at this;omega
     have b1:Hid (U'*p10 (k+1)<=10*p2 3000):=by show _<=_;rw[A1z,<-Nat.mul_assoc];have:=u.out;omega
     have b8:Hid (10*(U'*p10 k)+0=U'*p10 (k+1)):=by show _=_;rw[A1z,Nat.mul_comm (p10 k) 10,Nat.mul_left_comm,Nat.add_zero]
     have b9:Hid (R<U'*p10 (k+1)*p10 (gk-1)):=by
      show _<_
      have h3:p10 gk=p10 (gk-1)*10:=by rw[<-A1z];congr 1;have:=D.out;omega
      have h4:=T.out;rw[h3]at h4;rw[A1z,<-Nat.mul_assoc];have:U'*p10 k*10*p10 (gk-1)=U'*p10 k*(p10 (gk-1)*10):=by rw[Nat.mul_assoc (U'*p10 k),Nat.mul_comm 10]
      omega
     have l:=C.drewN nq;have v:(wr.drewN nq).heap[bx]? =some (.cells #[.pointer (some ⟨B,0,none⟩)] 137 (0,0)):=O.out;have c:=hid l;have x:=hid v;clear P W G l v
     go_wp2_with fail
     refine(B1k J _ 10 0 y.out (by omega) (by omega) (by omega) (E0r c.sx)).mono ?_;rintro e w5 ⟨rfl,A,F⟩;have s:=A4a.keep c.sv F (.inl rfl);have m:=(F bx (.inr rfl)).trans x.out;rw[b8.out]at A;have d:St (λi=>i=B\/i=bx) w0 w5 B dg ((n:Int)+k) R L H (U'*p10 (k+1)) br bl bh J j:=⟨s,C7u A,.inl rfl,c.new⟩;have c9:=cell_of_one m;have d5:=d.sv.cells.2.1;have d3:=d.sv.cells.2.2.2.2.2.2.2 1;have H5:=hid (d.set1 ((n:Int)+k+1));have c0:=hid ((Below.heap_setCell w5 ⟨B,1,none⟩ (.int .i64 ((n:Int)+k+1)) bx a2).trans m);clear A F s d m C O c x;go_wp2
     go_roundg (gk-1)
     case measure=>have:=D.out;omega
     case rel=>
      refine⟨k+1,by have:=D.out;omega,b1.out,b9.out,c0.out,?_⟩;rw[show(n:Int)+((k+1:Nat):Int)=(n:Int)+k+1 from by omega];exact H5.out
    ·have hr:r<0:=by omega
     have b6:=hid (Nat.lt_of_not_le G);have b4:=hid (C.drewN nq);clear P W G;go_wp2;go_end0;refine⟨rfl,k,by omega,by rw[V.out,<-e4.out k];exact b6.out,by rw[<-e4.out k];exact lt5 S.out,by rw[V.out,b2.out,b0.out,<-e4.out k];exact St.weaken b4.out (λi hi=>.inl hi) rfl⟩
 ·have a7:decide ((0:Int)<=(z*30103).tdiv 100000)=false:=by rw[<-HP.out];simpa using a8
  go_wp2_with fail
  rw[<-HP.out];generalize (w.setCell ⟨B,1,none⟩ (.int .i64 p)).alloc (.cells #[.pointer (some ⟨B,0,none⟩)] 137)=w1 at*;generalize w.heap.size=bx at*;clear a0 c4 a7 HP;obtain⟨n,hn⟩:=Int.eq_ofNat_of_zero_le (show 0<= -p by omega);have a1:p= -(n:Int):=by omega
  have a6:=K.out R HR.out n (by omega);have d2:=K.out L HL.out n (by omega);have c7:=K.out H HH.out n (by omega);refine(C4t n bx (by omega) (A5a a6 (by omega)) (A5a d2 (by omega)) (A5a c7 (by omega)) o.out (.inr rfl) a1 t.out).mono ?_;rintro e w2 ⟨rfl,l,M⟩;have Y:=hid l;have I:=hid ((M bx (.inr rfl)).trans o.out);have u:=hid a6;have b3:Hid (U<p2 3000):=Nat.lt_of_lt_of_le HU.out (A2t (by omega));have b7:Hid (0<U):=hU;have e1:Hid (R*p10 n=A8w p R):=by rw[Hid,A8w,hn];rfl
  have e2:Hid (L*p10 n=A8w p L):=by rw[Hid,A8w,hn];rfl
  have e3:Hid (H*p10 n=A8w p H):=by rw[Hid,A8w,hn];rfl
  have e4:Hid (∀k,U*p10 k=B7z p k U):=by intro k;rw[B7z,show p.toNat=0 from by omega,show p10 0=1 from rfl,Nat.mul_one]
  rw[e1.out]at u Y;rw[e2.out,e3.out]at Y;clear l M a6 d2 c7 HR HL HH HU K t o e1 e2 e3 hn a1 hU;generalize c8:A8w p R=R' at*;generalize d4:A8w p L=L' at*;generalize c5:A8w p H=H' at*;have V:=hid c8;have b2:=hid d4;have b0:=hid c5;clear c8 d4 c5;have Z:Hid (Sm R'):=A5a u.out (by omega)
  go_wp2_with fail
  go_loopg [] 1000 (λg wr=>∃k:Nat,k+g=1000/\Hid (U*p10 k<=10*p2 3000)/\Hid (R'<U*p10 k*p10 g)/\wr.heap[bx]? =some (.cells #[.pointer (some ⟨B,0,none⟩)] 137 (0,0))/\St (λi=>i=B\/i=bx) w0 wr B dg (p+k) R' L' H' (U*p10 k) br bl bh J j)
  case atStart=>
   refine⟨0,by omega,?_,?_,I.out,?_⟩
   ·show _<=_
    rw[show p10 0=1 from rfl,Nat.mul_one];have:=b3.out;omega
   ·show _<_
    rw[show p10 0=1 from rfl,Nat.mul_one];have a:R'<p10 1000:=Nat.lt_of_lt_of_le u.out (Nat.le_trans (A2t (show 3000<=3*1000 by omega)) (D4b 1000));exact Nat.lt_of_lt_of_le a (Nat.le_mul_of_pos_left _ b7.out)
   ·have:=Y.out
    rw[show p10 0=1 from rfl,Nat.mul_one];simpa using this
  case round=>
   obtain⟨k,d7,S,T,E,f⟩:=hrel;have a9:=cell_of_one E;have d6:=f.sv.cells.2.2.1;have c1:=f.sv.cells.2.2.2.2.2.1
   have y:Hid (Sm (U*p10 k)):=A5a (k:=3004) (Nat.lt_of_le_of_lt S.out (by
    have e:p2 3004=16*p2 3000:=by rw[show 3004=4+3000 from rfl,A3x,show p2 4=16 from rfl]
    have:=A2y 3000
    omega)) (by omega)
   obtain⟨r,P,W,d8,d9,N⟩:=B9d br R' J _ Z.out y.out f.sx (E0r f.sx);have Q:=hid N;have C:=hid f;have O:=hid E;clear N f E
   go_wp2_with fail
   go_quiet ((go_at_call 120;exact Calls.quiet_of (Q.out _)));clear Q;by_cases G:U*p10 k<=R'
   ·have hr:0<=r:=by omega
    have D:Hid (gk≠0):=by
     rintro rfl;have:=T.out;rw[show p10 0=1 from rfl,Nat.mul_one]at this;omega
    have b1:Hid (U*p10 (k+1)<=10*p2 3000):=by show _<=_;rw[A1z,<-Nat.mul_assoc];have:=u.out;omega
    have b8:Hid (10*(U*p10 k)+0=U*p10 (k+1)):=by show _=_;rw[A1z,Nat.mul_comm (p10 k) 10,Nat.mul_left_comm,Nat.add_zero]
    have b9:Hid (R'<U*p10 (k+1)*p10 (gk-1)):=by
     show _<_
     have h3:p10 gk=p10 (gk-1)*10:=by rw[<-A1z];congr 1;have:=D.out;omega
     have h4:=T.out;rw[h3]at h4;rw[A1z,<-Nat.mul_assoc];have:U*p10 k*10*p10 (gk-1)=U*p10 k*(p10 (gk-1)*10):=by rw[Nat.mul_assoc (U*p10 k),Nat.mul_comm 10]
     omega
    have l:=C.drewN nq;have v:(wr.drewN nq).heap[bx]? =some (.cells #[.pointer (some ⟨B,0,none⟩)] 137 (0,0)):=O.out;have c:=hid l;have x:=hid v;clear P W G l v
    go_wp2_with fail
    refine(B1k J _ 10 0 y.out (by omega) (by omega) (by omega) (E0r c.sx)).mono ?_;rintro e w5 ⟨rfl,A,F⟩;have s:=A4a.keep c.sv F (.inl rfl);have m:=(F bx (.inr rfl)).trans x.out;rw[b8.out]at A;have d:St (λi=>i=B\/i=bx) w0 w5 B dg (p+k) R' L' H' (U*p10 (k+1)) br bl bh J j:=⟨s,C7u A,.inl rfl,c.new⟩;have c9:=cell_of_one m;have d5:=d.sv.cells.2.1;have d3:=d.sv.cells.2.2.2.2.2.2.2 1;have H5:=hid (d.set1 (p+k+1));have c0:=hid ((Below.heap_setCell w5 ⟨B,1,none⟩ (.int .i64 (p+k+1)) bx a2).trans m);clear A F s d m C O c x;go_wp2
    go_roundg (gk-1)
    case measure=>have:=D.out;omega
    case rel=>
     refine⟨k+1,by have:=D.out;omega,b1.out,b9.out,c0.out,?_⟩;rw[show p+((k+1:Nat):Int)=p+k+1 from by omega];exact H5.out
   ·have hr:r<0:=by omega
    have b6:=hid (Nat.lt_of_not_le G);have b4:=hid (C.drewN nq);clear P W G;go_wp2;go_end0;refine⟨rfl,k,by omega,by rw[V.out,<-e4.out k];exact b6.out,by rw[<-e4.out k];exact lt5 S.out,by rw[V.out,b2.out,b0.out,<-e4.out k];exact St.weaken b4.out (λi hi=>.inl hi) rfl⟩
def A0w (n:Nat):Nat×Nat:=if n/4503599627370496=0 then(n,0)else(4503599627370496+n % 4503599627370496,n/4503599627370496-1)
def B2w (n:Nat):Nat:=if(A0w n).1=4503599627370496/\0<(A0w n).2 then 1 else 2
def upF (E:Nat):Nat:=p2 (E-1074)
def dnF (E:Nat):Nat:=p2 (1074-E)
theorem A1q {S A:Nat->Prop} {w0 w:World} {l:List (Nat×Nat)} (n:Nat) (d:n<18446744073709551616) (h:Sx S A w0 w l):
 Calls Tryz.prog 111 #[.int .u64 n] w λe w'=>∃b,e=.returned (.pointer (some ⟨b,0,none⟩))/\Sx S A w0 w' ((b,n)::l)/\B1d A w w':=by
 refine(B4f n d h).mono ?_;rintro e w' ⟨b,rfl,a,f,c⟩;exact⟨b,rfl,a,λi hi=>c.block i (h.inA i hi) id⟩
def D4c (dg R U:Nat):Bool:=decide (R<U-R)||(decide (R=U-R)&&decide (dg % 2=0))
def A6y (dg R L H U:Nat) (ends:Bool):Nat×Bool:=
 match wi R L ends,wi (U-R) H ends with
 |true,true=>if D4c dg R U then(dg,true)else(dg+1,true)
 |true,false=>(dg,true)
 |false,true=>(dg+1,true)
 |false,false=>(0,false)
theorem E9m {S A:Nat->Prop} {w0 w:World} {l:List (Nat×Nat)} (b N:Nat) (j:Sm N) (k:N≠0) (h:Sx S A w0 w ((b,N)::l)):
 Calls Tryz.prog 117 #[.pointer (some ⟨b,0,none⟩)] w λe w'=>∃a,e=.returned (.pointer (some ⟨a,0,none⟩))/\Sx S A w0 w' ((a,N)::(b,N)::l)/\B1d A w w':=by
 obtain⟨g,d⟩:=h.head;refine(E8w b g N w j k d).mono ?_;rintro e w' ⟨a,o,rfl,n,c,m,f⟩;exact⟨a,rfl,h.more n c m f,λi hi=>c.block i (h.inA i hi) id⟩
theorem D4d {S A:Nat->Prop} {w0 w:World} {l i:List (Nat×Nat)} (B c d G R:Nat) (a:Bool) (f:Sm G) (b:Sm R) (h:Sx S A w0 w ((c,G)::l)) (j:Sx S A w0 w ((d,R)::i)) (g:w.cell? ⟨B,6,none⟩=some (.bool a)) (n:Nat):
 Calls Tryz.prog 119 #[.pointer (some ⟨B,0,none⟩),.pointer (some ⟨c,0,none⟩),.pointer (some ⟨d,0,none⟩)] (w.drewN n) λe w'=>e=.returned (.bool (wi G R a))/\∃m,w'=(w.drewN n).drewN m:=
 D6t B c d G R a f b (h.drewN n) (j.drewN n) g
theorem E9n {A:Nat->Prop} {w0 w:World} {B b:Nat} {pw:Int} {R L H U t C E z:Nat} {a:Bool} (hR:R<U) (W:Sm L) (K:Sm H) (o:Sm U) (a7:b<=1000000000000000000) (h:St A w0 w B b pw R L H U t C E z a):
 Calls Tryz.prog 67 #[.pointer (some ⟨B,0,none⟩)] w λe w'=>e=.returned (.tuple #[.int .u64 ((A6y b R L H U a).1:Nat),.bool (A6y b R L H U a).2])/\St A w0 w' B b pw R L H U t C E z a:=by
 have D:=hid (Sm.mono o (show R<=U by omega));have M:=hid (Sm.mono o (show U-R<=U by omega));have a3:=hid W;have a4:=hid K;have I:=hid o;have x:=hid h;have a5:=h.sv.cells.2.2.2.2.2.1;clear W K o h;go_enter Tryz.func67,Tryz.ntmps67
 go_wp2_with fail
 refine(E9m z U I.out (by omega) (E0r x.sx)).mono ?_;rintro e w1 ⟨S,rfl,V,G⟩;have k:=x.sv.keep G x.inA;have Y:=k.cells.2.2.1;have T:[(S,U),(z,U),(t,R),(C,L),(E,H)].Perm [(S,U),(t,R),(z,U),(C,L),(E,H)]:=(List.Perm.swap _ _ _).cons _;have O:=hid (V.perm T);have u:=hid k;clear V G k T a5
 go_wp2_with fail
 refine(B9c S U t R I.out D.out (by omega) O.out).mono ?_;rintro e w2 ⟨rfl,p,X⟩;have n:=A4a.keep u.out X x.inA;have j:=n.cells;have a9:=j.1;have a6:=j.2.2.1;have b5:=j.2.2.2.1;have a8:=j.2.2.2.2.1;have v:=j.2.2.2.2.2.2.1;have y:Sx (λ_=>False) A w0 w2 [(t,R),(z,U),(C,L),(E,H)]:=p.tail;have i:St A w0 w2 B b pw R L H U t C E z a:=⟨n,F4v y,x.inA,x.new⟩;have J:=D4d B t C R L a D.out a3.out y (F6r i.sx) v;have N:=D4d B S E (U-R) H a M.out a4.out p (G3k i.sx) v;have W1:=hid J;have W2:=hid N;have d:=hid i;have a2:=hid p;clear p X n j y i J N u O x Y v
 go_wp2_with fail
 go_quiet ((go_at_call 119;first|(with_reducible exact Calls.quiet_of (W1.out _))|(with_reducible exact Calls.quiet_of (W2.out _))))
 have F:A6y b R L H U a=match wi R L a,wi (U-R) H a with
  |true,true=>if D4c b R U then(b,true)else(b+1,true)
  |true,false=>(b,true)
  |false,true=>(b+1,true)
  |false,false=>(0,false):=rfl
 have l:=hid F;clear F;generalize wi R L a=lo at*;generalize wi (U-R) H a=up at*;clear W1 W2;cases lo
 ·cases up
  ·have c:Hid (A6y b R L H U a=(0,false)):=l.out
   go_wp2;go_ret2;exact⟨by rw[c.out];rfl,d.drewN _⟩
  ·have c:Hid (A6y b R L H U a=(b+1,true)):=l.out
   go_wp2;go_ret2;exact⟨by rw[c.out];rfl,d.drewN _⟩
 ·cases up
  ·have c:Hid (A6y b R L H U a=(b,true)):=l.out
   go_wp2;go_ret2;exact⟨by rw[c.out];rfl,d.drewN _⟩
  ·have c:Hid (A6y b R L H U a=if D4c b R U then(b,true)else(b+1,true)):=l.out
   have P:=Sx.drewN a2.out nq;have Q:=Sx.drewN d.sx nq;have Z:=hid P;have a0:=hid Q;clear l P Q
   go_wp2_with fail
   refine(A9w t R S (U-R) D.out M.out a0.out Z.out).mono ?_;rintro e w4 ⟨r,rfl,q,s,b2,b3,m,rfl⟩;rcases Nat.lt_trichotomy R (U-R)with hc|hc|hc
   ·have hr:r<0:=by omega
    have g:Hid (A6y b R L H U a=(b,true)):=by rw[Hid,c.out,show D4c b R U=true from by simp[D4c,hc]];rfl
    clear q s hc c;go_wp2;go_ret2;exact⟨by rw[g.out];rfl,d.drewN _⟩
   ·have hr:r=0:=by omega
    subst hr;by_cases f:b % 2=0
    ·have g:Hid (A6y b R L H U a=(b,true)):=by rw[Hid,c.out,show D4c b R U=true from by unfold D4c;rw[dcT hc,dcT f];simp];rfl
     have a1:((b:Int) % 2==0)=true:=beq_iff_eq.2 (by omega);have b1:=hid f;have HC:=hid hc;clear q s hc c f;go_wp2;go_ret2;exact⟨by rw[g.out];rfl,d.drewN _⟩
    ·have g:Hid (A6y b R L H U a=(b+1,true)):=by rw[Hid,c.out,show D4c b R U=false from by unfold D4c;rw[dcF f,dcF (by omega)];simp];rfl
     have a1:((b:Int) % 2==0)=false:=bqF (by omega);have HC:=hid hc;clear q s hc c f;go_wp2;go_ret2;exact⟨by rw[g.out];rfl,d.drewN _⟩
   ·have hr:0<r:=by omega
    have b0:(r==0)=false:=bqF (by omega);have b4:decide (r<0)=false:=by rw[decide_eq_false_iff_not];omega
    have g:Hid (A6y b R L H U a=(b+1,true)):=by rw[Hid,c.out,show D4c b R U=false from by unfold D4c;rw[dcF (by omega),dcF (by omega)];simp];rfl
    clear q s hc c;go_wp2;go_ret2;exact⟨by rw[g.out];rfl,d.drewN _⟩
def A7j (n:Nat):Nat:=V n-V (n-1)
def A7d (n:Nat):Nat:=V (n+1)-V n
def pP (pw:Int):Nat:=p10 pw.toNat*p2 1074
def pQ (pw:Int) (U:Nat):Nat:=U*p10 (-pw).toNat
structure Inv (n dg:Nat) (pw:Int) (R L H U:Nat):Prop where
 a:(dg*U+R)*pP pw=V n*pQ pw U
 b:2*L*pP pw=A7j n*pQ pw U
 c:2*H*pP pw=A7d n*pQ pw U
 r:R<U
theorem B1a (n:Nat):V n=(A0w n).1*p2 (A0w n).2:=by
 unfold V A0w;split<;>simp[p2]
theorem E1z (a:Int):0<pP a:=Nat.mul_pos (A0v _) (A2y _)
theorem G0j (a:Int):p10 a.toNat*p10 (-(a-1)).toNat=10*p10 (a-1).toNat*p10 (-a).toNat:=by
 by_cases h:1<=a
 ·rw[show(-(a-1)).toNat=0 from by omega,show(-a).toNat=0 from by omega,show a.toNat=(a-1).toNat+1 from by omega,A1z,show p10 0=1 from rfl];omega
 ·rw[show a.toNat=0 from by omega,show(a-1).toNat=0 from by omega,show(-(a-1)).toNat=(-a).toNat+1 from by omega,A1z,show p10 0=1 from rfl];omega
theorem D1i {x y U:Nat} {a:Int} (h:x*pP a=y*pQ a U):10*x*pP (a-1)=y*pQ (a-1) U:=by
 have e:=G0j a;have b:0<p10 (-a).toNat:=A0v _;refine Nat.eq_of_mul_eq_mul_right b ?_;unfold pP pQ at*
 have d:10*x*(p10 (a-1).toNat*p2 1074)*p10 (-a).toNat=x*p2 1074*(10*p10 (a-1).toNat*p10 (-a).toNat):=by
  simp only[Nat.mul_assoc,Nat.mul_left_comm,Nat.mul_comm]
 have c:x*p2 1074*(p10 a.toNat*p10 (-(a-1)).toNat)=x*(p10 a.toNat*p2 1074)*p10 (-(a-1)).toNat:=by
  simp only[Nat.mul_assoc,Nat.mul_left_comm,Nat.mul_comm]
 rw[d,<-e,c,h];simp only[Nat.mul_assoc,Nat.mul_left_comm,Nat.mul_comm]
theorem Inv.next {n d:Nat} {f:Int} {R L H U:Nat} (h:Inv n d f R L H U):Inv n (d*10+10*R/U) (f-1) (10*R % U) (10*L) (10*H) U:=by
 refine⟨?_,?_,?_,Nat.mod_lt _ (by have:=h.r;omega)⟩
 ·have e:(d*10+10*R/U)*U+10*R % U=10*(d*U+R):=by
   rw[Nat.add_mul];have:=Nat.div_add_mod (10*R) U;rw[Nat.mul_comm U]at this;have g:d*10*U=10*(d*U):=by rw[Nat.mul_right_comm,Nat.mul_comm]
   omega
  rw[e];exact D1i h.a
 ·have:=D1i h.b
  rwa[show 10*(2*L)=2*(10*L)from by omega]at this
 ·have:=D1i h.c
  rwa[show 10*(2*H)=2*(10*H)from by omega]at this
theorem B1m (n:Nat):n=(A0w n).2*4503599627370496+(A0w n).1/\(((A0w n).2=0/\(A0w n).1<9007199254740992)\/(4503599627370496<=(A0w n).1/\(A0w n).1<9007199254740992)):=by
 unfold A0w;split
 ·exact⟨by show n=0*_+n;omega,.inl ⟨rfl,by show n<_;omega⟩⟩
 ·exact⟨by show n=(n/4503599627370496-1)*4503599627370496+(4503599627370496+n % 4503599627370496);omega,.inr ⟨by show _<=4503599627370496+n % 4503599627370496;omega,by show 4503599627370496+n % 4503599627370496<_;omega⟩⟩
theorem B1n (n:Nat):A7d n=p2 (A0w n).2:=by
 obtain⟨a,c⟩:=B1m n;unfold A7d
 have b:V (n+1)=((A0w n).1+1)*2^(A0w n).2:=by
  have:=E8s (A0w n).2 ((A0w n).1+1) (by omega);rwa[<-Nat.add_assoc,<-a]at this
 rw[b,B1a,Nat.add_mul];unfold p2;omega
theorem C4u (n:Nat) (d:n≠0):2*A7j n=B2w n*p2 (A0w n).2:=by
 obtain⟨f,g⟩:=B1m n;unfold A7j B2w;by_cases a:(A0w n).1=4503599627370496/\0<(A0w n).2
 ·rw[if_pos a]
  have b:V (n-1)=9007199254740991*2^((A0w n).2-1):=by
   have:=E8s ((A0w n).2-1) 9007199254740991 (by omega);rwa[show((A0w n).2-1)*4503599627370496+9007199254740991=n-1 from by omega]at this
  rw[b,B1a,a.1,show(A0w n).2=(A0w n).2-1+1 from by omega,A8j];unfold p2;rw[show(A0w n).2-1+1-1=(A0w n).2-1 from by omega];omega
 ·rw[if_neg a]
  have b:V (n-1)=((A0w n).1-1)*2^(A0w n).2:=by
   have:=E8s (A0w n).2 ((A0w n).1-1) (by omega);rwa[show(A0w n).2*4503599627370496+((A0w n).1-1)=n-1 from by omega]at this
  have c:1<=(A0w n).1:=by omega
  rw[b,B1a]
  have e:(A0w n).1*p2 (A0w n).2=((A0w n).1-1)*2^(A0w n).2+p2 (A0w n).2:=by
   unfold p2;rw[<-Nat.succ_mul];congr 1;omega
  rw[e];omega
theorem D1j (E c k:Nat) (p:Int):A8w p (upF E*c)*pP (p+k)*4=c*p2 E*pQ (p+k) (B7z p k (dnF E*4)):=by
 unfold A8w pP pQ B7z upF dnF;have b:p2 (E-1074)*p2 1074=p2 E*p2 (1074-E):=by rw[<-A3x,<-A3x,show E-1074+1074=E+(1074-E)from by omega]
 have a:p10 (-p).toNat*p10 (p+k).toNat=p10 p.toNat*p10 k*p10 (-(p+k)).toNat:=by rw[<-A1h,<-A1h,<-A1h,show(-p).toNat+(p+k).toNat=p.toNat+k+(-(p+k)).toNat from by omega]
 have l:p2 (E-1074)*c*p10 (-p).toNat*(p10 (p+k).toNat*p2 1074)*4=(p2 (E-1074)*p2 1074)*(p10 (-p).toNat*p10 (p+k).toNat)*(c*4):=by
  simp only[Nat.mul_assoc,Nat.mul_left_comm,Nat.mul_comm]
 rw[l,b,a];simp only[Nat.mul_assoc,Nat.mul_left_comm,Nat.mul_comm]
theorem G5h {x y:Nat} (h:x*4=y*4):x=y:=by omega
theorem G5b {x y:Nat} (h:x*2=y*2):x=y:=by omega
theorem Inv.init (n k:Nat) (p:Int) (h:n≠0) (hr:A8w p (upF (A0w n).2*(4*(A0w n).1))<B7z p k (dnF (A0w n).2*4)):
 Inv n 0 (p+k) (A8w p (upF (A0w n).2*(4*(A0w n).1))) (A8w p (upF (A0w n).2*B2w n)) (A8w p (upF (A0w n).2*2)) (B7z p k (dnF (A0w n).2*4)):=by
 have a:=D1j (A0w n).2 (4*(A0w n).1) k p;have b:=D1j (A0w n).2 (B2w n) k p;have c:=D1j (A0w n).2 2 k p;have j:=C4u n h;have i:=B1n n;have g:=B1a n;rw[<-j]at b;rw[<-i]at c;generalize B7z p k (dnF (A0w n).2*4)=U at*;refine⟨?_,?_,?_,hr⟩
 all_goals
  generalize pQ (p+k) U=Q at*;generalize pP (p+k)=P at*
 ·rw[Nat.zero_mul,Nat.zero_add,g]
  have e:4*(A0w n).1*p2 (A0w n).2*Q=(A0w n).1*p2 (A0w n).2*Q*4:=by simp only[Nat.mul_assoc,Nat.mul_left_comm,Nat.mul_comm]
  rw[e]at a;exact G5h a
 ·have f:A8w p (upF (A0w n).2*B2w n)*P*4=2*A8w p (upF (A0w n).2*B2w n)*P*2:=by rw[Nat.mul_assoc 2];omega
  have d:2*A7j n*Q=A7j n*Q*2:=by rw[Nat.mul_assoc 2];omega
  rw[f,d]at b;exact G5b b
 ·have f:A8w p (upF (A0w n).2*2)*P*4=2*A8w p (upF (A0w n).2*2)*P*2:=by rw[Nat.mul_assoc 2];omega
  have d:2*A7d n*Q=A7d n*Q*2:=by rw[Nat.mul_assoc 2];omega
  rw[f,d]at c;exact G5b c
theorem E9p {a u k:Nat} (c:k*u<=a) (d:a-k*u<u):k=a/u/\a-k*u=a % u:=by
 have b:0<u:=by omega
 have e:a/u=k:=by
  rw[Nat.div_eq_iff b];constructor
  ·exact c
  ·omega
 refine⟨e.symm,?_⟩;rw[Nat.mod_def,e,Nat.mul_comm]
theorem E9q {A:Nat->Prop} {w0 w:World} {B f:Nat} {q:Int} {R L H U y V W x:Nat} {d:Bool} (hR:R<U) (T:Sm (10*L)) (E:Sm (10*H)) (i:Sm (10*U)) (a7:f<=100000000000000000) (b0: -5000<=q) (a6:q<=5000) (h:St A w0 w B f q R L H U y V W x d):
 Calls Tryz.prog 68 #[.pointer (some ⟨B,0,none⟩)] w λe w'=>e=.returned (.tuple #[])/\St A w0 w' B (f*10+10*R/U) (q-1) (10*R % U) (10*L) (10*H) U y V W x d:=by
 have a8:=hid i;have a1:=hid (Sm.mono i (show R<=10*U by omega));have D:=hid (Sm.mono i (show U<=10*U by omega));have M:=hid (Sm.mono i (show 10*R<=10*U by omega));have a2:=hid (Sm.mono T (show L<=10*L by omega));have a4:=hid (Sm.mono E (show H<=10*H by omega));have HH:=hid h;clear T E i h;go_enter Tryz.func68,Tryz.ntmps68
 go_wp2_with fail
 refine(C7v a1.out a2.out a4.out HH.out).mono ?_;rintro e w1 ⟨rfl,h1,hk⟩;have m:=h1.sv.cells;have I:=m.1;have a3:=m.2.1;have K:=m.2.2.2.2.2.2.2 0;have Y:=m.2.2.2.2.2.2.2 1;have H1:=hid ((h1.set1 (q-1)).set0 (f*10));clear m h1 hk HH;go_wp2;have l:(Value.int .u64 ((f:Int)*10))=.int .u64 ((f*10:Nat):Int):=by rw[Int.natCast_mul];rfl
 rw[l];generalize (w1.setCell ⟨B,1,none⟩ (.int .i64 (q-1))).setCell ⟨B,0,none⟩ (.int .u64 ((f*10:Nat):Int))=w2 at*;clear I a3 K Y l
 go_loopg [] 10 (λg wr=>∃k:Nat,k+g=10/\k*U<=10*R/\St A w0 wr B (f*10+k) (q-1) (10*R-k*U) (10*L) (10*H) U y V W x d)
 case atStart=>exact⟨0,by omega,by omega,by simpa using H1.out⟩
 case round=>
  obtain⟨k,a9,z,v⟩:=hrel;have m:=v.sv.cells;have X:=m.2.2.1;have a5:=m.2.2.2.2.2.1;have b:=hid v;have t:=hid z;have s:=hid (Sm.mono M.out (show 10*R-k*U<=10*R by omega));clear m v
  have O:Hid (U<=10*R-k*U->k<=8):=by
   intro h8;have:(k+1)*U<=10*R:=by rw[Nat.add_mul];omega
   have h9:(k+1)*U<10*U:=by omega
   have:=Nat.lt_of_mul_lt_mul_right h9;omega
  clear z
  go_wp2_with fail
  obtain⟨r,F,P,b1,b2,C⟩:=B9d y _ x _ s.out D.out b.sx (E0r b.sx);have u:=hid C;clear C;go_quiet ((go_at_call 120;exact Calls.quiet_of (u.out _)));by_cases n:U<=10*R-k*U
  ·have hr:0<=r:=by omega
   have a0:=O.out n;have a:=b.drewN nq;have N:=a.sv.cells.2.2.1;have G:=a.sv.cells.2.2.2.2.2.1;have j:=hid a;clear F P u a
   go_wp2_with fail
   go_region_with (go_at_call 118;refine(B9c y _ x _ s.out D.out n (Sx.drewN (G3s b.sx) _)).mono ?_;rintro e w5 ⟨rfl,J,Q⟩)
   all_goals
    have c:St A w0 w5 B (f*10+k) (q-1) (10*R-k*U-U) (10*L) (10*H) U y V W x d:=⟨A4a.keep (w:=wr) b.sv Q b.inA,F4v J,b.inA,b.new⟩;have I:=c.sv.cells.1;have K:=c.sv.cells.2.2.2.2.2.2.2 0;have H5:=hid (c.set0 (f*10+k+1));have Z:Hid ((k+1)*U<=10*R):=by show _<=_;rw[Nat.add_mul];have:=t.out;omega
    have S:Hid (10*R-k*U-U=10*R-(k+1)*U):=by show _=_;rw[Nat.add_mul];omega
    have b3:k<=8:=a0;clear c J Q j b t O n X a5 N G;go_wp2
    go_roundg (gk-1)
    case measure=>omega
    case rel=>
     refine⟨k+1,by omega,Z.out,?_⟩;rw[<-S.out];have:=H5.out;rw[show((f*10+k+1:Nat):Int)=((f*10+k:Nat):Int)+1 from by omega]at this;exact this
  ·have hr:r<0:=by omega
   have a:=b.drewN nq;have o:=E9p t.out (by omega:10*R-k*U<U);have j:=hid a;have p:=hid o;clear F P u a o n;go_wp2;go_end0;exact⟨rfl,by rw[<-p.1,<-p.2];exact j.out⟩
end Go.Proofs.YtmkkibaacclhnaaGreatDoor
