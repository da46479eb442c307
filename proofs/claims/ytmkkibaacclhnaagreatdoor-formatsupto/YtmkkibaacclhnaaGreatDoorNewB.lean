/-
  Part NewB.
-/
import Derived.Test.YtmkkibaacclhnaaGreatDoorPkn
namespace Go.Proofs.YtmkkibaacclhnaaGreatDoor
open Go.RowKit
set_option maxRecDepth 100000
set_option maxHeartbeats 16000000
theorem D1k (n:Nat) (w:World) (hn:n<9218868437227405312) (hE:n/4503599627370496=0) (p:Int) (hp:p=(((A2x (A0w n).1:Int)+((A0w n).2-1074))*30103).tdiv 100000):
 Calls Tryz.prog 66 #[.int .u64 n] w λe w'=>∃B q o r l,e=.returned (.pointer (some ⟨B,0,none⟩))/\∃k:Nat,k<=2000/\A8w p (upF (A0w n).2*(4*(A0w n).1))<B7z p k (dnF (A0w n).2*4)/\B7z p k (dnF (A0w n).2*4)<p2 5000*10/\
  St (λi=>i=B) w w' B 0 (p+k) (A8w p (upF (A0w n).2*(4*(A0w n).1))) (A8w p (upF (A0w n).2*B2w n)) (A8w p (upF (A0w n).2*2)) (B7z p k (dnF (A0w n).2*4)) q o r l (decide ((A0w n).1 % 2=0)):=by
 have d7:n<4503599627370496:=by omega
 have d5:(n:Int)/4503599627370496=0:=by omega
 have a3:A0w n=(n,0):=if_pos hE;have HN:=hid hn;have HP:=hid hp;go_enter Tryz.func66,Tryz.ntmps66
 go_wp2_with fail
 obtain⟨m,hm⟩:∃m,m=n:=⟨n,rfl⟩;obtain⟨E,P⟩:∃E:Nat,E=0:=⟨0,rfl⟩;have d:Hid (A0w n=(m,E)):=by rw[Hid,a3,hm,P]
 have c7:m<9007199254740992:=by omega
 have b4:E<=2045:=by omega
 rw[show((n:Int)*4)=((4*m:Nat):Int)from by omega,show(n:Int)=(m:Int)from by omega,show(-1074:Int)=(E:Int)-1074 from by omega];have b7:=hid hm;have d8:=hid P;clear hm P a3;have a7:=hid ((Sx.start (A:=λ_=>False) w (λi h=>h.elim)).alloc (.cells #[.int .i64 ((E:Int)-1074)] 3));have Y:=hid (heap_alloc_new w (.cells #[.int .i64 ((E:Int)-1074)] 3));have d0:(w.alloc (.cells #[.int .i64 ((E:Int)-1074)] 3)).heap.size=w.heap.size+1:=World.size_alloc _ _;generalize w.alloc (.cells #[.int .i64 ((E:Int)-1074)] 3)=w1 at*;refine(A1q (4*m) (by omega) a7.out).mono ?_;rintro e w2 ⟨q,rfl,X,b2⟩;have a4:=hid X;have a5:=hid b2;clear X b2
 go_wp2_with fail
 refine(A1q 2 (by omega) a4.out).mono ?_;rintro e w3 ⟨o,rfl,U,a0⟩;have a6:=hid U;have Z:=hid (a5.trans a0);clear U a0 a4 a5
 go_wp2_with fail
 refine(A1q 2 (by omega) a6.out).mono ?_;rintro e w4 ⟨r,rfl,b3,a8⟩;have a2:=hid b3;have V:=hid (Z.trans a8);clear b3 a8 a6 Z
 go_wp2_with fail
 refine(A1q 4 (by omega) a2.out).mono ?_;rintro e f ⟨l,rfl,O,a9⟩;have c1:=hid O;have N:=V.trans a9;have D:f.heap[w.heap.size]? =some (.cells #[.int .i64 ((E:Int)-1074)] 3 (0,0)):=(N _ (.inr rfl)).trans Y.out;have b6:w.heap.size<f.heap.size:=lt_of_block D;have I:[(l,4),(r,2),(o,2),(q,4*m)].Perm [(q,4*m),(o,2),(r,2),(l,4)]:=List.reverse_perm [(q,4*m),(o,2),(r,2),(l,4)]
 have G:St (λi=>(False\/i=w.heap.size)\/i=f.heap.size) w (f.alloc (.cells #[.int .u64 0,.int .i64 0,.pointer (some ⟨q,0,none⟩),.pointer (some ⟨o,0,none⟩),.pointer (some ⟨r,0,none⟩),.pointer (some ⟨l,0,none⟩),.bool (decide (m % 2=0))] 143)) f.heap.size 0 0 (4*m) 2 2 4 q o r l (decide (m % 2=0)):=
  ⟨heap_alloc_new f _,(O.perm I).alloc _,.inr rfl,by omega⟩
 have F:(f.alloc (.cells #[.int .u64 0,.int .i64 0,.pointer (some ⟨q,0,none⟩),.pointer (some ⟨o,0,none⟩),.pointer (some ⟨r,0,none⟩),.pointer (some ⟨l,0,none⟩),.bool (decide (m % 2=0))] 143)).heap[w.heap.size]? =some (.cells #[.int .i64 ((E:Int)-1074)] 3 (0,0)):=(Below.heap_alloc f _ _ b6).trans D;have c0:=cell_of_one D
 have d6:((m:Int) % 2==0)=decide (m % 2=0):=by
  by_cases h:m % 2=0
  ·rw[dcT h];exact beq_iff_eq.2 (by omega)
  ·rw[dcF h];exact bqF (by omega)
 have K:=hid G;have H:=hid F;clear O a9 N D I G F a2 V a7 Y c1;have b9:m≠4503599627370496:=by have:=b7.out;omega
 have b1:Hid (B2w n=2):=by rw[Hid,B2w,d.out];exact if_neg (by rintro⟨h1,h2⟩;exact b9 h1)
 have c9:((m:Int)==4503599627370496)=false:=bqF (by omega);have g:Hid (B2w n=2):=b1.out;have b:=hid K.out;have c:=hid H.out;have c5:f.heap.size<(f.alloc (.cells #[.int .u64 0,.int .i64 0,.pointer (some ⟨q,0,none⟩),.pointer (some ⟨o,0,none⟩),.pointer (some ⟨r,0,none⟩),.pointer (some ⟨l,0,none⟩),.bool (decide (m % 2=0))] 143)).heap.size:=by rw[World.size_alloc];omega
 clear K H b1;obtain⟨z,v⟩:∃z,z=2:=⟨2,rfl⟩;replace b:=hid (show St (λi=>(False\/i=w.heap.size)\/i=f.heap.size) w (f.alloc (.cells #[.int .u64 0,.int .i64 0,.pointer (some ⟨q,0,none⟩),.pointer (some ⟨o,0,none⟩),.pointer (some ⟨r,0,none⟩),.pointer (some ⟨l,0,none⟩),.bool (decide (m % 2=0))] 143)) f.heap.size 0 0 (4*m) z 2 4 q o r l (decide (m % 2=0))from by rw[v];exact b.out);replace g:Hid (B2w n=z):=by rw[v];exact g.out
 clear v;generalize d3:f.alloc (.cells #[.int .u64 0,.int .i64 0,.pointer (some ⟨q,0,none⟩),.pointer (some ⟨o,0,none⟩),.pointer (some ⟨r,0,none⟩),.pointer (some ⟨l,0,none⟩),.bool (decide (m % 2=0))] 143)=w8 at*;clear c0;have b5:m<9007199254740992:=by omega
 have d1:A2x m<=53:=B1j m 53 b5
 have t:Hid (∀wx,Calls Tryz.prog 116 #[.int .u64 ((m:Int))] wx λe w'=>e=.returned (.int .i64 (A2x m:Nat))/\w'=wx):=by
  intro wx;have:=B4e ((m:Int)) wx (by omega) (by omega);rw[show((m:Int):Int).toNat=m from by omega,A8i _ (by omega)]at this;exact this
 have c8:z<=2:=by have:=g.out;unfold B2w at this;split at this<;>omega
 have c6:w.heap.size≠f.heap.size:=by omega
 by_cases d2:1074<=E
 ·obtain⟨k,rfl⟩:∃k,E=k+1074:=⟨E-1074,by omega⟩
  have b0:((k+1074:Nat):Int)-1074=(k:Int):=by omega
  rw[b0]at c;have u:=cell_of_one c.out;have T:p2 k*(4*m)<p2 1400:=Nat.lt_of_lt_of_le (A1x (k:=55) (by show _<2^55;omega)) (A2t (by omega));have S:p2 k*z<p2 1400:=Nat.lt_of_lt_of_le (A1x (k:=2) (by show _<2^2;omega)) (A2t (by omega));have R:p2 k*2<p2 1400:=Nat.lt_of_lt_of_le (A1x (k:=2) (by show _<2^2;omega)) (A2t (by omega))
  go_wp2_with fail
  refine(A9s k w.heap.size (by omega) (A5a T (by omega)) (A5a S (by omega)) (A5a R (by omega)) c.out (.inl (.inr rfl)) b.out).mono ?_;rintro e w9 ⟨rfl,M,s⟩;have j:=(s w.heap.size (.inl (.inr rfl))).trans c.out;have W:=cell_of_one j;have y:=hid M;have Q1:=hid T;have Q2:=hid S;have Q3:=hid R;have x:Hid (upF (k+1074)=p2 k):=by rw[Hid,upF,Nat.add_sub_cancel]
  have C:Hid (dnF (k+1074)*4=4):=by rw[Hid,dnF,show 1074-(k+1074)=0 from by omega];rfl
  have J:Hid ((A2x m:Int)+((((k+1074:Nat):Int))-1074)=(A2x m:Int)+k):=by show _=_;omega
  clear M s j T S R b c u b0
  go_wp2_with fail
  go_region_with (first|(a 116;refine(t.out _).mono ?_;rintro e Q ⟨rfl,rfl⟩)|(a 115;rw[IntWalk.i64_in ((A2x m:Int)+k) (by omega)];refine(A4b ((A2x m:Int)+k) (by omega) (by omega) (by omega) Q1.out Q2.out Q3.out (Nat.lt_of_lt_of_le (by show 4<2^3;omega) (A2t (show 3<=1400 by omega))) ((y.drewN 1).weaken (λi hi=>.inr hi) rfl) p (by rw[HP.out,d.out,J.out])).mono ?_;rintro e Q ⟨rfl,kk,t1,t2,t3,t4⟩))
  all_goals
   go_wp2;go_ret;refine⟨f.heap.size,q,o,r,l,rfl,kk,t1,?_,?_,?_⟩
   ·rw[d.out,x.out,C.out];exact t2
   ·rw[d.out,C.out];exact t3
   ·rw[d.out,x.out,C.out,g.out];exact t4
 ·have d4:E<1074:=by omega
  have u:=cell_of_one c.out;have c4:decide ((0:Int)<=(E:Int)-1074)=false:=dcF (by omega);have q0:p2 (1074-E)*4<p2 1400:=Nat.lt_of_lt_of_le (A1x (k:=3) (by show _<2^3;omega)) (A2t (by omega));have T:4*m<p2 1400:=Nat.lt_of_lt_of_le (by show 4*m<2^55;omega) (A2t (show 55<=1400 by omega));have S:z<p2 1400:=Nat.lt_of_lt_of_le (by show z<2^2;omega) (A2t (show 2<=1400 by omega));have R:2<p2 1400:=Nat.lt_of_lt_of_le (by show 2<2^2;omega) (A2t (show 2<=1400 by omega));have c2:=b.sv.cells.2.2.2.2.2.1;have c3:Hid (-((E:Int)-1074)=((1074-E:Nat):Int)):=by show _=_;omega
  have Q0:=hid q0;have Q1:=hid T;have Q2:=hid S;have Q3:=hid R;have x:Hid (upF E=1):=by rw[Hid,upF,show E-1074=0 from by omega];rfl
  have C:Hid (p2 (1074-E)*4=dnF E*4):=rfl;have J:Hid ((A2x m:Int)+((E:Int)-1074)=(A2x m:Int)+((E:Int)-1074)):=rfl;have b8:Hid (0<p2 (1074-E)*4):=Nat.mul_pos (A2y _) (by omega);clear q0 T S R
  go_wp2_with fail
  go_region_with (a 114;rw[IntWalk.i64_in (-((E:Int)-1074)) (by omega),c3.out];refine(C7t l 4 (1074-E) (by omega) (A5a Q0.out (by omega)) (Sx.drewN (E0r b.sx) 1)).mono ?_;rintro e w9 ⟨rfl,a1,s⟩)
  all_goals
   have L:=A4a.keep (w:=w8.drewN 1) b.sv s (.inr rfl);have j:=(s w.heap.size (.inl (.inr rfl))).trans c.out;have W:=cell_of_one j;have y:=hid (show St (λi=>(False\/i=w.heap.size)\/i=f.heap.size) w w9 f.heap.size 0 0 (4*m) z 2 (p2 (1074-E)*4) q o r l (decide (m % 2=0))from⟨L,C7u a1,.inr rfl,b.new⟩);clear a1 s L j b c u c2
   go_wp2_with fail
   go_region_with (first|(a 116;refine(t.out _).mono ?_;rintro e Q ⟨rfl,rfl⟩)|(a 115;rw[IntWalk.i64_in ((A2x m:Int)+((E:Int)-1074)) (by omega)];refine(A4b ((A2x m:Int)+((E:Int)-1074)) (by omega) (by omega) b8.out Q1.out Q2.out Q3.out Q0.out ((y.drewN 1).weaken (λi hi=>.inr hi) rfl) p (by rw[HP.out,d.out])).mono ?_;rintro e Q ⟨rfl,kk,t1,t2,t3,t4⟩))
   all_goals
    go_wp2;go_ret;refine⟨f.heap.size,q,o,r,l,rfl,kk,t1,?_,?_,?_⟩
    ·rw[d.out,x.out,Nat.one_mul];exact t2
    ·rw[d.out];exact t3
    ·rw[d.out,x.out,Nat.one_mul,Nat.one_mul,Nat.one_mul,g.out];exact t4
theorem D1m (n:Nat) (w:World) (hn:n<9218868437227405312) (hE:¬n/4503599627370496=0) (hz:n % 4503599627370496≠0) (p:Int) (hp:p=(((A2x (A0w n).1:Int)+((A0w n).2-1074))*30103).tdiv 100000):
 Calls Tryz.prog 66 #[.int .u64 n] w λe w'=>∃B q o r l,e=.returned (.pointer (some ⟨B,0,none⟩))/\∃k:Nat,k<=2000/\A8w p (upF (A0w n).2*(4*(A0w n).1))<B7z p k (dnF (A0w n).2*4)/\B7z p k (dnF (A0w n).2*4)<p2 5000*10/\
  St (λi=>i=B) w w' B 0 (p+k) (A8w p (upF (A0w n).2*(4*(A0w n).1))) (A8w p (upF (A0w n).2*B2w n)) (A8w p (upF (A0w n).2*2)) (B7z p k (dnF (A0w n).2*4)) q o r l (decide ((A0w n).1 % 2=0)):=by
 have e0:n/4503599627370496<=2046:=by omega
 have d8:(0:Int)<(n:Int)/4503599627370496:=by omega
 have a5:A0w n=(4503599627370496+n % 4503599627370496,n/4503599627370496-1):=if_neg hE
 have t:bits BinOp.or IntKind.u64 (bits BinOp.and IntKind.u64 (n:Int) 4503599627370495) 4503599627370496=((4503599627370496+n % 4503599627370496:Nat):Int):=by
  rw[show(4503599627370495:Int)=((4503599627370495:Nat):Int)from rfl,u64_and_nat n _ (by omega) (by omega),show(4503599627370496:Int)=((4503599627370496:Nat):Int)from rfl];have b1:n&&&4503599627370495=n % 4503599627370496:=Nat.and_two_pow_sub_one_eq_mod n 52;rw[b1,u64_or_nat _ _ (by omega) (by omega),Nat.or_comm,nat_join 52 _ _ (by decide) (by omega)]
 have HN:=hid hn;have HP:=hid hp;have S:=hid t;clear t;go_enter Tryz.func66,Tryz.ntmps66
 go_wp2_with fail
 obtain⟨m,hm⟩:∃m,m=4503599627370496+n % 4503599627370496:=⟨_,rfl⟩;obtain⟨E,Q⟩:∃E:Nat,E=n/4503599627370496-1:=⟨_,rfl⟩;have d:Hid (A0w n=(m,E)):=by rw[Hid,a5,hm,Q]
 have d0:m<9007199254740992:=by omega
 have b7:E<=2045:=by omega
 rw[S.out,<-hm,show((n:Int)/4503599627370496-1+ -1074)=(E:Int)-1074 from by omega,IntWalk.u64_in ((m:Int)*4) (by omega),show((m:Int)*4)=((4*m:Nat):Int)from by omega];have c0:=hid hm;have e1:=hid Q;clear hm Q a5;have a9:=hid ((Sx.start (A:=λ_=>False) w (λi h=>h.elim)).alloc (.cells #[.int .i64 ((E:Int)-1074)] 3));have a0:=hid (heap_alloc_new w (.cells #[.int .i64 ((E:Int)-1074)] 3));have d3:(w.alloc (.cells #[.int .i64 ((E:Int)-1074)] 3)).heap.size=w.heap.size+1:=World.size_alloc _ _;generalize w.alloc (.cells #[.int .i64 ((E:Int)-1074)] 3)=w1 at*;refine(A1q (4*m) (by omega) a9.out).mono ?_;rintro e w2 ⟨q,rfl,Z,b5⟩;have a6:=hid Z;have a7:=hid b5;clear Z b5
 go_wp2_with fail
 refine(A1q 2 (by omega) a6.out).mono ?_;rintro e w3 ⟨o,rfl,W,a2⟩;have a8:=hid W;have a1:=hid (a7.trans a2);clear W a2 a6 a7
 go_wp2_with fail
 refine(A1q 2 (by omega) a8.out).mono ?_;rintro e w4 ⟨r,rfl,b6,b0⟩;have a4:=hid b6;have X:=hid (a1.trans b0);clear b6 b0 a8 a1
 go_wp2_with fail
 refine(A1q 4 (by omega) a4.out).mono ?_;rintro e f ⟨l,rfl,P,b2⟩;have c4:=hid P;have O:=X.trans b2;have F:f.heap[w.heap.size]? =some (.cells #[.int .i64 ((E:Int)-1074)] 3 (0,0)):=(O _ (.inr rfl)).trans a0.out;have b9:w.heap.size<f.heap.size:=lt_of_block F;have J:[(l,4),(r,2),(o,2),(q,4*m)].Perm [(q,4*m),(o,2),(r,2),(l,4)]:=List.reverse_perm [(q,4*m),(o,2),(r,2),(l,4)]
 have H:St (λi=>(False\/i=w.heap.size)\/i=f.heap.size) w (f.alloc (.cells #[.int .u64 0,.int .i64 0,.pointer (some ⟨q,0,none⟩),.pointer (some ⟨o,0,none⟩),.pointer (some ⟨r,0,none⟩),.pointer (some ⟨l,0,none⟩),.bool (decide (m % 2=0))] 143)) f.heap.size 0 0 (4*m) 2 2 4 q o r l (decide (m % 2=0)):=
  ⟨heap_alloc_new f _,(P.perm J).alloc _,.inr rfl,by omega⟩
 have G:(f.alloc (.cells #[.int .u64 0,.int .i64 0,.pointer (some ⟨q,0,none⟩),.pointer (some ⟨o,0,none⟩),.pointer (some ⟨r,0,none⟩),.pointer (some ⟨l,0,none⟩),.bool (decide (m % 2=0))] 143)).heap[w.heap.size]? =some (.cells #[.int .i64 ((E:Int)-1074)] 3 (0,0)):=(Below.heap_alloc f _ _ b9).trans F;have c3:=cell_of_one F
 have d9:((m:Int) % 2==0)=decide (m % 2=0):=by
  by_cases h:m % 2=0
  ·rw[dcT h];exact beq_iff_eq.2 (by omega)
  ·rw[dcF h];exact bqF (by omega)
 have L:=hid H;have I:=hid G;clear P b2 O F J H G a4 X a9 a0 c4;have c2:m≠4503599627370496:=by have:=c0.out;omega
 have b4:Hid (B2w n=2):=by rw[Hid,B2w,d.out];exact if_neg (by rintro⟨h1,h2⟩;exact c2 h1)
 have d2:((m:Int)==4503599627370496)=false:=bqF (by omega);have g:Hid (B2w n=2):=b4.out;have b:=hid L.out;have c:=hid I.out;have c8:f.heap.size<(f.alloc (.cells #[.int .u64 0,.int .i64 0,.pointer (some ⟨q,0,none⟩),.pointer (some ⟨o,0,none⟩),.pointer (some ⟨r,0,none⟩),.pointer (some ⟨l,0,none⟩),.bool (decide (m % 2=0))] 143)).heap.size:=by rw[World.size_alloc];omega
 clear L I b4;obtain⟨C,x⟩:∃C,C=2:=⟨2,rfl⟩;replace b:=hid (show St (λi=>(False\/i=w.heap.size)\/i=f.heap.size) w (f.alloc (.cells #[.int .u64 0,.int .i64 0,.pointer (some ⟨q,0,none⟩),.pointer (some ⟨o,0,none⟩),.pointer (some ⟨r,0,none⟩),.pointer (some ⟨l,0,none⟩),.bool (decide (m % 2=0))] 143)) f.heap.size 0 0 (4*m) C 2 4 q o r l (decide (m % 2=0))from by rw[x];exact b.out);replace g:Hid (B2w n=C):=by rw[x];exact g.out
 clear x;generalize d6:f.alloc (.cells #[.int .u64 0,.int .i64 0,.pointer (some ⟨q,0,none⟩),.pointer (some ⟨o,0,none⟩),.pointer (some ⟨r,0,none⟩),.pointer (some ⟨l,0,none⟩),.bool (decide (m % 2=0))] 143)=w8 at*;clear c3;have b8:m<9007199254740992:=by omega
 have d4:A2x m<=53:=B1j m 53 b8
 have u:Hid (∀wx,Calls Tryz.prog 116 #[.int .u64 ((m:Int))] wx λe w'=>e=.returned (.int .i64 (A2x m:Nat))/\w'=wx):=by
  intro wx;have:=B4e ((m:Int)) wx (by omega) (by omega);rw[show((m:Int):Int).toNat=m from by omega,A8i _ (by omega)]at this;exact this
 have d1:C<=2:=by have:=g.out;unfold B2w at this;split at this<;>omega
 have c9:w.heap.size≠f.heap.size:=by omega
 by_cases d5:1074<=E
 ·obtain⟨k,rfl⟩:∃k,E=k+1074:=⟨E-1074,by omega⟩
  have b3:((k+1074:Nat):Int)-1074=(k:Int):=by omega
  rw[b3]at c;have v:=cell_of_one c.out;have V:p2 k*(4*m)<p2 1400:=Nat.lt_of_lt_of_le (A1x (k:=55) (by show _<2^55;omega)) (A2t (by omega));have U:p2 k*C<p2 1400:=Nat.lt_of_lt_of_le (A1x (k:=2) (by show _<2^2;omega)) (A2t (by omega));have T:p2 k*2<p2 1400:=Nat.lt_of_lt_of_le (A1x (k:=2) (by show _<2^2;omega)) (A2t (by omega))
  go_wp2_with fail
  refine(A9s k w.heap.size (by omega) (A5a V (by omega)) (A5a U (by omega)) (A5a T (by omega)) c.out (.inl (.inr rfl)) b.out).mono ?_;rintro e w9 ⟨rfl,N,s⟩;have j:=(s w.heap.size (.inl (.inr rfl))).trans c.out;have Y:=cell_of_one j;have z:=hid N;have Q1:=hid V;have Q2:=hid U;have Q3:=hid T;have y:Hid (upF (k+1074)=p2 k):=by rw[Hid,upF,Nat.add_sub_cancel]
  have D:Hid (dnF (k+1074)*4=4):=by rw[Hid,dnF,show 1074-(k+1074)=0 from by omega];rfl
  have K:Hid ((A2x m:Int)+((((k+1074:Nat):Int))-1074)=(A2x m:Int)+k):=by show _=_;omega
  clear N s j V U T b c v b3
  go_wp2_with fail
  go_region_with (first|(a 116;refine(u.out _).mono ?_;rintro e R ⟨rfl,rfl⟩)|(a 115;rw[IntWalk.i64_in ((A2x m:Int)+k) (by omega)];refine(A4b ((A2x m:Int)+k) (by omega) (by omega) (by omega) Q1.out Q2.out Q3.out (Nat.lt_of_lt_of_le (by show 4<2^3;omega) (A2t (show 3<=1400 by omega))) ((z.drewN 1).weaken (λi hi=>.inr hi) rfl) p (by rw[HP.out,d.out,K.out])).mono ?_;rintro e R ⟨rfl,kk,t1,t2,t3,t4⟩))
  all_goals
   go_wp2;go_ret;refine⟨f.heap.size,q,o,r,l,rfl,kk,t1,?_,?_,?_⟩
   ·rw[d.out,y.out,D.out];exact t2
   ·rw[d.out,D.out];exact t3
   ·rw[d.out,y.out,D.out,g.out];exact t4
 ·have d7:E<1074:=by omega
  have v:=cell_of_one c.out;have c7:decide ((0:Int)<=(E:Int)-1074)=false:=dcF (by omega);have q0:p2 (1074-E)*4<p2 1400:=Nat.lt_of_lt_of_le (A1x (k:=3) (by show _<2^3;omega)) (A2t (by omega));have V:4*m<p2 1400:=Nat.lt_of_lt_of_le (by show 4*m<2^55;omega) (A2t (show 55<=1400 by omega));have U:C<p2 1400:=Nat.lt_of_lt_of_le (by show C<2^2;omega) (A2t (show 2<=1400 by omega));have T:2<p2 1400:=Nat.lt_of_lt_of_le (by show 2<2^2;omega) (A2t (show 2<=1400 by omega));have c5:=b.sv.cells.2.2.2.2.2.1;have c6:Hid (-((E:Int)-1074)=((1074-E:Nat):Int)):=by show _=_;omega
  have Q0:=hid q0;have Q1:=hid V;have Q2:=hid U;have Q3:=hid T;have y:Hid (upF E=1):=by rw[Hid,upF,show E-1074=0 from by omega];rfl
  have D:Hid (p2 (1074-E)*4=dnF E*4):=rfl;have K:Hid ((A2x m:Int)+((E:Int)-1074)=(A2x m:Int)+((E:Int)-1074)):=rfl;have c1:Hid (0<p2 (1074-E)*4):=Nat.mul_pos (A2y _) (by omega);clear q0 V U T
  go_wp2_with fail
  go_region_with (a 114;rw[IntWalk.i64_in (-((E:Int)-1074)) (by omega),c6.out];refine(C7t l 4 (1074-E) (by omega) (A5a Q0.out (by omega)) (Sx.drewN (E0r b.sx) 1)).mono ?_;rintro e w9 ⟨rfl,a3,s⟩)
  all_goals
   have M:=A4a.keep (w:=w8.drewN 1) b.sv s (.inr rfl);have j:=(s w.heap.size (.inl (.inr rfl))).trans c.out;have Y:=cell_of_one j;have z:=hid (show St (λi=>(False\/i=w.heap.size)\/i=f.heap.size) w w9 f.heap.size 0 0 (4*m) C 2 (p2 (1074-E)*4) q o r l (decide (m % 2=0))from⟨M,C7u a3,.inr rfl,b.new⟩);clear a3 s M j b c v c5
   go_wp2_with fail
   go_region_with (first|(a 116;refine(u.out _).mono ?_;rintro e R ⟨rfl,rfl⟩)|(a 115;rw[IntWalk.i64_in ((A2x m:Int)+((E:Int)-1074)) (by omega)];refine(A4b ((A2x m:Int)+((E:Int)-1074)) (by omega) (by omega) c1.out Q1.out Q2.out Q3.out Q0.out ((z.drewN 1).weaken (λi hi=>.inr hi) rfl) p (by rw[HP.out,d.out])).mono ?_;rintro e R ⟨rfl,kk,t1,t2,t3,t4⟩))
   all_goals
    go_wp2;go_ret;refine⟨f.heap.size,q,o,r,l,rfl,kk,t1,?_,?_,?_⟩
    ·rw[d.out,y.out,Nat.one_mul];exact t2
    ·rw[d.out];exact t3
    ·rw[d.out,y.out,Nat.one_mul,Nat.one_mul,Nat.one_mul,g.out];exact t4
end Go.Proofs.YtmkkibaacclhnaaGreatDoor
