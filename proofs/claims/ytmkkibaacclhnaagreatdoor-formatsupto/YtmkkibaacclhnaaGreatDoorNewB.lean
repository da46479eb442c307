/-
  Part NewB.
-/
import Derived.Test.YtmkkibaacclhnaaGreatDoorPkn
namespace Go.Proofs.YtmkkibaacclhnaaGreatDoor
open Go.RowKit
set_option maxRecDepth 100000
set_option maxHeartbeats 16000000
theorem D1k (n:Nat) (w:World) (hn:n<9218868437227405312) (hE:n/4503599627370496=0) (p:Int) (hp:p=(((A2x (A0w n).1:Int)+((A0w n).2-1074))*30103).tdiv 100000):
 Calls Tryz.prog 66 #[.int .u64 n] w λe w'=>∃B q o l j,e=.returned (.pointer (some ⟨B,0,none⟩))/\∃k:Nat,k<=2000/\A8w p (upF (A0w n).2*(4*(A0w n).1))<B7z p k (dnF (A0w n).2*4)/\B7z p k (dnF (A0w n).2*4)<p2 5000*10/\
  St (λi=>i=B) w w' B 0 (p+k) (A8w p (upF (A0w n).2*(4*(A0w n).1))) (A8w p (upF (A0w n).2*B2w n)) (A8w p (upF (A0w n).2*2)) (B7z p k (dnF (A0w n).2*4)) q o l j (decide ((A0w n).1 % 2=0)):=by
 have d3:n<4503599627370496:=by omega
 have d6:(n:Int)/4503599627370496=0:=by omega
 have a8:A0w n=(n,0):=if_pos hE;have HN:=hid hn;have HP:=hid hp;go_enter Tryz.func66,Tryz.ntmps66
 go_wp2_with fail
 obtain⟨m,hm⟩:∃m,m=n:=⟨n,rfl⟩;obtain⟨E,N⟩:∃E:Nat,E=0:=⟨0,rfl⟩;have c:Hid (A0w n=(m,E)):=by rw[Hid,a8,hm,N]
 have c6:m<9007199254740992:=by omega
 have b3:E<=2045:=by omega
 rw[show((n:Int)*4)=((4*m:Nat):Int)from by omega,show(n:Int)=(m:Int)from by omega,show(-1074:Int)=(E:Int)-1074 from by omega];have b4:=hid hm;have c8:=hid N;clear hm N a8;have X:=hid ((Sx.start (A:=λ_=>False) w (λi h=>h.elim)).alloc (.cells #[.int .i64 ((E:Int)-1074)] 3));have T:=hid (heap_alloc_new w (.cells #[.int .i64 ((E:Int)-1074)] 3));have d4:(w.alloc (.cells #[.int .i64 ((E:Int)-1074)] 3)).heap.size=w.heap.size+1:=World.size_alloc _ _;generalize w.alloc (.cells #[.int .i64 ((E:Int)-1074)] 3)=w1 at*;refine(A1q (4*m) (by omega) X.out).mono ?_;rintro e w2 ⟨q,rfl,a9,a3⟩;have Y:=hid a9;have U:=hid a3;clear a9 a3
 go_wp2_with fail
 refine(A1q 2 (by omega) Y.out).mono ?_;rintro e w3 ⟨o,rfl,b0,a4⟩;have Z:=hid b0;have V:=hid (U.trans a4);clear b0 a4 Y U
 go_wp2_with fail
 refine(A1q 2 (by omega) Z.out).mono ?_;rintro e w4 ⟨l,rfl,b1,a5⟩;have a0:=hid b1;have W:=hid (V.trans a5);clear b1 a5 Z V
 go_wp2_with fail
 refine(A1q 4 (by omega) a0.out).mono ?_;rintro e d ⟨j,rfl,O,a6⟩;have b5:=hid O;have H:=W.trans a6;have y:d.heap[w.heap.size]? =some (.cells #[.int .i64 ((E:Int)-1074)] 3 (0,0)):=(H _ (.inr rfl)).trans T.out;have c2:w.heap.size<d.heap.size:=lt_of_block y;have J:[(j,4),(l,2),(o,2),(q,4*m)].Perm [(q,4*m),(o,2),(l,2),(j,4)]:=List.reverse_perm [(q,4*m),(o,2),(l,2),(j,4)]
 have K:St (λi=>(False\/i=w.heap.size)\/i=d.heap.size) w (d.alloc (.cells #[.int .u64 0,.int .i64 0,.pointer (some ⟨q,0,none⟩),.pointer (some ⟨o,0,none⟩),.pointer (some ⟨l,0,none⟩),.pointer (some ⟨j,0,none⟩),.bool (decide (m % 2=0))] 143)) d.heap.size 0 0 (4*m) 2 2 4 q o l j (decide (m % 2=0)):=
  ⟨heap_alloc_new d _,(O.perm J).alloc _,.inr rfl,by omega⟩
 have G:(d.alloc (.cells #[.int .u64 0,.int .i64 0,.pointer (some ⟨q,0,none⟩),.pointer (some ⟨o,0,none⟩),.pointer (some ⟨l,0,none⟩),.pointer (some ⟨j,0,none⟩),.bool (decide (m % 2=0))] 143)).heap[w.heap.size]? =some (.cells #[.int .i64 ((E:Int)-1074)] 3 (0,0)):=(Below.heap_alloc d _ _ c2).trans y;have b8:=cell_of_one y
 have d0:((m:Int) % 2==0)=decide (m % 2=0):=by
  by_cases h:m % 2=0
  ·rw[dcT h];exact beq_iff_eq.2 (by omega)
  ·rw[dcF h];exact bqF (by omega)
 have F:=hid K;have D:=hid G;clear O a6 H y J K G a0 W X T b5;have c0:m≠4503599627370496:=by have:=b4.out;omega
 have a1:Hid (B2w n=2):=by rw[Hid,B2w,c.out];exact if_neg (by rintro⟨h1,h2⟩;exact c0 h1)
 have d1:((m:Int)==4503599627370496)=false:=bqF (by omega);have f:Hid (B2w n=2):=a1.out;have a:=hid F.out;have b:=hid D.out;have c5:d.heap.size<(d.alloc (.cells #[.int .u64 0,.int .i64 0,.pointer (some ⟨q,0,none⟩),.pointer (some ⟨o,0,none⟩),.pointer (some ⟨l,0,none⟩),.pointer (some ⟨j,0,none⟩),.bool (decide (m % 2=0))] 143)).heap.size:=by rw[World.size_alloc];omega
 clear F D a1;obtain⟨C,u⟩:∃C,C=2:=⟨2,rfl⟩;replace a:=hid (show St (λi=>(False\/i=w.heap.size)\/i=d.heap.size) w (d.alloc (.cells #[.int .u64 0,.int .i64 0,.pointer (some ⟨q,0,none⟩),.pointer (some ⟨o,0,none⟩),.pointer (some ⟨l,0,none⟩),.pointer (some ⟨j,0,none⟩),.bool (decide (m % 2=0))] 143)) d.heap.size 0 0 (4*m) C 2 4 q o l j (decide (m % 2=0))from by rw[u];exact a.out);replace f:Hid (B2w n=C):=by rw[u];exact f.out
 clear u;generalize d7:d.alloc (.cells #[.int .u64 0,.int .i64 0,.pointer (some ⟨q,0,none⟩),.pointer (some ⟨o,0,none⟩),.pointer (some ⟨l,0,none⟩),.pointer (some ⟨j,0,none⟩),.bool (decide (m % 2=0))] 143)=w8 at*;clear b8;have b9:m<9007199254740992:=by omega
 have d2:A2x m<=53:=B1j m 53 b9
 have v:Hid (∀wx,Calls Tryz.prog 116 #[.int .u64 ((m:Int))] wx λe w'=>e=.returned (.int .i64 (A2x m:Nat))/\w'=wx):=by
  intro wx;have:=B4e ((m:Int)) wx (by omega) (by omega);rw[show((m:Int):Int).toNat=m from by omega,A8i _ (by omega)]at this;exact this
 have c4:C<=2:=by have:=f.out;unfold B2w at this;split at this<;>omega
 have c3:w.heap.size≠d.heap.size:=by omega
 by_cases d5:1074<=E
 ·obtain⟨k,rfl⟩:∃k,E=k+1074:=⟨E-1074,by omega⟩
  have a7:((k+1074:Nat):Int)-1074=(k:Int):=by omega
  rw[a7]at b;have t:=cell_of_one b.out;have Q:p2 k*(4*m)<p2 1400:=Nat.lt_of_lt_of_le (A1x (k:=55) (by show _<2^55;omega)) (A2t (by omega));have R:p2 k*C<p2 1400:=Nat.lt_of_lt_of_le (A1x (k:=2) (by show _<2^2;omega)) (A2t (by omega));have S:p2 k*2<p2 1400:=Nat.lt_of_lt_of_le (A1x (k:=2) (by show _<2^2;omega)) (A2t (by omega))
  go_wp2_with fail
  refine(A9s k w.heap.size (by omega) (A5a Q (by omega)) (A5a R (by omega)) (A5a S (by omega)) b.out (.inl (.inr rfl)) a.out).mono ?_;rintro e w9 ⟨rfl,L,r⟩;have g:=(r w.heap.size (.inl (.inr rfl))).trans b.out;have a2:=cell_of_one g;have s:=hid L;have Q1:=hid Q;have Q2:=hid R;have Q3:=hid S;have x:Hid (upF (k+1074)=p2 k):=by rw[Hid,upF,Nat.add_sub_cancel]
  have z:Hid (dnF (k+1074)*4=4):=by rw[Hid,dnF,show 1074-(k+1074)=0 from by omega];rfl
  have I:Hid ((A2x m:Int)+((((k+1074:Nat):Int))-1074)=(A2x m:Int)+k):=by show _=_;omega
  clear L r g Q R S a b t a7
  go_wp2_with fail
  go_region_with (first|(go_at_call 116;refine(v.out _).mono ?_;rintro e P ⟨rfl,rfl⟩)|(go_at_call 115;rw[IntWalk.i64_in ((A2x m:Int)+k) (by omega)];refine(A4b ((A2x m:Int)+k) (by omega) (by omega) (by omega) Q1.out Q2.out Q3.out (Nat.lt_of_lt_of_le (by show 4<2^3;omega) (A2t (show 3<=1400 by omega))) ((s.drewN 1).weaken (λi hi=>.inr hi) rfl) p (by rw[HP.out,c.out,I.out])).mono ?_;rintro e P ⟨rfl,kk,t1,t2,t3,t4⟩))
  all_goals
   go_wp2;go_ret;refine⟨d.heap.size,q,o,l,j,rfl,kk,t1,?_,?_,?_⟩
   ·rw[c.out,x.out,z.out];exact t2
   ·rw[c.out,z.out];exact t3
   ·rw[c.out,x.out,z.out,f.out];exact t4
 ·have c9:E<1074:=by omega
  have t:=cell_of_one b.out;have c7:decide ((0:Int)<=(E:Int)-1074)=false:=dcF (by omega);have q0:p2 (1074-E)*4<p2 1400:=Nat.lt_of_lt_of_le (A1x (k:=3) (by show _<2^3;omega)) (A2t (by omega));have Q:4*m<p2 1400:=Nat.lt_of_lt_of_le (by show 4*m<2^55;omega) (A2t (show 55<=1400 by omega));have R:C<p2 1400:=Nat.lt_of_lt_of_le (by show C<2^2;omega) (A2t (show 2<=1400 by omega));have S:2<p2 1400:=Nat.lt_of_lt_of_le (by show 2<2^2;omega) (A2t (show 2<=1400 by omega));have b7:=a.sv.cells.2.2.2.2.2.1;have c1:Hid (-((E:Int)-1074)=((1074-E:Nat):Int)):=by show _=_;omega
  have Q0:=hid q0;have Q1:=hid Q;have Q2:=hid R;have Q3:=hid S;have x:Hid (upF E=1):=by rw[Hid,upF,show E-1074=0 from by omega];rfl
  have z:Hid (p2 (1074-E)*4=dnF E*4):=rfl;have I:Hid ((A2x m:Int)+((E:Int)-1074)=(A2x m:Int)+((E:Int)-1074)):=rfl;have b6:Hid (0<p2 (1074-E)*4):=Nat.mul_pos (A2y _) (by omega);clear q0 Q R S
  go_wp2_with fail
  go_region_with (go_at_call 114;rw[IntWalk.i64_in (-((E:Int)-1074)) (by omega),c1.out];refine(C7t j 4 (1074-E) (by omega) (A5a Q0.out (by omega)) (Sx.drewN (E0r a.sx) 1)).mono ?_;rintro e w9 ⟨rfl,b2,r⟩)
  all_goals
   have M:=A4a.keep (w:=w8.drewN 1) a.sv r (.inr rfl);have g:=(r w.heap.size (.inl (.inr rfl))).trans b.out;have a2:=cell_of_one g;have s:=hid (show St (λi=>(False\/i=w.heap.size)\/i=d.heap.size) w w9 d.heap.size 0 0 (4*m) C 2 (p2 (1074-E)*4) q o l j (decide (m % 2=0))from⟨M,C7u b2,.inr rfl,a.new⟩);clear b2 r M g a b t b7
   go_wp2_with fail
   go_region_with (first|(go_at_call 116;refine(v.out _).mono ?_;rintro e P ⟨rfl,rfl⟩)|(go_at_call 115;rw[IntWalk.i64_in ((A2x m:Int)+((E:Int)-1074)) (by omega)];refine(A4b ((A2x m:Int)+((E:Int)-1074)) (by omega) (by omega) b6.out Q1.out Q2.out Q3.out Q0.out ((s.drewN 1).weaken (λi hi=>.inr hi) rfl) p (by rw[HP.out,c.out])).mono ?_;rintro e P ⟨rfl,kk,t1,t2,t3,t4⟩))
   all_goals
    go_wp2;go_ret;refine⟨d.heap.size,q,o,l,j,rfl,kk,t1,?_,?_,?_⟩
    ·rw[c.out,x.out,Nat.one_mul];exact t2
    ·rw[c.out];exact t3
    ·rw[c.out,x.out,Nat.one_mul,Nat.one_mul,Nat.one_mul,f.out];exact t4
theorem D1m (n:Nat) (w:World) (hn:n<9218868437227405312) (hE:¬n/4503599627370496=0) (hz:n % 4503599627370496≠0) (p:Int) (hp:p=(((A2x (A0w n).1:Int)+((A0w n).2-1074))*30103).tdiv 100000):
 Calls Tryz.prog 66 #[.int .u64 n] w λe w'=>∃B q o l j,e=.returned (.pointer (some ⟨B,0,none⟩))/\∃k:Nat,k<=2000/\A8w p (upF (A0w n).2*(4*(A0w n).1))<B7z p k (dnF (A0w n).2*4)/\B7z p k (dnF (A0w n).2*4)<p2 5000*10/\
  St (λi=>i=B) w w' B 0 (p+k) (A8w p (upF (A0w n).2*(4*(A0w n).1))) (A8w p (upF (A0w n).2*B2w n)) (A8w p (upF (A0w n).2*2)) (B7z p k (dnF (A0w n).2*4)) q o l j (decide ((A0w n).1 % 2=0)):=by
 have d6:n/4503599627370496<=2046:=by omega
 have d9:(0:Int)<(n:Int)/4503599627370496:=by omega
 have b0:A0w n=(4503599627370496+n % 4503599627370496,n/4503599627370496-1):=if_neg hE
 have t:bits BinOp.or IntKind.u64 (bits BinOp.and IntKind.u64 (n:Int) 4503599627370495) 4503599627370496=((4503599627370496+n % 4503599627370496:Nat):Int):=by
  rw[show(4503599627370495:Int)=((4503599627370495:Nat):Int)from rfl,u64_and_nat n _ (by omega) (by omega),show(4503599627370496:Int)=((4503599627370496:Nat):Int)from rfl];have b1:n&&&4503599627370495=n % 4503599627370496:=Nat.and_two_pow_sub_one_eq_mod n 52;rw[b1,u64_or_nat _ _ (by omega) (by omega),Nat.or_comm,nat_join 52 _ _ (by decide) (by omega)]
 have HN:=hid hn;have HP:=hid hp;have O:=hid t;clear t;go_enter Tryz.func66,Tryz.ntmps66
 go_wp2_with fail
 obtain⟨m,hm⟩:∃m,m=4503599627370496+n % 4503599627370496:=⟨_,rfl⟩;obtain⟨E,P⟩:∃E:Nat,E=n/4503599627370496-1:=⟨_,rfl⟩;have c:Hid (A0w n=(m,E)):=by rw[Hid,b0,hm,P]
 have c9:m<9007199254740992:=by omega
 have b6:E<=2045:=by omega
 rw[O.out,<-hm,show((n:Int)/4503599627370496-1+ -1074)=(E:Int)-1074 from by omega,IntWalk.u64_in ((m:Int)*4) (by omega),show((m:Int)*4)=((4*m:Nat):Int)from by omega];have b7:=hid hm;have d1:=hid P;clear hm P b0;have Z:=hid ((Sx.start (A:=λ_=>False) w (λi h=>h.elim)).alloc (.cells #[.int .i64 ((E:Int)-1074)] 3));have V:=hid (heap_alloc_new w (.cells #[.int .i64 ((E:Int)-1074)] 3));have d7:(w.alloc (.cells #[.int .i64 ((E:Int)-1074)] 3)).heap.size=w.heap.size+1:=World.size_alloc _ _;generalize w.alloc (.cells #[.int .i64 ((E:Int)-1074)] 3)=w1 at*;refine(A1q (4*m) (by omega) Z.out).mono ?_;rintro e w2 ⟨q,rfl,b2,a5⟩;have a0:=hid b2;have W:=hid a5;clear b2 a5
 go_wp2_with fail
 refine(A1q 2 (by omega) a0.out).mono ?_;rintro e w3 ⟨o,rfl,b3,a6⟩;have a1:=hid b3;have X:=hid (W.trans a6);clear b3 a6 a0 W
 go_wp2_with fail
 refine(A1q 2 (by omega) a1.out).mono ?_;rintro e w4 ⟨l,rfl,b4,a7⟩;have a2:=hid b4;have Y:=hid (X.trans a7);clear b4 a7 a1 X
 go_wp2_with fail
 refine(A1q 4 (by omega) a2.out).mono ?_;rintro e d ⟨j,rfl,Q,a8⟩;have b8:=hid Q;have I:=Y.trans a8;have z:d.heap[w.heap.size]? =some (.cells #[.int .i64 ((E:Int)-1074)] 3 (0,0)):=(I _ (.inr rfl)).trans V.out;have c5:w.heap.size<d.heap.size:=lt_of_block z;have K:[(j,4),(l,2),(o,2),(q,4*m)].Perm [(q,4*m),(o,2),(l,2),(j,4)]:=List.reverse_perm [(q,4*m),(o,2),(l,2),(j,4)]
 have L:St (λi=>(False\/i=w.heap.size)\/i=d.heap.size) w (d.alloc (.cells #[.int .u64 0,.int .i64 0,.pointer (some ⟨q,0,none⟩),.pointer (some ⟨o,0,none⟩),.pointer (some ⟨l,0,none⟩),.pointer (some ⟨j,0,none⟩),.bool (decide (m % 2=0))] 143)) d.heap.size 0 0 (4*m) 2 2 4 q o l j (decide (m % 2=0)):=
  ⟨heap_alloc_new d _,(Q.perm K).alloc _,.inr rfl,by omega⟩
 have H:(d.alloc (.cells #[.int .u64 0,.int .i64 0,.pointer (some ⟨q,0,none⟩),.pointer (some ⟨o,0,none⟩),.pointer (some ⟨l,0,none⟩),.pointer (some ⟨j,0,none⟩),.bool (decide (m % 2=0))] 143)).heap[w.heap.size]? =some (.cells #[.int .i64 ((E:Int)-1074)] 3 (0,0)):=(Below.heap_alloc d _ _ c5).trans z;have c1:=cell_of_one z
 have d3:((m:Int) % 2==0)=decide (m % 2=0):=by
  by_cases h:m % 2=0
  ·rw[dcT h];exact beq_iff_eq.2 (by omega)
  ·rw[dcF h];exact bqF (by omega)
 have G:=hid L;have F:=hid H;clear Q a8 I z K L H a2 Y Z V b8;have c3:m≠4503599627370496:=by have:=b7.out;omega
 have a3:Hid (B2w n=2):=by rw[Hid,B2w,c.out];exact if_neg (by rintro⟨h1,h2⟩;exact c3 h1)
 have d4:((m:Int)==4503599627370496)=false:=bqF (by omega);have f:Hid (B2w n=2):=a3.out;have a:=hid G.out;have b:=hid F.out;have c8:d.heap.size<(d.alloc (.cells #[.int .u64 0,.int .i64 0,.pointer (some ⟨q,0,none⟩),.pointer (some ⟨o,0,none⟩),.pointer (some ⟨l,0,none⟩),.pointer (some ⟨j,0,none⟩),.bool (decide (m % 2=0))] 143)).heap.size:=by rw[World.size_alloc];omega
 clear G F a3;obtain⟨D,v⟩:∃D,D=2:=⟨2,rfl⟩;replace a:=hid (show St (λi=>(False\/i=w.heap.size)\/i=d.heap.size) w (d.alloc (.cells #[.int .u64 0,.int .i64 0,.pointer (some ⟨q,0,none⟩),.pointer (some ⟨o,0,none⟩),.pointer (some ⟨l,0,none⟩),.pointer (some ⟨j,0,none⟩),.bool (decide (m % 2=0))] 143)) d.heap.size 0 0 (4*m) D 2 4 q o l j (decide (m % 2=0))from by rw[v];exact a.out);replace f:Hid (B2w n=D):=by rw[v];exact f.out
 clear v;generalize e0:d.alloc (.cells #[.int .u64 0,.int .i64 0,.pointer (some ⟨q,0,none⟩),.pointer (some ⟨o,0,none⟩),.pointer (some ⟨l,0,none⟩),.pointer (some ⟨j,0,none⟩),.bool (decide (m % 2=0))] 143)=w8 at*;clear c1;have c2:m<9007199254740992:=by omega
 have d5:A2x m<=53:=B1j m 53 c2
 have x:Hid (∀wx,Calls Tryz.prog 116 #[.int .u64 ((m:Int))] wx λe w'=>e=.returned (.int .i64 (A2x m:Nat))/\w'=wx):=by
  intro wx;have:=B4e ((m:Int)) wx (by omega) (by omega);rw[show((m:Int):Int).toNat=m from by omega,A8i _ (by omega)]at this;exact this
 have c7:D<=2:=by have:=f.out;unfold B2w at this;split at this<;>omega
 have c6:w.heap.size≠d.heap.size:=by omega
 by_cases d8:1074<=E
 ·obtain⟨k,rfl⟩:∃k,E=k+1074:=⟨E-1074,by omega⟩
  have a9:((k+1074:Nat):Int)-1074=(k:Int):=by omega
  rw[a9]at b;have u:=cell_of_one b.out;have S:p2 k*(4*m)<p2 1400:=Nat.lt_of_lt_of_le (A1x (k:=55) (by show _<2^55;omega)) (A2t (by omega));have T:p2 k*D<p2 1400:=Nat.lt_of_lt_of_le (A1x (k:=2) (by show _<2^2;omega)) (A2t (by omega));have U:p2 k*2<p2 1400:=Nat.lt_of_lt_of_le (A1x (k:=2) (by show _<2^2;omega)) (A2t (by omega))
  go_wp2_with fail
  refine(A9s k w.heap.size (by omega) (A5a S (by omega)) (A5a T (by omega)) (A5a U (by omega)) b.out (.inl (.inr rfl)) a.out).mono ?_;rintro e w9 ⟨rfl,M,r⟩;have g:=(r w.heap.size (.inl (.inr rfl))).trans b.out;have a4:=cell_of_one g;have s:=hid M;have Q1:=hid S;have Q2:=hid T;have Q3:=hid U;have y:Hid (upF (k+1074)=p2 k):=by rw[Hid,upF,Nat.add_sub_cancel]
  have C:Hid (dnF (k+1074)*4=4):=by rw[Hid,dnF,show 1074-(k+1074)=0 from by omega];rfl
  have J:Hid ((A2x m:Int)+((((k+1074:Nat):Int))-1074)=(A2x m:Int)+k):=by show _=_;omega
  clear M r g S T U a b u a9
  go_wp2_with fail
  go_region_with (first|(go_at_call 116;refine(x.out _).mono ?_;rintro e R ⟨rfl,rfl⟩)|(go_at_call 115;rw[IntWalk.i64_in ((A2x m:Int)+k) (by omega)];refine(A4b ((A2x m:Int)+k) (by omega) (by omega) (by omega) Q1.out Q2.out Q3.out (Nat.lt_of_lt_of_le (by show 4<2^3;omega) (A2t (show 3<=1400 by omega))) ((s.drewN 1).weaken (λi hi=>.inr hi) rfl) p (by rw[HP.out,c.out,J.out])).mono ?_;rintro e R ⟨rfl,kk,t1,t2,t3,t4⟩))
  all_goals
   go_wp2;go_ret;refine⟨d.heap.size,q,o,l,j,rfl,kk,t1,?_,?_,?_⟩
   ·rw[c.out,y.out,C.out];exact t2
   ·rw[c.out,C.out];exact t3
   ·rw[c.out,y.out,C.out,f.out];exact t4
 ·have d2:E<1074:=by omega
  have u:=cell_of_one b.out;have d0:decide ((0:Int)<=(E:Int)-1074)=false:=dcF (by omega);have q0:p2 (1074-E)*4<p2 1400:=Nat.lt_of_lt_of_le (A1x (k:=3) (by show _<2^3;omega)) (A2t (by omega));have S:4*m<p2 1400:=Nat.lt_of_lt_of_le (by show 4*m<2^55;omega) (A2t (show 55<=1400 by omega));have T:D<p2 1400:=Nat.lt_of_lt_of_le (by show D<2^2;omega) (A2t (show 2<=1400 by omega));have U:2<p2 1400:=Nat.lt_of_lt_of_le (by show 2<2^2;omega) (A2t (show 2<=1400 by omega));have c0:=a.sv.cells.2.2.2.2.2.1;have c4:Hid (-((E:Int)-1074)=((1074-E:Nat):Int)):=by show _=_;omega
  have Q0:=hid q0;have Q1:=hid S;have Q2:=hid T;have Q3:=hid U;have y:Hid (upF E=1):=by rw[Hid,upF,show E-1074=0 from by omega];rfl
  have C:Hid (p2 (1074-E)*4=dnF E*4):=rfl;have J:Hid ((A2x m:Int)+((E:Int)-1074)=(A2x m:Int)+((E:Int)-1074)):=rfl;have b9:Hid (0<p2 (1074-E)*4):=Nat.mul_pos (A2y _) (by omega);clear q0 S T U
  go_wp2_with fail
  go_region_with (go_at_call 114;rw[IntWalk.i64_in (-((E:Int)-1074)) (by omega),c4.out];refine(C7t j 4 (1074-E) (by omega) (A5a Q0.out (by omega)) (Sx.drewN (E0r a.sx) 1)).mono ?_;rintro e w9 ⟨rfl,b5,r⟩)
  all_goals
   have N:=A4a.keep (w:=w8.drewN 1) a.sv r (.inr rfl);have g:=(r w.heap.size (.inl (.inr rfl))).trans b.out;have a4:=cell_of_one g;have s:=hid (show St (λi=>(False\/i=w.heap.size)\/i=d.heap.size) w w9 d.heap.size 0 0 (4*m) D 2 (p2 (1074-E)*4) q o l j (decide (m % 2=0))from⟨N,C7u b5,.inr rfl,a.new⟩);clear b5 r N g a b u c0
   go_wp2_with fail
   go_region_with (first|(go_at_call 116;refine(x.out _).mono ?_;rintro e R ⟨rfl,rfl⟩)|(go_at_call 115;rw[IntWalk.i64_in ((A2x m:Int)+((E:Int)-1074)) (by omega)];refine(A4b ((A2x m:Int)+((E:Int)-1074)) (by omega) (by omega) b9.out Q1.out Q2.out Q3.out Q0.out ((s.drewN 1).weaken (λi hi=>.inr hi) rfl) p (by rw[HP.out,c.out])).mono ?_;rintro e R ⟨rfl,kk,t1,t2,t3,t4⟩))
   all_goals
    go_wp2;go_ret;refine⟨d.heap.size,q,o,l,j,rfl,kk,t1,?_,?_,?_⟩
    ·rw[c.out,y.out,Nat.one_mul];exact t2
    ·rw[c.out];exact t3
    ·rw[c.out,y.out,Nat.one_mul,Nat.one_mul,Nat.one_mul,f.out];exact t4
end Go.Proofs.YtmkkibaacclhnaaGreatDoor
