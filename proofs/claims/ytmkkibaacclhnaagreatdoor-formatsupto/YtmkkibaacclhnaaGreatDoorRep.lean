/-
  Part Rep.
-/
import Derived.Test.YtmkkibaacclhnaaGreatDoorPkn
import Derived.Test.YtmkkibaacclhnaaGreatDoorNewB
import Derived.Test.YtmkkibaacclhnaaGreatDoorStr
namespace Go.Proofs.YtmkkibaacclhnaaGreatDoor
open Go.RowKit
set_option maxRecDepth 100000
set_option maxHeartbeats 16000000
theorem F6t:decide (4503599627370496 % 2=0)=true:=by decide
theorem D1n (n:Nat) (w:World) (hn:n<9218868437227405312) (hE:¬n/4503599627370496=0) (hz:n % 4503599627370496=0) (p:Int) (hp:p=(((A2x (A0w n).1:Int)+((A0w n).2-1074))*30103).tdiv 100000):
 Calls Tryz.prog 66 #[.int .u64 n] w λe w'=>∃B o s l j,e=.returned (.pointer (some ⟨B,0,none⟩))/\∃k:Nat,k<=2000/\A8w p (upF (A0w n).2*(4*(A0w n).1))<B7z p k (dnF (A0w n).2*4)/\B7z p k (dnF (A0w n).2*4)<p2 5000*10/\
  St (λi=>i=B) w w' B 0 (p+k) (A8w p (upF (A0w n).2*(4*(A0w n).1))) (A8w p (upF (A0w n).2*B2w n)) (A8w p (upF (A0w n).2*2)) (B7z p k (dnF (A0w n).2*4)) o s l j (decide ((A0w n).1 % 2=0)):=by
 have f7:n/4503599627370496<=2046:=by omega
 have f9:(0:Int)<(n:Int)/4503599627370496:=by omega
 have d3:A0w n=(4503599627370496+n % 4503599627370496,n/4503599627370496-1):=if_neg hE
 have I:bits BinOp.or IntKind.u64 (bits BinOp.and IntKind.u64 (n:Int) 4503599627370495) 4503599627370496=((4503599627370496+n % 4503599627370496:Nat):Int):=by
  rw[show(4503599627370495:Int)=((4503599627370495:Nat):Int)from rfl,u64_and_nat n _ (by omega) (by omega),show(4503599627370496:Int)=((4503599627370496:Nat):Int)from rfl];have d4:n&&&4503599627370495=n % 4503599627370496:=Nat.and_two_pow_sub_one_eq_mod n 52;rw[d4,u64_or_nat _ _ (by omega) (by omega),Nat.or_comm,nat_join 52 _ _ (by decide) (by omega)]
 have HN:=hid hn;have HP:=hid hp;have a6:=hid I;clear I;go_enter Tryz.func66,Tryz.ntmps66
 go_wp2_with fail
 obtain⟨m,hm⟩:∃m,m=4503599627370496+n % 4503599627370496:=⟨_,rfl⟩;obtain⟨E,a7⟩:∃E:Nat,E=n/4503599627370496-1:=⟨_,rfl⟩;have g:Hid (A0w n=(m,E)):=by rw[Hid,d3,hm,a7]
 have f3:m<9007199254740992:=by omega
 have e1:E<=2045:=by omega
 rw[a6.out,<-hm,show((n:Int)/4503599627370496-1+ -1074)=(E:Int)-1074 from by omega,IntWalk.u64_in ((m:Int)*4) (by omega),show((m:Int)*4)=((4*m:Nat):Int)from by omega];have e2:=hid hm;have f4:=hid a7;clear hm a7 d3;have b9:=hid ((Sx.start (A:=λ_=>False) w (λi h=>h.elim)).alloc (.cells #[.int .i64 ((E:Int)-1074)] 3));have b5:=hid (heap_alloc_new w (.cells #[.int .i64 ((E:Int)-1074)] 3));have f8:(w.alloc (.cells #[.int .i64 ((E:Int)-1074)] 3)).heap.size=w.heap.size+1:=World.size_alloc _ _;generalize w.alloc (.cells #[.int .i64 ((E:Int)-1074)] 3)=w1 at*;refine(A1q (4*m) (by omega) b9.out).mono ?_;rintro e w2 ⟨o,rfl,d6,c6⟩;have c0:=hid d6;have b6:=hid c6;clear d6 c6
 go_wp2_with fail
 refine(A1q 2 (by omega) c0.out).mono ?_;rintro e w3 ⟨s,rfl,d7,c7⟩;have c1:=hid d7;have b7:=hid (b6.trans c7);clear d7 c7 c0 b6
 go_wp2_with fail
 refine(A1q 2 (by omega) c1.out).mono ?_;rintro e w4 ⟨l,rfl,d8,c8⟩;have c2:=hid d8;have b8:=hid (b7.trans c8);clear d8 c8 c1 b7
 go_wp2_with fail
 refine(A1q 4 (by omega) c2.out).mono ?_;rintro e c ⟨j,rfl,b4,c9⟩;have e3:=hid b4;have Z:=b8.trans c9;have R:c.heap[w.heap.size]? =some (.cells #[.int .i64 ((E:Int)-1074)] 3 (0,0)):=(Z _ (.inr rfl)).trans b5.out;have e8:w.heap.size<c.heap.size:=lt_of_block R;have a0:[(j,4),(l,2),(s,2),(o,4*m)].Perm [(o,4*m),(s,2),(l,2),(j,4)]:=List.reverse_perm [(o,4*m),(s,2),(l,2),(j,4)]
 have a3:St (λi=>(False\/i=w.heap.size)\/i=c.heap.size) w (c.alloc (.cells #[.int .u64 0,.int .i64 0,.pointer (some ⟨o,0,none⟩),.pointer (some ⟨s,0,none⟩),.pointer (some ⟨l,0,none⟩),.pointer (some ⟨j,0,none⟩),.bool (decide (m % 2=0))] 143)) c.heap.size 0 0 (4*m) 2 2 4 o s l j (decide (m % 2=0)):=
  ⟨heap_alloc_new c _,(b4.perm a0).alloc _,.inr rfl,by omega⟩
 have X:(c.alloc (.cells #[.int .u64 0,.int .i64 0,.pointer (some ⟨o,0,none⟩),.pointer (some ⟨s,0,none⟩),.pointer (some ⟨l,0,none⟩),.pointer (some ⟨j,0,none⟩),.bool (decide (m % 2=0))] 143)).heap[w.heap.size]? =some (.cells #[.int .i64 ((E:Int)-1074)] 3 (0,0)):=(Below.heap_alloc c _ _ e8).trans R;have c4:=cell_of_one R
 have c5:((m:Int) % 2==0)=decide (m % 2=0):=by
  by_cases h:m % 2=0
  ·rw[dcT h];exact beq_iff_eq.2 (by omega)
  ·rw[dcF h];exact bqF (by omega)
 have r:=hid a3;have u:=hid X;clear b4 c9 Z R a0 a3 X c2 b8 b9 b5 e3;by_cases z:m=4503599627370496/\0<E
 ·have H:Hid (B2w n=1):=by rw[Hid,B2w,g.out];exact if_pos z
  have e5:0<E:=z.2;have f0:decide ((-1074:Int)<(E:Int)-1074)=true:=dcT (by omega);have b1:m=4503599627370496:=z.1;clear z c5;subst b1;have L:decide (4503599627370496 % 2=0)=true:=by decide
  rw[L]at r u;clear L
  go_wp2_with fail
  generalize e4:c.alloc (.cells #[.int .u64 0,.int .i64 0,.pointer (some ⟨o,0,none⟩),.pointer (some ⟨s,0,none⟩),.pointer (some ⟨l,0,none⟩),.pointer (some ⟨j,0,none⟩),.bool true] 143)=w6 at*;clear e4 c4;refine(A1q 1 (by omega) r.sx).mono ?_;rintro e w7 ⟨d,rfl,d9,b0⟩;have C:=A4a.keep r.sv b0 (.inr rfl);have J:=(b0 w.heap.size (.inl (.inr rfl))).trans u.out;have f5:=C.cells.2.2.2.1;have f6:=C.cells.2.2.2.2.2.2.2 3
  have e0:Sx (λ_=>False) (λi=>(False\/i=w.heap.size)\/i=c.heap.size) w w7 [(o,4*4503599627370496),(d,1),(l,2),(j,4)]:=by
   have P:[(d,1),(o,4*4503599627370496),(s,2),(l,2),(j,4)].Perm [(s,2),(o,4*4503599627370496),(d,1),(l,2),(j,4)]:=by
    have a1:[(d,1),(o,4*4503599627370496),(s,2),(l,2),(j,4)].Perm [(o,4*4503599627370496),(d,1),(s,2),(l,2),(j,4)]:=List.Perm.swap _ _ _;have a2:[(o,4*4503599627370496),(d,1),(s,2),(l,2),(j,4)].Perm [(o,4*4503599627370496),(s,2),(d,1),(l,2),(j,4)]:=(List.Perm.swap _ _ _).cons _;exact a1.trans (a2.trans (List.Perm.swap _ _ _))
   exact(d9.perm P).tail
  have a4:St (λi=>(False\/i=w.heap.size)\/i=c.heap.size) w (w7.setCell ⟨c.heap.size,3,none⟩ (.pointer (some ⟨d,0,none⟩))) c.heap.size 0 0 (4*4503599627370496) 1 2 4 o d l j true:=
   ⟨C.set3 d,e0.other (T:=λi=>i=c.heap.size) ((Fr.refl (λi=>i=c.heap.size) w7).setCell (p:=⟨c.heap.size,3,none⟩) (.inl rfl) _) (λi hi=>.inr (by omega)) (λi hi=>.inr hi),.inr rfl,by omega⟩
  have Y:=(Below.heap_setCell w7 ⟨c.heap.size,3,none⟩ (.pointer (some ⟨d,0,none⟩)) w.heap.size (by simp;omega)).trans J;have d2:=lt_of_block C;have f2:=cell_of_one J;have a:=hid a4;have b:=hid Y;have f:Hid (B2w n=1):=H.out;generalize 1=G at a f;clear d9 b0 C J e0 a4 Y r u H;generalize f1:w7.setCell ⟨c.heap.size,3,none⟩ (.pointer (some ⟨d,0,none⟩))=w8 at*;have b2:4503599627370496<9007199254740992:=by omega
  have e7:A2x 4503599627370496<=53:=B1j 4503599627370496 53 b2
  have v:Hid (∀V,Calls Tryz.prog 116 #[.int .u64 (4503599627370496)] V λe w'=>e=.returned (.int .i64 (A2x 4503599627370496:Nat))/\w'=V):=by
   intro V;have:=B4e (4503599627370496) V (by omega) (by omega);rw[show(4503599627370496:Int).toNat=4503599627370496 from by omega,A8i _ (by omega)]at this;exact this
  have d1:G<=2:=by have:=f.out;unfold B2w at this;split at this<;>omega
  have c3:w.heap.size≠c.heap.size:=by omega
  by_cases e9:1074<=E
  ·obtain⟨k,rfl⟩:∃k,E=k+1074:=⟨E-1074,by omega⟩
   have d0:((k+1074:Nat):Int)-1074=(k:Int):=by omega
   rw[d0]at b;have y:=cell_of_one b.out;have P:p2 k*(4*4503599627370496)<p2 1400:=Nat.lt_of_lt_of_le (A1x (k:=55) (by show _<2^55;omega)) (A2t (by omega));have S:p2 k*G<p2 1400:=Nat.lt_of_lt_of_le (A1x (k:=2) (by show _<2^2;omega)) (A2t (by omega));have U:p2 k*2<p2 1400:=Nat.lt_of_lt_of_le (A1x (k:=2) (by show _<2^2;omega)) (A2t (by omega))
   go_wp2_with fail
   refine(A9s k w.heap.size (by omega) (A5a P (by omega)) (A5a S (by omega)) (A5a U (by omega)) b.out (.inl (.inr rfl)) a.out).mono ?_;rintro e w9 ⟨rfl,a5,t⟩;have q:=(t w.heap.size (.inl (.inr rfl))).trans b.out;have W:=cell_of_one q;have x:=hid a5;have Q1:=hid P;have Q2:=hid S;have Q3:=hid U;have F:Hid (upF (k+1074)=p2 k):=by rw[Hid,upF,Nat.add_sub_cancel]
   have K:Hid (dnF (k+1074)*4=4):=by rw[Hid,dnF,show 1074-(k+1074)=0 from by omega];rfl
   have M:Hid ((A2x 4503599627370496:Int)+((((k+1074:Nat):Int))-1074)=(A2x 4503599627370496:Int)+k):=by show _=_;omega
   clear a5 t q P S U a b y d0
   go_wp2_with fail
   go_region_with (first|(go_at_call 116;refine(v.out _).mono ?_;rintro e Q ⟨rfl,rfl⟩)|(go_at_call 115;rw[IntWalk.i64_in ((A2x 4503599627370496:Int)+k) (by omega)];refine(A4b ((A2x 4503599627370496:Int)+k) (by omega) (by omega) (by omega) Q1.out Q2.out Q3.out (Nat.lt_of_lt_of_le (by show 4<2^3;omega) (A2t (show 3<=1400 by omega))) ((x.drewN 1).weaken (λi hi=>.inr hi) rfl) p (by rw[HP.out,g.out,M.out])).mono ?_;rintro e Q ⟨rfl,kk,t1,t2,t3,t4⟩))
   all_goals
    go_wp2;go_ret;refine⟨c.heap.size,o,d,l,j,rfl,kk,t1,?_,?_,?_⟩
    ·rw[g.out,F.out,K.out];exact t2
    ·rw[g.out,K.out];exact t3
    ·rw[g.out,F.out,K.out,f.out,show decide ((4503599627370496,k+1074).1 % 2=0)=true from F6t];exact t4
  ·have e6:E<1074:=by omega
   have y:=cell_of_one b.out;have d5:decide ((0:Int)<=(E:Int)-1074)=false:=dcF (by omega);have q0:p2 (1074-E)*4<p2 1400:=Nat.lt_of_lt_of_le (A1x (k:=3) (by show _<2^3;omega)) (A2t (by omega));have P:4*4503599627370496<p2 1400:=Nat.lt_of_lt_of_le (by show 4*4503599627370496<2^55;omega) (A2t (show 55<=1400 by omega));have S:G<p2 1400:=Nat.lt_of_lt_of_le (by show G<2^2;omega) (A2t (show 2<=1400 by omega));have U:2<p2 1400:=Nat.lt_of_lt_of_le (by show 2<2^2;omega) (A2t (show 2<=1400 by omega));have a9:=a.sv.cells.2.2.2.2.2.1;have b3:Hid (-((E:Int)-1074)=((1074-E:Nat):Int)):=by show _=_;omega
   have Q0:=hid q0;have Q1:=hid P;have Q2:=hid S;have Q3:=hid U;have F:Hid (upF E=1):=by rw[Hid,upF,show E-1074=0 from by omega];rfl
   have K:Hid (p2 (1074-E)*4=dnF E*4):=rfl;have M:Hid ((A2x 4503599627370496:Int)+((E:Int)-1074)=(A2x 4503599627370496:Int)+((E:Int)-1074)):=rfl;have a8:Hid (0<p2 (1074-E)*4):=Nat.mul_pos (A2y _) (by omega);clear q0 P S U
   go_wp2_with fail
   go_region_with (go_at_call 114;rw[IntWalk.i64_in (-((E:Int)-1074)) (by omega),b3.out];refine(C7t j 4 (1074-E) (by omega) (A5a Q0.out (by omega)) (Sx.drewN (E0r a.sx) 1)).mono ?_;rintro e w9 ⟨rfl,O,t⟩)
   all_goals
    have D:=A4a.keep (w:=w8.drewN 1) a.sv t (.inr rfl);have q:=(t w.heap.size (.inl (.inr rfl))).trans b.out;have W:=cell_of_one q;have x:=hid (show St (λi=>(False\/i=w.heap.size)\/i=c.heap.size) w w9 c.heap.size 0 0 (4*4503599627370496) G 2 (p2 (1074-E)*4) o d l j true from⟨D,C7u O,.inr rfl,a.new⟩);clear O t D q a b y a9
    go_wp2_with fail
    go_region_with (first|(go_at_call 116;refine(v.out _).mono ?_;rintro e Q ⟨rfl,rfl⟩)|(go_at_call 115;rw[IntWalk.i64_in ((A2x 4503599627370496:Int)+((E:Int)-1074)) (by omega)];refine(A4b ((A2x 4503599627370496:Int)+((E:Int)-1074)) (by omega) (by omega) a8.out Q1.out Q2.out Q3.out Q0.out ((x.drewN 1).weaken (λi hi=>.inr hi) rfl) p (by rw[HP.out,g.out])).mono ?_;rintro e Q ⟨rfl,kk,t1,t2,t3,t4⟩))
    all_goals
     go_wp2;go_ret;refine⟨c.heap.size,o,d,l,j,rfl,kk,t1,?_,?_,?_⟩
     ·rw[g.out,F.out,Nat.one_mul];exact t2
     ·rw[g.out];exact t3
     ·rw[g.out,F.out,Nat.one_mul,Nat.one_mul,Nat.one_mul,f.out,show decide ((4503599627370496,E).1 % 2=0)=true from F6t];exact t4
 ·have b1:m=4503599627370496:=by have:=e2.out;omega
  have e5:E<=0:=by omega
  have f0:decide ((-1074:Int)<(E:Int)-1074)=false:=dcF (by omega);have H:Hid (B2w n=2):=by rw[Hid,B2w,g.out];exact if_neg (by rintro⟨h1,h2⟩;simp only at h2;omega)
  clear z c5;subst b1;have L:decide (4503599627370496 % 2=0)=true:=by decide
  rw[L]at r u;clear L;have f:Hid (B2w n=2):=H.out;have a:=hid r.out;have b:=hid u.out;have d2:c.heap.size<(c.alloc (.cells #[.int .u64 0,.int .i64 0,.pointer (some ⟨o,0,none⟩),.pointer (some ⟨s,0,none⟩),.pointer (some ⟨l,0,none⟩),.pointer (some ⟨j,0,none⟩),.bool true] 143)).heap.size:=by rw[World.size_alloc];omega
  clear r u H;obtain⟨G,N⟩:∃G,G=2:=⟨2,rfl⟩;replace a:=hid (show St (λi=>(False\/i=w.heap.size)\/i=c.heap.size) w (c.alloc (.cells #[.int .u64 0,.int .i64 0,.pointer (some ⟨o,0,none⟩),.pointer (some ⟨s,0,none⟩),.pointer (some ⟨l,0,none⟩),.pointer (some ⟨j,0,none⟩),.bool true] 143)) c.heap.size 0 0 (4*4503599627370496) G 2 4 o s l j true from by rw[N];exact a.out);replace f:Hid (B2w n=G):=by rw[N];exact f.out
  clear N;generalize f1:c.alloc (.cells #[.int .u64 0,.int .i64 0,.pointer (some ⟨o,0,none⟩),.pointer (some ⟨s,0,none⟩),.pointer (some ⟨l,0,none⟩),.pointer (some ⟨j,0,none⟩),.bool true] 143)=w8 at*;clear c4;have b2:4503599627370496<9007199254740992:=by omega
  have e7:A2x 4503599627370496<=53:=B1j 4503599627370496 53 b2
  have v:Hid (∀V,Calls Tryz.prog 116 #[.int .u64 (4503599627370496)] V λe w'=>e=.returned (.int .i64 (A2x 4503599627370496:Nat))/\w'=V):=by
   intro V;have:=B4e (4503599627370496) V (by omega) (by omega);rw[show(4503599627370496:Int).toNat=4503599627370496 from by omega,A8i _ (by omega)]at this;exact this
  have d1:G<=2:=by have:=f.out;unfold B2w at this;split at this<;>omega
  have c3:w.heap.size≠c.heap.size:=by omega
  by_cases e9:1074<=E
  ·exfalso;omega
  ·have e6:E<1074:=by omega
   have y:=cell_of_one b.out;have d5:decide ((0:Int)<=(E:Int)-1074)=false:=dcF (by omega);have q0:p2 (1074-E)*4<p2 1400:=Nat.lt_of_lt_of_le (A1x (k:=3) (by show _<2^3;omega)) (A2t (by omega));have P:4*4503599627370496<p2 1400:=Nat.lt_of_lt_of_le (by show 4*4503599627370496<2^55;omega) (A2t (show 55<=1400 by omega));have S:G<p2 1400:=Nat.lt_of_lt_of_le (by show G<2^2;omega) (A2t (show 2<=1400 by omega));have U:2<p2 1400:=Nat.lt_of_lt_of_le (by show 2<2^2;omega) (A2t (show 2<=1400 by omega));have a9:=a.sv.cells.2.2.2.2.2.1;have b3:Hid (-((E:Int)-1074)=((1074-E:Nat):Int)):=by show _=_;omega
   have Q0:=hid q0;have Q1:=hid P;have Q2:=hid S;have Q3:=hid U;have F:Hid (upF E=1):=by rw[Hid,upF,show E-1074=0 from by omega];rfl
   have K:Hid (p2 (1074-E)*4=dnF E*4):=rfl;have M:Hid ((A2x 4503599627370496:Int)+((E:Int)-1074)=(A2x 4503599627370496:Int)+((E:Int)-1074)):=rfl;have a8:Hid (0<p2 (1074-E)*4):=Nat.mul_pos (A2y _) (by omega);clear q0 P S U
   go_wp2_with fail
   go_region_with (go_at_call 114;rw[IntWalk.i64_in (-((E:Int)-1074)) (by omega),b3.out];refine(C7t j 4 (1074-E) (by omega) (A5a Q0.out (by omega)) (Sx.drewN (E0r a.sx) 1)).mono ?_;rintro e w9 ⟨rfl,O,t⟩)
   all_goals
    have D:=A4a.keep (w:=w8.drewN 1) a.sv t (.inr rfl);have q:=(t w.heap.size (.inl (.inr rfl))).trans b.out;have W:=cell_of_one q;have x:=hid (show St (λi=>(False\/i=w.heap.size)\/i=c.heap.size) w w9 c.heap.size 0 0 (4*4503599627370496) G 2 (p2 (1074-E)*4) o s l j true from⟨D,C7u O,.inr rfl,a.new⟩);clear O t D q a b y a9
    go_wp2_with fail
    go_region_with (first|(go_at_call 116;refine(v.out _).mono ?_;rintro e Q ⟨rfl,rfl⟩)|(go_at_call 115;rw[IntWalk.i64_in ((A2x 4503599627370496:Int)+((E:Int)-1074)) (by omega)];refine(A4b ((A2x 4503599627370496:Int)+((E:Int)-1074)) (by omega) (by omega) a8.out Q1.out Q2.out Q3.out Q0.out ((x.drewN 1).weaken (λi hi=>.inr hi) rfl) p (by rw[HP.out,g.out])).mono ?_;rintro e Q ⟨rfl,kk,t1,t2,t3,t4⟩))
    all_goals
     go_wp2;go_ret;refine⟨c.heap.size,o,s,l,j,rfl,kk,t1,?_,?_,?_⟩
     ·rw[g.out,F.out,Nat.one_mul];exact t2
     ·rw[g.out];exact t3
     ·rw[g.out,F.out,Nat.one_mul,Nat.one_mul,Nat.one_mul,f.out,show decide ((4503599627370496,E).1 % 2=0)=true from F6t];exact t4
def ev (n:Nat):Bool:=decide ((A0w n).1 % 2=0)
def E2a (n:Nat) (pw:Int):Prop:=∃dg R L H U,Inv n dg (pw+1) R L H U/\(A6y dg R L H U (ev n)).2=false
def B1e (n D:Nat) (pw:Int):Prop:=∃dg R L H U,Inv n dg pw R L H U/\A6y dg R L H U (ev n)=(D,true)/\(dg=0\/E2a n pw)
theorem D6w {d R L H U:Nat} {a:Bool} (h:(A6y d R L H U a).2=false):L<=R/\H<=U-R:=by
 unfold A6y at h;cases b:wi R L a<;>cases c:wi (U-R) H a<;>rw[b,c]at h<;>simp only at h
 ·unfold wi at b c
  simp at b c;omega
 ·cases h
 ·cases h
 ·split at h<;>cases h
theorem Inv.hpos {n b:Nat} {a:Int} {R L H U:Nat} (h:Inv n b a R L H U):0<H:=by
 rcases Nat.eq_zero_or_pos H with rfl|d
 ·exfalso
  have:=h.c;rw[Nat.mul_zero,Nat.zero_mul,B1n]at this;have e:0<pQ a U:=Nat.mul_pos (by have:=h.r;omega) (A0v _);have:=Nat.mul_pos (A2y (A0w n).2) e;omega
 ·exact d
theorem Inv.dg_le {n d:Nat} {e:Int} {R L H U:Nat} (h:Inv n d e R L H U) (p:n≠0) (o:L+H<=U):d<=9007199254740991:=by
 have q:0<pQ e U:=Nat.mul_pos (by have:=h.r;omega) (A0v _);obtain⟨_,t⟩:=B1m n
 have j:d*(L+H)*pP e<=V n*pQ e U:=by
  rw[<-h.a];exact Nat.mul_le_mul_right _ (Nat.le_trans (Nat.mul_le_mul_left d o) (Nat.le_add_right _ _))
 have i:2*(L+H)*pP e=(A7j n+A7d n)*pQ e U:=by rw[Nat.mul_add,Nat.add_mul,h.b,h.c,Nat.add_mul]
 have k:d*(A7j n+A7d n)*pQ e U<=2*V n*pQ e U:=by
  rw[Nat.mul_assoc,<-i,Nat.mul_assoc 2 (L+H),Nat.mul_left_comm d 2,<-Nat.mul_assoc d,Nat.mul_assoc 2 (V n)];exact Nat.mul_le_mul_left 2 j
 have s:=Nat.le_of_mul_le_mul_right k q;have m:=C4u n p;have l:=B1n n
 have f:d*((B2w n+2)*p2 (A0w n).2)<=4*V n:=by
  rw[Nat.add_mul,<-m,<-l,<-Nat.mul_add,Nat.mul_left_comm];omega
 rw[B1a,<-Nat.mul_assoc,<-Nat.mul_assoc]at f;have g:=Nat.le_of_mul_le_mul_right f (A2y _);unfold B2w at g;split at g<;>omega
theorem B1p {b R L H U D:Nat} {a:Bool} (h:A6y b R L H U a=(D,true)):D=b\/D=b+1:=by
 unfold A6y at h;cases c:wi R L a<;>cases d:wi (U-R) H a<;>rw[c,d]at h<;>simp only at h
 ·simp at h
 ·simp at h;omega
 ·simp at h;omega
 ·split at h<;>simp at h<;>omega
theorem Inv.start_le {n:Nat} {d:Int} {R L H U:Nat} (h:Inv n 0 d R L H U) (o:n≠0):L<=U/\H<=U:=by
 have f:=E1z d;have e:=h.a;rw[Nat.zero_mul,Nat.zero_add]at e;obtain⟨l,m⟩:=B1m n;have hr:=h.r;have g:A7j n<=V n:=Nat.sub_le _ _;have i:A7d n<=V n:=by rw[B1n,B1a];exact Nat.le_mul_of_pos_left _ (by omega)
 have j:2*L*pP d<=R*pP d:=by rw[h.b,e];exact Nat.mul_le_mul_right _ g
 have k:2*H*pP d<=R*pP d:=by rw[h.c,e];exact Nat.mul_le_mul_right _ i
 have p:=Nat.le_of_mul_le_mul_right j f;have q:=Nat.le_of_mul_le_mul_right k f;omega
theorem E9r:p2 5000*10<=p10 1700:=by
 have a:p2 5004<=p10 1668:=Nat.le_trans (A2t (by omega)) (D4b 1668);have e:p2 5004=16*p2 5000:=by rw[show 5004=4+5000 from rfl,A3x,show p2 4=16 from rfl]
 have b:=A3r 1668 1700 (by omega);omega
theorem C4v (n:Nat) (w:World) (l:n≠0) (j:n<9218868437227405312):
 Calls Tryz.prog 66 #[.int .u64 n] w λe w'=>∃B d c b f,e=.returned (.pointer (some ⟨B,0,none⟩))/\∃(a:Int) (R L H U:Nat),-332<=a/\a<=2332/\U<p2 5000*10/\Inv n 0 a R L H U/\St (λi=>i=B) w w' B 0 a R L H U d c b f (ev n):=by
 have r: -332<=(((A2x (A0w n).1:Int)+((A0w n).2-1074))*30103).tdiv 100000/\(((A2x (A0w n).1:Int)+((A0w n).2-1074))*30103).tdiv 100000<=332:=by
  obtain⟨m,o⟩:=B1m n;have p:A2x (A0w n).1<=53:=B1j _ 53 (by omega);exact E1y _ (by omega) (by omega)
 have g:∀(e:Ending) (w':World),(∃B d c b f,e=.returned (.pointer (some ⟨B,0,none⟩))/\∃k:Nat,k<=2000/\A8w ((((A2x (A0w n).1:Int)+((A0w n).2-1074))*30103).tdiv 100000) (upF (A0w n).2*(4*(A0w n).1))<B7z ((((A2x (A0w n).1:Int)+((A0w n).2-1074))*30103).tdiv 100000) k (dnF (A0w n).2*4)/\B7z ((((A2x (A0w n).1:Int)+((A0w n).2-1074))*30103).tdiv 100000) k (dnF (A0w n).2*4)<p2 5000*10/\
  St (λi=>i=B) w w' B 0 ((((A2x (A0w n).1:Int)+((A0w n).2-1074))*30103).tdiv 100000+k) (A8w ((((A2x (A0w n).1:Int)+((A0w n).2-1074))*30103).tdiv 100000) (upF (A0w n).2*(4*(A0w n).1))) (A8w ((((A2x (A0w n).1:Int)+((A0w n).2-1074))*30103).tdiv 100000) (upF (A0w n).2*B2w n)) (A8w ((((A2x (A0w n).1:Int)+((A0w n).2-1074))*30103).tdiv 100000) (upF (A0w n).2*2)) (B7z ((((A2x (A0w n).1:Int)+((A0w n).2-1074))*30103).tdiv 100000) k (dnF (A0w n).2*4)) d c b f (decide ((A0w n).1 % 2=0)))->
  ∃B d c b f,e=.returned (.pointer (some ⟨B,0,none⟩))/\∃(a:Int) (R L H U:Nat),-332<=a/\a<=2332/\U<p2 5000*10/\Inv n 0 a R L H U/\St (λi=>i=B) w w' B 0 a R L H U d c b f (ev n):=by
  rintro e w' ⟨B,d,c,b,f,rfl,k,s,m,o,p⟩;exact⟨B,d,c,b,f,rfl,_,_,_,_,_,by omega,by omega,o,Inv.init n k _ l m,p⟩
 by_cases h:n/4503599627370496=0
 ·exact(D1k n w j h _ rfl).mono g
 ·by_cases q:n % 4503599627370496=0
  ·exact(D1n n w j h q _ rfl).mono g
  ·exact(D1m n w j h q _ rfl).mono g
theorem C7w (n:Nat) (w:World) (C:n≠0) (hn:n<9218868437227405312):
 Calls Tryz.prog 40 #[.int .u64 n] w λe w'=>∃(D:Nat) (f:Int),e=.returned (.tuple #[.int .u64 D,.int .i64 f])/\B1e n D f/\D<=90071992547409920/\ -5000<=f/\f<=5000/\Fr (λ_=>False) w w':=by
 have J:=hid C;have HN:=hid hn;clear C hn;go_enter Tryz.func40,Tryz.ntmps40
 go_wp2_with fail
 refine(C4v n w J.out HN.out).mono ?_;rintro e w1 ⟨B,br,bl,bh,bu,rfl,a7,R0,L0,K,U0,b5,a5,y,q,I⟩;have o:=hid q;have Q:=hid I;have S:=hid y;clear q I y
 go_wp2_with fail
 go_loopg [] 2000 (λg wr=>∃(j l:Nat) (f:Int) (R L H U:Nat),j+g=2000/\ -332-(j:Int)<=f/\f<=2332/\Hid (U<p2 5000*10)/\Hid (p10 j<=H)/\Hid (l=0\/E2a n f)/\Hid (l<=90071992547409919)/\Hid (L<=10*U/\H<=10*U)/\Hid (Inv n l f R L H U)/\St (λi=>i=B) w wr B l f R L H U br bl bh bu (ev n))
 case atStart=>exact⟨0,0,a7,R0,L0,K,U0,by omega,by omega,a5,S.out,o.hpos,.inl rfl,by show _<=_;omega,by have:=Inv.start_le o.out J.out;show _/\_;omega,o.out,Q.out⟩
 case round=>
  obtain⟨j,l,f,R,L,H,U,b3,a9,b0,hU,E,a6,z,v,p,hs⟩:=hrel;have hR:=Inv.r p.out
  have m:Hid (Sm (10*U)):=A5a (k:=5008) (by
   have e:p2 5008=256*p2 5000:=by rw[show 5008=8+5000 from rfl,A3x,show p2 8=256 from rfl]
   have:=hU.out
   omega) (by omega)
  have V:Hid (Sm U):=Sm.mono m.out (by omega);have W:Hid (Sm L):=Sm.mono m.out v.1;have X:Hid (Sm H):=Sm.mono m.out v.2;have HS:=hid hs;clear hs;have A:l<=1000000000000000000:=by have:=z.out;omega
  go_wp2_with fail
  refine(E9n hR W.out X.out V.out A HS.out).mono ?_;rintro e w2 ⟨rfl,t⟩;have u:=hid t;have b1:=t.sv.cells.2.1;clear t;cases hb:(A6y l R L H U (ev n)).2
  ·obtain⟨a2,a3⟩:=D6w hb
   have s:L+H<=U:=by omega
   have b2:=Inv.dg_le p.out J.out s
   have a4:Hid (j<=1700):=by
    show _<=_
    rcases Nat.lt_or_ge 1700 j with h|h
    ·exfalso
     have a:=A3r 1700 j (by omega);have b:=E9r;have c:=hU.out;have d:=E.out;omega
    ·exact h
   have a8:=a4.out;have Z:Hid (Sm (10*L)):=Sm.mono m.out (by omega);have a0:Hid (Sm (10*H)):=Sm.mono m.out (by omega);have O:Hid (E2a n (f-1)):=⟨l,R,L,H,U,by rw[show f-1+1=f from by omega];exact p.out,hb⟩;have N:=hid (Inv.next p.out);have F:Hid (p10 (j+1)<=10*H):=by show _<=_;rw[A1z];have:=E.out;omega
   have x:Hid (10*L<=10*U/\10*H<=10*U):=by show _/\_;omega
   have a1:Hid (l*10+10*R/U<=90071992547409919):=by
    show _<=_
    have:10*R/U<10:=by rw[Nat.div_lt_iff_lt_mul (by omega)];omega
    omega
   clear a2 a3 s
   go_wp2_with fail
   refine(E9q hR Z.out a0.out m.out (by omega) (by omega) (by omega) u.out).mono ?_;rintro e w3 ⟨rfl,G⟩;have P:=hid G;clear G;go_wp2
   go_roundg (gk-1)
   case measure=>omega
   case rel=>exact⟨j+1,_,f-1,_,_,_,U,by omega,by omega,by omega,hU.out,F.out,.inr O.out,a1.out,x.out,N.out,P.out⟩
  ·have M:Hid (A6y l R L H U (ev n)=((A6y l R L H U (ev n)).1,true)):=by rw[Hid,<-hb]
   have b4:j<=2000:=by omega
   have Y:=hid (show B1e n (A6y l R L H U (ev n)).1 f from⟨l,R,L,H,U,p.out,M.out,a6.out⟩);have T:Hid ((A6y l R L H U (ev n)).1<=90071992547409920):=by show _<=_;have:=B1p M.out;have:=z.out;omega
   clear M;generalize (A6y l R L H U (ev n)).1=D at*
   go_wp2_with fail
   go_region
   all_goals
    go_wp2;go_ret2;exact⟨D,f,rfl,Y.out,T.out,by omega,by omega,Fr.drew u.sx.fr⟩
theorem E9s {x c L P U Y v a M:Nat} (l:0<P) (m:0<U) (h:(c*U+x)*P=v*(U*Y)) (i:2*L*P=a*(U*Y)) (j:M+a=2*v):
 (x<L↔M*Y<2*(c*P))/\(x=L↔M*Y=2*(c*P)):=by
 have k:2*(c*P)*U+2*(x*P)=M*Y*U+2*(L*P):=by
  have g:2*((c*U+x)*P)=(M+a)*(U*Y):=by rw[h,j,Nat.mul_assoc]
  rw[Nat.add_mul,Nat.add_mul,<-i,Nat.mul_right_comm c U P,Nat.mul_comm U Y,<-Nat.mul_assoc M Y U,Nat.mul_assoc 2 L P]at g;rw[Nat.mul_assoc 2 (c*P) U];omega
 have b:x<L↔x*P<L*P:=(Nat.mul_lt_mul_right l).symm;have d:x=L↔x*P=L*P:=(Nat.mul_left_inj (by omega)).symm;have e:M*Y<2*(c*P)↔M*Y*U<2*(c*P)*U:=(Nat.mul_lt_mul_right m).symm;have f:M*Y=2*(c*P)↔M*Y*U=2*(c*P)*U:=(Nat.mul_left_inj (by omega)).symm;rw[b,d,e,f];generalize x*P=A at*;generalize L*P=B at*;generalize M*Y*U=C at*;generalize 2*(c*P)*U=D at*;omega
theorem E2b {x c H P U Y v b M:Nat} (m:0<P) (n:0<U) (i:c*U*P=v*(U*Y)+x*P) (j:2*H*P=b*(U*Y)) (l:M=2*v+b):
 (x<H↔2*(c*P)<M*Y)/\(x=H↔2*(c*P)=M*Y):=by
 have k:2*(c*P)*U+2*(H*P)=M*Y*U+2*(x*P):=by
  have a:2*(c*U*P)=2*v*(U*Y)+2*(x*P):=by rw[i,Nat.mul_add,Nat.mul_assoc]
  have h:M*(U*Y)=2*v*(U*Y)+2*H*P:=by rw[l,Nat.add_mul,j]
  rw[Nat.mul_right_comm c U P]at a;rw[Nat.mul_comm U Y,<-Nat.mul_assoc M Y U,Nat.mul_assoc 2 H P]at h;rw[Nat.mul_comm U Y]at a;rw[Nat.mul_assoc 2 (c*P) U];omega
 have d:x<H↔x*P<H*P:=(Nat.mul_lt_mul_right m).symm;have e:x=H↔x*P=H*P:=(Nat.mul_left_inj (by omega)).symm;have f:2*(c*P)<M*Y↔2*(c*P)*U<M*Y*U:=(Nat.mul_lt_mul_right n).symm;have g:2*(c*P)=M*Y↔2*(c*P)*U=M*Y*U:=(Nat.mul_left_inj (by omega)).symm;rw[d,e,f,g];generalize x*P=A at*;generalize H*P=B at*;generalize M*Y*U=C at*;generalize 2*(c*P)*U=D at*;omega
theorem F4w (n:Nat):ev n=true↔n % 2=0:=by
 unfold ev;rw[decide_eq_true_iff];have:=(B1m n).1;omega
theorem C4w (n:Nat) (a:n≠0):mid (n-1)+A7j n=2*V n:=by
 unfold mid A7j;have:=F6a (show n-1<n by omega);rw[show n-1+1=n by omega];omega
theorem B4h (n:Nat):mid n=2*V n+A7d n:=by
 unfold mid A7d;have:=C2n n;omega
def A3u (c:Nat) (pw:Int) (n:Nat):Prop:=Rnd (c*pP pw) (p10 (-pw).toNat) n
theorem Inv.upos {n a:Nat} {b:Int} {R L H U:Nat} (h:Inv n a b R L H U):0<U:=by have:=h.r;omega
theorem Inv.low {n f:Nat} {d:Int} {R L H U:Nat} (h:Inv n f d R L H U) (l:n≠0) {c:Nat} (s:c<=f):A3u c d n↔wi (R+(f-c)*U) L (ev n)=true:=by
 have e:c*U+(R+(f-c)*U)=f*U+R:=by
  obtain⟨k,rfl⟩:∃k,f=c+k:=⟨f-c,by omega⟩;rw[Nat.add_sub_cancel_left,Nat.add_mul];omega
 have j:=E9s (x:=R+(f-c)*U) (c:=c) (E1z d) h.upos (by rw[e];exact h.a) h.b (C4w n l)
 have i:2*(c*pP d)<mid n*p10 (-d).toNat:=by
  have g:c*U*pP d<=V n*p10 (-d).toNat*U:=by
   have:=h.a;rw[<-e,Nat.add_mul]at this;have o:V n*pQ d U=V n*p10 (-d).toNat*U:=by rw[pQ,Nat.mul_comm U,Nat.mul_assoc]
   omega
  rw[Nat.mul_right_comm]at g;have p:=Nat.le_of_mul_le_mul_right g h.upos;rw[B4h,Nat.add_mul];have q:0<A7d n*p10 (-d).toNat:=Nat.mul_pos (by rw[B1n];exact A2y _) (A0v _);have r:2*V n*p10 (-d).toNat=2*(V n*p10 (-d).toNat):=Nat.mul_assoc ..;omega
 unfold A3u Rnd wi;have m:=F4w n;simp only[Bool.or_eq_true,Bool.and_eq_true,decide_eq_true_eq,j.1,j.2,m,l,false_or];constructor
 ·rintro⟨g,_⟩;exact g
 ·intro g;exact⟨g,.inl i⟩
theorem Inv.high {n d:Nat} {b:Int} {R L H U:Nat} (h:Inv n d b R L H U) (o:n≠0) {c:Nat} (t:d<c):A3u c b n↔wi ((c-d)*U-R) H (ev n)=true:=by
 have e:c*U=d*U+R+((c-d)*U-R):=by
  obtain⟨k,rfl⟩:∃k,c=d+(k+1):=⟨c-d-1,by omega⟩;have:=h.r;rw[Nat.add_sub_cancel_left,Nat.add_mul,Nat.add_mul];omega
 have i:=E2b (x:=(c-d)*U-R) (c:=c) (E1z b) h.upos (by rw[e,Nat.add_mul,h.a,pQ]) h.c (B4h n)
 have g:mid (n-1)*p10 (-b).toNat<2*(c*pP b):=by
  have f:V n*p10 (-b).toNat*U<=c*U*pP b:=by
   have j:V n*pQ b U=V n*p10 (-b).toNat*U:=by rw[pQ,Nat.mul_comm U,Nat.mul_assoc]
   rw[e,Nat.add_mul,h.a,j];exact Nat.le_add_right _ _
  rw[Nat.mul_right_comm c U]at f;have p:=Nat.le_of_mul_le_mul_right f h.upos;have l:=C4w n o;have q:0<A7j n*p10 (-b).toNat:=Nat.mul_pos (by unfold A7j;have:=F6a (show n-1<n by omega);omega) (A0v _);have s:mid (n-1)*p10 (-b).toNat+A7j n*p10 (-b).toNat=2*(V n*p10 (-b).toNat):=by rw[<-Nat.add_mul,l,Nat.mul_assoc]
  omega
 unfold A3u Rnd wi;have m:=F4w n;simp only[Bool.or_eq_true,Bool.and_eq_true,decide_eq_true_eq,i.1,i.2,m];constructor
 ·rintro⟨_,f⟩;exact f
 ·intro f;exact⟨.inr (.inl g),f⟩
theorem E2c {a b L:Nat} {e:Bool} (h:a<=b) (d:wi b L e=true):wi a L e=true:=by
 unfold wi at*;simp only[Bool.or_eq_true,Bool.and_eq_true,decide_eq_true_eq]at*;rcases d with d|⟨rfl,f⟩
 ·left;omega
 ·rcases Nat.lt_or_ge a b with c|c
  ·exact .inl c
  ·exact .inr ⟨by omega,f⟩
theorem E2a.none {n:Nat} {k:Int} (h:E2a n k) (i:n≠0) (c:Nat):¬A3u c (k+1) n:=by
 obtain⟨e,R,L,H,U,g,b⟩:=h
 have j:wi R L (ev n)=false/\wi (U-R) H (ev n)=false:=by
  unfold A6y at b;cases f:wi R L (ev n)<;>cases l:wi (U-R) H (ev n)<;>rw[f,l]at b<;>simp only at b
  ·exact⟨rfl,rfl⟩
  ·cases b
  ·cases b
  ·split at b<;>cases b
 intro hr;rcases Nat.lt_or_ge e c with d|d
 ·have:=E2c (a:=U-R) (by
   have f:1*U<=(c-e)*U:=Nat.mul_le_mul_right _ (by omega)
   omega) ((g.high i d).1 hr)
  rw[j.2]at this;cases this
 ·have:=E2c (a:=R) (by omega) ((g.low i d).1 hr)
  rw[j.1]at this;cases this
theorem B1e.rnd {n D:Nat} {b:Int} (h:B1e n D b) (i:n≠0):A3u D b n:=by
 obtain⟨e,R,L,H,U,f,a,_⟩:=h;have j:wi R L (ev n)=true->A3u e b n:=λhw=>(f.low i (Nat.le_refl _)).2 (by rw[Nat.sub_self,Nat.zero_mul];exact hw)
 have g:wi (U-R) H (ev n)=true->A3u (e+1) b n:=λhw=>(f.high i (by omega)).2 (by rw[Nat.add_sub_cancel_left,Nat.one_mul];exact hw)
 unfold A6y at a;cases c:wi R L (ev n)<;>cases d:wi (U-R) H (ev n)<;>rw[c,d]at a<;>simp only at a
 ·simp at a
 ·simp at a;rw[<-a];exact g d
 ·simp at a;rw[<-a];exact j c
 ·split at a<;>simp at a<;>rw[<-a]
  ·exact j c
  ·exact g d
theorem C4x (l:LU8) (c:UInt8) (w:World) (d:l.length<=9000000000000000000):
 Calls Tryz.prog 199 #[.string (ofL l),.string ⟨#[c]⟩] w λe w'=>e=.returned (.bool (l.head? ==some c))/\w'=w:=by
 cases l with
 |nil=>
  go_enter Tryz.func199,Tryz.ntmps199;go_wp2;go_ret;exact⟨rfl,rfl⟩
 |cons x r=>
  have b:=A0c (x::r);have f:=A0r (x::r) 0 1;have a:(x::r).length=r.length+1:=rfl;rw[a]at b d;clear a;go_enter Tryz.func199,Tryz.ntmps199;go_wp2;go_ret;refine⟨?_,rfl⟩
  show Ending.returned (.bool ((ofL [x]).toList==[c]))=_
  rw[A0y];simp
theorem D1p (n:Nat) (w:World) (f:n<=64):
 Calls Tryz.prog 163 #[.int .u64 1,.int .u64 n] w λe w'=>e=.returned (.tuple #[.int .u64 0,.int .u64 n])/\w'=w:=by
 have c:bits BinOp.and IntKind.u64 (n:Int) 4294967295=(n:Int):=by
  rw[show(4294967295:Int)=((4294967295:Nat):Int)from rfl,u64_and_nat n _ (by omega) (by omega)];have:n&&&4294967295=n % 4294967296:=Nat.and_two_pow_sub_one_eq_mod n 32;rw[this];omega
 have b:bits BinOp.and IntKind.u64 1 4294967295=1:=by decide
 have a:bits BinOp.and IntKind.u64 0 4294967295=0:=by decide
 have d:(n:Int)/4294967296=0:=by omega
 go_enter Tryz.func163,Tryz.ntmps163;go_wp2;go_ret2;exact⟨rfl,rfl⟩
def E2d:ByteArray:=⟨#[48,48,48,48,48,48,48,48,48,48,48,48,48,48,48,48,48,48,48,48,48,48,48,48,48,48,48,48,48,48,48,48,48,48,48,48,48,48,48,48,48,48,48,48,48,48,48,48,48,48,48,48,48,48,48,48,48,48,48,48,48,48,48,48]⟩
theorem D6x:E2d=ofL (List.replicate 64 48):=rfl
theorem B5x (l:LU8) (c:UInt8) (w:World) (a:l.length<=9000000000000000000):Calls Tryz.prog 164 #[.string (ofL l),.string ⟨#[c]⟩] w λe w'=>e=.returned (.bool (l.head? ==some c))/\w'=w:=by
 go_enter Tryz.func164,Tryz.ntmps164
 go_wp2_with fail
 refine(C4x l c _ a).mono ?_;rintro e w' ⟨rfl,rfl⟩;go_wp2;go_ret;exact⟨rfl,rfl⟩
theorem D6y (n:Nat) (w:World) (g:n<=30):
 Calls Tryz.prog 110 #[.string ⟨#[48]⟩,.int .i64 n] w λe w'=>e=.returned (.string (ofL (List.replicate n 48)))/\w'=w:=by
 rcases Nat.lt_or_ge n 2 with c|c
 ·rcases Nat.lt_or_ge n 1 with b|b
  ·obtain rfl:n=0:=by omega
   go_enter Tryz.func110,Tryz.ntmps110;go_wp2;go_ret;exact⟨rfl,rfl⟩
  ·obtain rfl:n=1:=by omega
   go_enter Tryz.func110,Tryz.ntmps110;go_wp2;go_ret;exact⟨rfl,rfl⟩
 ·have d:((n:Int)==0)=false:=bqF (by omega)
  have f:((n:Int)==1)=false:=bqF (by omega);have a:decide ((n:Int)<0)=false:=dcF (by omega);go_enter Tryz.func110,Tryz.ntmps110
  go_wp2_with (go_at_call 163;refine(D1p n _ (by omega)).mono ?_;rintro e w' ⟨rfl,rfl⟩)
  refine(B5x _ 48 _ ?_).mono ?_
  rotate_left
  rintro e h ⟨rfl,rfl⟩
  go_wp2_with fail
  refine(B5x _ 48 _ ?_).mono ?_
  rotate_left
  rintro e i ⟨rfl,rfl⟩
  go_wp2_with fail
  refine(B5x _ 48 _ ?_).mono ?_
  rotate_left
  rintro e j ⟨rfl,rfl⟩;go_wp2;go_ret;refine⟨?_,rfl⟩
  rotate_left
  ·decide
  ·decide
  ·decide
  show Ending.returned (Value.string (E2d.extract 0 n))=_
  rw[D6x,A0r,List.drop_zero,List.take_replicate,Nat.min_eq_left (by omega)]
theorem B9e (n:Nat) (w:World) (a:n<=30):
 Calls Tryz.prog 65 #[.int .i64 n] w λe w'=>e=.returned (.string (ofL (List.replicate n 48)))/\w'=w:=by
 go_enter Tryz.func65,Tryz.ntmps65
 go_wp2_with fail
 refine(D6y n _ a).mono ?_;rintro e b ⟨rfl,rfl⟩;go_wp2;go_ret;exact⟨rfl,rfl⟩
end Go.Proofs.YtmkkibaacclhnaaGreatDoor
