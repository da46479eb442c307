/-
  Part Ww.
-/
import Derived.Test.YtmkkibaacclhnaaGreatDoorXfg
import Derived.Test.YtmkkibaacclhnaaGreatDoorKep
import Derived.Test.YtmkkibaacclhnaaGreatDoorCb
import Derived.Test.YtmkkibaacclhnaaGreatDoorXcd
import Derived.Test.YtmkkibaacclhnaaGreatDoorWm
import Derived.Lib.OthersKept
namespace Go.Proofs.YtmkkibaacclhnaaGreatDoor
open Go.RowKit
set_option maxRecDepth 100000
set_option maxHeartbeats 16000000
theorem A9n (K:Int) (k:Nat) (a:K=(k:Int)) (b:k<6000) (w:World):Calls Tryz.prog 134 #[.int .i64 K] w λe w'=>e=.returned (.string (ofL (dgs k)))/\w'=w:=by
 subst a;exact C9k k (by omega) w
def RpH (BB MM:Int) (sg:LU8) (sb:ByteArray) (d:LU8) (x:Int):Prop:=(sb=ofL sg/\sg.length<=1)/\((decide ((9223372036854775808:Int)<=BB)=false/\MM=BB/\sg=[]/\sb=ByteArray.mk #[])\/(decide ((9223372036854775808:Int)<=BB)=true/\IntKind.u64.wrap (BB-9223372036854775808)=MM/\sg=[45]/\sb=ByteArray.mk #[45]))/\(decide ((9218868437227405312:Int)<=MM)=false)/\((MM==0)=false)/\(0<d.length)/\(d.length<=20)/\(-5000<=x)/\(x<=5000)/\(∀w,Calls Tryz.prog 132 #[.int .u64 MM] w λe w'=>e=.returned (.tuple #[.string (ofL d),.int .i64 x])/\Fr (λ_=>False) w w')
def RpC (BB:Int) (sg d:LU8) (x:Int) (w:World):Prop:=Calls Tryz.prog 77 #[.int .u64 BB] w λe w'=>e=.returned (.tuple #[.string (ofL (sg++B3b d x)),.int .i64 0])/\Fr (λ_=>False) w w'
theorem F1z {r v:Int} {c:LU8} {sb:ByteArray} {d:LU8} {x:Int} (h:RpH r v c sb d x) (w:World) (y:1<=(d.length:Int)+x/\(d.length:Int)+x<=21/\0<=x):RpC r c d x w:=by
 obtain⟨a,m,p,K,i,z,g,j,q⟩:=h;unfold RpC;obtain⟨a,f⟩:=a;have C:=hid q;have l:=And.intro (And.intro g j) (And.intro i z);clear q l;have D:=A0c d;obtain⟨k,rfl⟩:∃k:Nat,x=(k:Int):=⟨x.toNat,by omega⟩
 have E:=hid (show B3b d (k:Int)=d++List.replicate k 48 from by
  rw[B3b,if_neg (by omega),if_neg (by omega),if_pos (by omega),show(k:Int).toNat=k by omega])
 have o:(ofL (c++d)).size<=40:=by rw[A0c];simp;omega
 have I:(ofL (List.replicate k 48)).size=k:=by rw[A0c];simp
 have s:sb++ofL d=ofL (c++d):=by rw[a,A0j]
 have H:(sb++ofL d).size<=40:=by rw[s];exact o
 clear s o;obtain⟨B,A,F⟩:=y;clear a f;rcases m with⟨b,rfl,rfl,rfl⟩|⟨b,n,rfl,rfl⟩
 all_goals
  go_enter Tryz.func77,Tryz.ntmps77
  go_wp2_with fail
  refine(C.out _).mono ?_;rintro e J ⟨rfl,u⟩;have G:=hid u;clear u
  go_wp2_with (go_at_call 133;refine(B7c k (by omega) _).mono ?_;rintro e w' ⟨rfl,rfl⟩)
  go_ret2;refine⟨congrArg (λt=>Ending.returned (Value.tuple #[Value.string t,.int .i64 0])) ?_,G.out⟩;rw[E.out];apply ByteArray.ext;simp[ofL]
theorem F2a {u z:Int} {b:LU8} {sb:ByteArray} {d:LU8} {x:Int} (h:RpH u z b sb d x) (w:World) (A:1<=(d.length:Int)+x/\(d.length:Int)+x<=21/\x<0):RpC u b d x w:=by
 obtain⟨a,m,r,S,i,B,g,j,s⟩:=h;unfold RpC;obtain⟨a,f⟩:=a;have H:=hid s;have k:=And.intro (And.intro g j) (And.intro i B);clear s k;have I:=A0c d;obtain⟨q,D⟩:∃q:Nat,(d.length:Int)+x=q:=⟨((d.length:Int)+x).toNat,by omega⟩
 have J:=hid (show B3b d x=d.take q++[46]++d.drop q from by
  rw[B3b,if_neg (by omega),if_neg (by omega),if_neg (by omega),D];rfl)
 have O:(ofL d).extract 0 q=ofL (d.take q):=by rw[A0r,List.drop_zero]
 have M:(ofL d).extract q d.length=ofL (d.drop q):=by rw[A0r,List.take_length]
 have o:(ofL (b++d.take q)).size<=40:=by rw[A0c];simp;omega
 have p:(ofL (b++d.take q++[46])).size<=60:=by rw[A0c];simp;omega
 have N:(ofL (d.take q)).size<=20:=by rw[A0c];simp;omega
 have T:(ofL (d.drop q)).size<=20:=by rw[A0c];simp;omega
 have l:sb++ofL (d.take q)=ofL (b++d.take q):=by rw[a,A0j]
 have P:(sb++ofL (d.take q)).size<=40:=by rw[l];exact o
 have y:ofL (b++d.take q)++(ByteArray.mk #[46])=ofL (b++d.take q++[46]):=by apply ByteArray.ext;simp[ofL]
 have F:ofL (b++d.take q++[46])++ofL (d.drop q)=ofL (b++d.take q++[46]++d.drop q):=A0j _ _;obtain⟨G,E,K⟩:=A;have R:(sb++ofL (d.take q)++(ByteArray.mk #[46])).size<=60:=by rw[l,y];exact p
 clear l y F o p;have C:q<=d.length:=by omega
 clear a f;rcases m with⟨c,rfl,rfl,rfl⟩|⟨c,n,rfl,rfl⟩
 all_goals
  go_enter Tryz.func77,Tryz.ntmps77
  go_wp2_with fail
  refine(H.out _).mono ?_;rintro e Q ⟨rfl,v⟩;have L:=hid v;clear v
  go_wp2_with fail
  go_region
  all_goals
   go_wp2;go_ret2;refine⟨congrArg (λt=>Ending.returned (Value.tuple #[Value.string t,.int .i64 0])) ?_,L.drew⟩;rw[J.out];apply ByteArray.ext;simp[ofL]
theorem F2b {r u:Int} {b:LU8} {sb:ByteArray} {d:LU8} {x:Int} (h:RpH r u b sb d x) (w:World) (v: -5<=(d.length:Int)+x/\(d.length:Int)+x<=0):RpC r b d x w:=by
 obtain⟨a,n,p,L,j,y,g,l,q⟩:=h;unfold RpC;obtain⟨a,f⟩:=a;have C:=hid q;have m:=And.intro (And.intro g l) (And.intro j y);clear q m;have E:=A0c d;obtain⟨k,i⟩:∃k:Nat,-((d.length:Int)+x)=k:=⟨(-((d.length:Int)+x)).toNat,by omega⟩
 have F:=hid (show B3b d x=[48,46]++List.replicate k 48++d from by
  rw[B3b,if_neg (by omega),if_pos (by omega),i];rfl)
 have J:(ofL (List.replicate k 48)).size=k:=by rw[A0c];simp
 have H:(ofL (b++[48,46]++List.replicate k 48)).size<=60:=by rw[A0c];simp;omega
 have M:ofL (b++[48,46])++ofL (List.replicate k 48)=ofL (b++[48,46]++List.replicate k 48):=A0j _ _;have I:ofL (b++[48,46]++List.replicate k 48)++ofL d=ofL (b++[48,46]++List.replicate k 48++d):=A0j _ _;have A:=hid i;have D:k<=5:=by omega
 obtain⟨B,z⟩:=v;clear i;clear a f;rcases n with⟨c,rfl,rfl,rfl⟩|⟨c,o,rfl,rfl⟩
 all_goals
  go_enter Tryz.func77,Tryz.ntmps77
  go_wp2_with fail
  refine(C.out _).mono ?_;rintro e K ⟨rfl,s⟩;have G:=hid s;clear s
  go_wp2_with (go_at_call 133;rw[A.out];refine(B7c k (by omega) _).mono ?_;rintro e w' ⟨rfl,rfl⟩)
  go_ret2;refine⟨congrArg (λt=>Ending.returned (Value.tuple #[Value.string t,.int .i64 0])) ?_,G.out⟩;rw[F.out];apply ByteArray.ext;simp[ofL]
theorem F2c {r u:Int} {n:LU8} {sb:ByteArray} {d:LU8} {x:Int} (h:RpH r u n sb d x) (w:World) (v:(d.length:Int)+x< -5/\1<d.length):RpC r n d x w:=by
 obtain⟨a,l,p,L,g,y,f,i,q⟩:=h;unfold RpC;obtain⟨a,c⟩:=a;have C:=hid q;have j:=And.intro (And.intro f i) (And.intro g y);clear q j;have E:=A0c d;obtain⟨k,o⟩:∃k:Nat,1-((d.length:Int)+x)=k:=⟨(1-((d.length:Int)+x)).toNat,by omega⟩;have D:k<6000:=by omega
 have F:=hid (show B3b d x=d.take 1++(46::d.drop 1)++([101,45]++dgs k)from by
  rw[B3b,if_pos (by omega),D6z,if_pos (by omega),if_pos (by omega)]
  rw[show(-((d.length:Int)+x-1)).toNat=k by omega])
 have J:(ofL d).extract 0 1=ofL (d.take 1):=by rw[A0r,List.drop_zero]
 have H:(ofL d).extract 1 d.length=ofL (d.drop 1):=by rw[A0r,List.take_length]
 have I:(ofL (d.take 1)).size<=20:=by rw[A0c];simp;omega
 have N:(ofL d.tail).size<=20:=by rw[A0c,List.length_tail];omega
 have M:(ofL (dgs k)).size<=20:=by rw[A0c];exact A2b k (by omega)
 have A:=hid o;obtain⟨B,z⟩:=v;clear o;clear a c;rcases l with⟨b,rfl,rfl,rfl⟩|⟨b,m,rfl,rfl⟩
 all_goals
  go_enter Tryz.func77,Tryz.ntmps77
  go_wp2_with fail
  refine(C.out _).mono ?_;rintro e K ⟨rfl,s⟩;have G:=hid s;clear s
  go_wp2_with (go_at_call 134;refine(A9n _ k (by have:=A.out;omega) (by omega) _).mono ?_;rintro e w' ⟨rfl,rfl⟩)
  go_ret2;refine⟨congrArg (λt=>Ending.returned (Value.tuple #[Value.string t,.int .i64 0])) ?_,G.out⟩;rw[F.out];apply ByteArray.ext;simp[ofL]
theorem F2d {r u:Int} {n:LU8} {sb:ByteArray} {d:LU8} {x:Int} (h:RpH r u n sb d x) (w:World) (v:(d.length:Int)+x< -5/\d.length=1):RpC r n d x w:=by
 obtain⟨a,l,p,L,g,y,f,i,q⟩:=h;unfold RpC;obtain⟨a,c⟩:=a;have C:=hid q;have j:=And.intro (And.intro f i) (And.intro g y);clear q j;have E:=A0c d;obtain⟨k,o⟩:∃k:Nat,1-((d.length:Int)+x)=k:=⟨(1-((d.length:Int)+x)).toNat,by omega⟩;have D:k<6000:=by omega
 have F:=hid (show B3b d x=d.take 1++[]++([101,45]++dgs k)from by
  rw[B3b,if_pos (by omega),D6z,if_neg (by omega),if_pos (by omega)]
  rw[show(-((d.length:Int)+x-1)).toNat=k by omega])
 have J:(ofL d).extract 0 1=ofL (d.take 1):=by rw[A0r,List.drop_zero]
 have H:(ofL d).extract 1 d.length=ofL (d.drop 1):=by rw[A0r,List.take_length]
 have I:(ofL (d.take 1)).size<=20:=by rw[A0c];simp;omega
 have N:(ofL d.tail).size<=20:=by rw[A0c,List.length_tail];omega
 have M:(ofL (dgs k)).size<=20:=by rw[A0c];exact A2b k (by omega)
 have A:=hid o;obtain⟨B,z⟩:=v;clear o;clear a c;rcases l with⟨b,rfl,rfl,rfl⟩|⟨b,m,rfl,rfl⟩
 all_goals
  go_enter Tryz.func77,Tryz.ntmps77
  go_wp2_with fail
  refine(C.out _).mono ?_;rintro e K ⟨rfl,s⟩;have G:=hid s;clear s
  go_wp2_with (go_at_call 134;refine(A9n _ k (by have:=A.out;omega) (by omega) _).mono ?_;rintro e w' ⟨rfl,rfl⟩)
  go_ret2;refine⟨congrArg (λt=>Ending.returned (Value.tuple #[Value.string t,.int .i64 0])) ?_,G.out⟩;rw[F.out];apply ByteArray.ext;simp[ofL]
theorem F2e {r u:Int} {n:LU8} {sb:ByteArray} {d:LU8} {x:Int} (h:RpH r u n sb d x) (w:World) (v:21<(d.length:Int)+x/\1<d.length):RpC r n d x w:=by
 obtain⟨a,l,p,L,g,y,f,i,q⟩:=h;unfold RpC;obtain⟨a,c⟩:=a;have C:=hid q;have j:=And.intro (And.intro f i) (And.intro g y);clear q j;have E:=A0c d;obtain⟨k,o⟩:∃k:Nat,(d.length:Int)+x-1=k:=⟨((d.length:Int)+x-1).toNat,by omega⟩;have D:k<6000:=by omega
 have F:=hid (show B3b d x=d.take 1++(46::d.drop 1)++([101,43]++dgs k)from by
  rw[B3b,if_pos (by omega),D6z,if_pos (by omega),if_neg (by omega)]
  rw[show((d.length:Int)+x-1).toNat=k by omega])
 have J:(ofL d).extract 0 1=ofL (d.take 1):=by rw[A0r,List.drop_zero]
 have H:(ofL d).extract 1 d.length=ofL (d.drop 1):=by rw[A0r,List.take_length]
 have I:(ofL (d.take 1)).size<=20:=by rw[A0c];simp;omega
 have N:(ofL d.tail).size<=20:=by rw[A0c,List.length_tail];omega
 have M:(ofL (dgs k)).size<=20:=by rw[A0c];exact A2b k (by omega)
 have A:=hid o;obtain⟨B,z⟩:=v;clear o;clear a c;rcases l with⟨b,rfl,rfl,rfl⟩|⟨b,m,rfl,rfl⟩
 all_goals
  go_enter Tryz.func77,Tryz.ntmps77
  go_wp2_with fail
  refine(C.out _).mono ?_;rintro e K ⟨rfl,s⟩;have G:=hid s;clear s
  go_wp2_with (go_at_call 134;refine(A9n _ k (by have:=A.out;omega) (by omega) _).mono ?_;rintro e w' ⟨rfl,rfl⟩)
  go_ret2;refine⟨congrArg (λt=>Ending.returned (Value.tuple #[Value.string t,.int .i64 0])) ?_,G.out⟩;rw[F.out];apply ByteArray.ext;simp[ofL]
theorem F2f {r u:Int} {n:LU8} {sb:ByteArray} {d:LU8} {x:Int} (h:RpH r u n sb d x) (w:World) (v:21<(d.length:Int)+x/\d.length=1):RpC r n d x w:=by
 obtain⟨a,l,p,L,g,y,f,i,q⟩:=h;unfold RpC;obtain⟨a,c⟩:=a;have C:=hid q;have j:=And.intro (And.intro f i) (And.intro g y);clear q j;have E:=A0c d;obtain⟨k,o⟩:∃k:Nat,(d.length:Int)+x-1=k:=⟨((d.length:Int)+x-1).toNat,by omega⟩;have D:k<6000:=by omega
 have F:=hid (show B3b d x=d.take 1++[]++([101,43]++dgs k)from by
  rw[B3b,if_pos (by omega),D6z,if_neg (by omega),if_neg (by omega)]
  rw[show((d.length:Int)+x-1).toNat=k by omega])
 have J:(ofL d).extract 0 1=ofL (d.take 1):=by rw[A0r,List.drop_zero]
 have H:(ofL d).extract 1 d.length=ofL (d.drop 1):=by rw[A0r,List.take_length]
 have I:(ofL (d.take 1)).size<=20:=by rw[A0c];simp;omega
 have N:(ofL d.tail).size<=20:=by rw[A0c,List.length_tail];omega
 have M:(ofL (dgs k)).size<=20:=by rw[A0c];exact A2b k (by omega)
 have A:=hid o;obtain⟨B,z⟩:=v;clear o;clear a c;rcases l with⟨b,rfl,rfl,rfl⟩|⟨b,m,rfl,rfl⟩
 all_goals
  go_enter Tryz.func77,Tryz.ntmps77
  go_wp2_with fail
  refine(C.out _).mono ?_;rintro e K ⟨rfl,s⟩;have G:=hid s;clear s
  go_wp2_with (go_at_call 134;refine(A9n _ k (by have:=A.out;omega) (by omega) _).mono ?_;rintro e w' ⟨rfl,rfl⟩)
  go_ret2;refine⟨congrArg (λt=>Ending.returned (Value.tuple #[Value.string t,.int .i64 0])) ?_,G.out⟩;rw[F.out];apply ByteArray.ext;simp[ofL]
theorem D5i {b i:Int} {c:LU8} {sb:ByteArray} {d:LU8} {x:Int} (h:RpH b i c sb d x) (w:World):RpC b c d x w:=by
 have k:=h.2.2.2.2.1;by_cases e:21<(d.length:Int)+x
 ·by_cases a:d.length=1
  ·exact F2f h w ⟨e,a⟩
  ·exact F2e h w ⟨e,by omega⟩
 ·by_cases f:(d.length:Int)+x< -5
  ·by_cases a:d.length=1
   ·exact F2d h w ⟨f,a⟩
   ·exact F2c h w ⟨f,by omega⟩
  ·by_cases j:(d.length:Int)+x<=0
   ·exact F2b h w ⟨by omega,j⟩
   ·by_cases g:0<=x
    ·exact F1z h w ⟨by omega,by omega,g⟩
    ·exact F2a h w ⟨by omega,by omega,by omega⟩
theorem F2g (a:Int) (d:LU8) (x:Int) (w:World) (c:decide ((9223372036854775808:Int)<=a)=false) (b:decide ((9218868437227405312:Int)<=a)=false) (k:(a==0)=false)
 (f:0<d.length) (j:d.length<=20) (h: -5000<=x) (g:x<=5000)
 (i:∀w,Calls Tryz.prog 132 #[.int .u64 a] w λe w'=>e=.returned (.tuple #[.string (ofL d),.int .i64 x])/\Fr (λ_=>False) w w'):
 Calls Tryz.prog 77 #[.int .u64 a] w λe w'=>e=.returned (.tuple #[.string (ofL ([]++B3b d x)),.int .i64 0])/\Fr (λ_=>False) w w':=
 D5i (sb:=ByteArray.mk #[]) ⟨⟨rfl,by simp⟩,.inl ⟨c,rfl,rfl,rfl⟩,b,k,f,j,h,g,i⟩ w
theorem F2h (g f:Int) (d:LU8) (x:Int) (w:World) (c:decide ((9223372036854775808:Int)<=g)=true) (a:IntKind.u64.wrap (g-9223372036854775808)=f) (b:decide ((9218868437227405312:Int)<=f)=false) (m:(f==0)=false)
 (h:0<d.length) (l:d.length<=20) (j: -5000<=x) (i:x<=5000)
 (k:∀w,Calls Tryz.prog 132 #[.int .u64 f] w λe w'=>e=.returned (.tuple #[.string (ofL d),.int .i64 x])/\Fr (λ_=>False) w w'):
 Calls Tryz.prog 77 #[.int .u64 g] w λe w'=>e=.returned (.tuple #[.string (ofL ([45]++B3b d x)),.int .i64 0])/\Fr (λ_=>False) w w':=
 D5i (sb:=ByteArray.mk #[45]) ⟨⟨rfl,by simp⟩,.inr ⟨c,a,rfl,rfl⟩,b,m,h,l,j,i,k⟩ w
theorem C9s (w:World):Calls Tryz.prog 77 #[.int .u64 0] w λe w'=>e=.returned (.tuple #[.string (ofL [48]),.int .i64 0])/\w'=w:=by
 go_enter Tryz.func77,Tryz.ntmps77;go_wp2;go_ret2;exact⟨rfl,rfl⟩
theorem C9t (w:World):Calls Tryz.prog 77 #[.int .u64 9223372036854775808] w λe w'=>e=.returned (.tuple #[.string (ofL [45,48]),.int .i64 0])/\w'=w:=by
 go_enter Tryz.func77,Tryz.ntmps77;go_wp2;go_ret2;exact⟨rfl,rfl⟩
theorem C9u:A3u 1 (-1) 4591870180066957722:=by
 show Rnd (1*pP (-1)) (p10 1) 4591870180066957722
 unfold Rnd;decide+kernel
theorem F8b:mid 4591870180066957722<2*p2 1074:=by decide+kernel
theorem F8c:mid 4591870180066957722*10<4*p2 1074:=by decide+kernel
theorem F8d:2*p2 1074<mid 4591870180066957721*100:=by decide+kernel
theorem D8u:4591870180066957722-1=4591870180066957721:=by omega
theorem D2u {D:Nat} {c:Int} (h:B1e 4591870180066957722 D c):D=1/\c= -1:=by
 have hr:=h.rnd (by omega);have e:=hr.pos (by omega);have f:D*pP c=D*p10 c.toNat*p2 1074:=by rw[pP,Nat.mul_assoc]
 have t:=A2y 1074
 have q:c<= -1:=by
  rcases Int.lt_or_le (-1) c with d|d
  ·exfalso
   obtain⟨_,b⟩:=hr;rw[f,show(-c).toNat=0 by omega,show p10 0=1 from rfl,Nat.mul_one]at b;have r:1*p2 1074<=D*p10 c.toNat*p2 1074:=Nat.mul_le_mul_right _ (Nat.mul_pos e (A0v _));have:=F8b;omega
  ·exact d
 have o: -1<=c:=by
  rcases Int.lt_or_le c (-1)with d|d
  ·exfalso
   obtain⟨s,R,L,H,U,u,j,g⟩:=h;rcases g with rfl|g
   ·have i:D=1:=by rcases B1p j with rfl|rfl<;>omega
    obtain⟨a,_⟩:=hr
    have k:mid (4591870180066957722-1)*p10 (-c).toNat<=2*(D*pP c):=by
     rcases a with a|a|⟨a,_⟩
     ·exact absurd a (by decide)
     ·exact Nat.le_of_lt a
     ·exact Nat.le_of_eq a
    rw[D8u]at k
    have n:D*pP c=p2 1074:=by
     rw[f,i,show c.toNat=0 by omega,show p10 0=1 from rfl,Nat.one_mul]
    rw[n]at k;have l:=A3r 2 (-c).toNat (by omega);have p:p10 2=100:=rfl;rw[p]at l;have m:=Nat.mul_le_mul_left (mid 4591870180066957721) l;exact absurd F8d (Nat.not_lt.2 (Nat.le_trans m k))
   ·refine g.none (by omega) (1*p10 (-2-c).toNat) ?_
    have:=C9u.same (B1q.shift 1 (-2-c).toNat (-1));rwa[show(-1:Int)-((-2-c).toNat:Int)=c+1 by omega]at this
  ·exact d
 obtain rfl:c= -1:=by omega
 refine⟨?_,rfl⟩;obtain⟨_,b⟩:=hr;rw[f,show(-1:Int).toNat=0 from rfl,show p10 0=1 from rfl,Nat.mul_one,show(-(-1:Int)).toNat=1 from rfl,show p10 1=10 from rfl]at b;have:=F8c;rcases Nat.lt_or_ge D 2 with d|d
 ·omega
 ·exfalso
  have r:2*p2 1074<=D*p2 1074:=Nat.mul_le_mul_right _ d;omega
theorem E5s:Tok [48,46,49] [48] [49] [] [] false:=
 ⟨rfl,by intro c a;simp at a;subst a;decide,by intro c a;simp at a;subst a;decide,A4k,.inl ⟨rfl,rfl⟩,λ_=>rfl,by simp,by simp⟩
theorem F2i (w:World):Calls Tryz.prog 22 #[.string ⟨#[48,46,49]⟩] w λe w'=>e=.returned (.tuple #[.int .u64 4591870180066957722,.int .i64 0])/\Fr (λ_=>False) w w':=by
 refine B9m (m:=4591870180066957722) E5s (by decide) (by decide) (by omega) (λh=>by omega) (λ_=>?_) w;rw[D4g];exact C9u
theorem F2j (w:World):Calls Tryz.prog 22 #[.string ⟨#[49,46]⟩] w λe w'=>e=.returned (.tuple #[.int .u64 0,.int .i64 3])/\Fr (λ_=>False) w w':=by
 have:=B4j [49,46] w (by decide);refine Calls.mono this ?_;rintro e w' ⟨⟨_,c⟩,b⟩;refine⟨c ?_,b⟩;intro t a;have hr:run t0 [49,46]=some ⟨4,false,[1],1,0,false⟩:=rfl;rw[hr]at a;cases a;unfold A8b;simp
theorem F2k (w:World):Calls Tryz.prog 23 #[.int .u64 4591870180066957722] w λe w'=>e=.returned (.tuple #[.string ⟨#[48,46,49]⟩,.int .i64 0])/\Fr (λ_=>False) w w':=by
 refine(A9x 4591870180066957722 4591870180066957722 w (A2j 4591870180066957722 (by omega)) (by omega) (by omega)).mono ?_;rintro e w' ⟨D,f,d,_,_,_,a,b⟩;obtain⟨rfl,rfl⟩:=D2u d;have c:dgs 1=[49]:=by rw[A6a (by omega)];rfl
 rw[c]at a;exact⟨a,b⟩
theorem E5t (w:World):Calls Tryz.prog 7 #[] w λe w'=>e=.returned (.bool true)/\Fr (λ_=>False) w w':=by
 go_enter Tryz.func7,Tryz.ntmps7
 go_wp2_with fail
 refine(F2i _).mono ?_;rintro e f ⟨rfl,c⟩
 go_wp2_with fail
 refine(F2j _).mono ?_;rintro e d ⟨rfl,a⟩
 go_wp2_with fail
 refine(F2k _).mono ?_;rintro e g ⟨rfl,b⟩
 go_wp2_with (go_at_call 10;refine(F7w _ _).mono ?_;rintro e w' ⟨rfl,rfl⟩)
 go_ret;exact⟨rfl,(c.trans a).trans b⟩
theorem F8e:p2 1074<=p10 342:=by decide+kernel
theorem G4k {m:Nat} (h:m≠0):1<=V m:=by
 have:=F6a (show 0<m by omega);omega
theorem F5p (m:Nat) (h:m≠0):A8u m (-342):=by
 unfold A8u;rw[show((-342:Int)).toNat=0 from rfl,show(-(-342:Int)).toNat=342 from rfl,show p10 0=1 from rfl,Nat.one_mul];refine Nat.le_trans F8e (Nat.le_mul_of_pos_right _ (G4k h))
theorem G4m (m:Nat) (b:m<9218868437227405312):V m<p2 2100:=by
 rw[B1a];obtain⟨a,c⟩:=B5c m b;have e:p2 2100=p2 53*p2 2047:=by rw[<-A3x]
 rw[e,F6e];exact Nat.lt_of_lt_of_le (Nat.mul_lt_mul_of_pos_right a (A2y _)) (Nat.mul_le_mul_left _ (A2t (by omega)))
theorem F8f:p2 2100<=p10 682*p2 1074:=by
 have a:p2 2046<=p10 682:=D4b 682;have b:p2 2100=p2 2046*p2 54:=by rw[<-A3x]
 rw[b];exact Nat.mul_le_mul a (A2t (by omega))
theorem F5q (m:Nat) (a:m<9218868437227405312):¬A8u m 682:=by
 unfold A8u;rw[show((682:Int)).toNat=682 from rfl,show(-(682:Int)).toNat=0 from rfl,show p10 0=1 from rfl,Nat.one_mul];have:=G4m m a;have:=F8f;omega
theorem E5u (l:LU8) (w:World) (c:l.length<=100000000) (b:C0f w):
 Calls Tryz.prog 123 #[.string (ofL l)] w λe w'=>e=.returned (.bool (isU l))/\Fr (λ_=>False) w w':=by
 refine(E4y (ofL l) w (by rw[A0c];omega) b).mono ?_;rintro e w' ⟨rfl,a⟩;refine⟨?_,.ofBelow a⟩;rw[<-E4s];rfl
theorem C0f.fr {w w':World} {S:Nat->Prop} (h:C0f w) (a:Fr S w w') (f:¬S 0) (d:¬S 1):C0f w':=by
 have e:0<w.heap.size:=A3t (h.1 0 (by omega));have b:1<w.heap.size:=A3t (h.2 0 (by omega)).1;refine⟨λc hc=>?_,λi hi=>⟨?_,?_⟩⟩
 ·exact(a.cell (p:=⟨0,c,none⟩) e f).trans (h.1 c hc)
 ·exact(a.cell (p:=⟨1,2*i,none⟩) b d).trans (h.2 i hi).1
 ·exact(a.cell (p:=⟨1,2*i+1,none⟩) b d).trans (h.2 i hi).2
theorem B3i (w:World) (a b:Obj):Fr (λ_=>False) w ((w.alloc a).alloc b):=((Fr.refl _ w).alloc _).alloc _
theorem F2m (w:World) (b c d a g k j i:Value) (w':World) (h:Fr (λ_=>False) ((w.alloc (.cells #[b,c,d,a] 29)).alloc (.cells #[g,k,j,i] 29)) w'):
 w'.cell? ⟨w.heap.size,0,none⟩=some b/\w'.cell? ⟨w.heap.size,1,none⟩=some c/\w'.cell? ⟨w.heap.size,2,none⟩=some d/\w'.cell? ⟨w.heap.size,3,none⟩=some a/\w'.cell? ⟨w.heap.size+1,0,none⟩=some g/\w'.cell? ⟨w.heap.size+1,1,none⟩=some k/\w'.cell? ⟨w.heap.size+1,2,none⟩=some j/\w'.cell? ⟨w.heap.size+1,3,none⟩=some i:=by
 have n:=heap_alloc_new w (.cells #[b,c,d,a] 29);have l:=((Fr.refl (λ_=>False) (w.alloc (.cells #[b,c,d,a] 29))).alloc (.cells #[g,k,j,i] 29)).heap n id;have m:=heap_alloc_new (w.alloc (.cells #[b,c,d,a] 29)) (.cells #[g,k,j,i] 29);rw[show(w.alloc (.cells #[b,c,d,a] 29)).heap.size=w.heap.size+1 from by simp]at m;have f:=h.heap l id;have e:=h.heap m id;exact⟨A0a f rfl,A0a f rfl,A0a f rfl,A0a f rfl,A0a e rfl,A0a e rfl,A0a e rfl,A0a e rfl⟩
theorem A4p (w:World) (a b:Obj) (j:Nat) (v:Value):Fr (λ_=>False) w (((w.alloc a).alloc b).setCell ⟨w.heap.size+1,j,none⟩ v):=
 (B3i w a b).setCell (p:=⟨w.heap.size+1,j,none⟩) (.inr (Nat.le_succ _)) v
theorem G2d (n:Int) (b:Nat) (s:LU8) (w:World):Calls Tryz.prog 69 #[.agg #[.int .i64 0,.int .i64 n,.int .u64 (b:Int),.string (ofL s)]] w λx w'=>x=.returned (.bool (A0z ⟨0,n,b,s⟩))/\Fr (λ_=>False) w w':=by
 obtain⟨U,a⟩:∃U,A0z ⟨0,n,b,s⟩=U:=⟨_,rfl⟩;rw[a];go_enter Tryz.func69,Tryz.ntmps69;go_wp2
 all_goals
  go_ret;refine⟨?_,?_⟩
  ·rw[<-a]
   clear a;unfold A0z;cases s<;>simp_all[A0y]<;>omega
  ·first|exact B3i _ _ _|exact A4p _ _ _ _ _
theorem G2e (n:Int) (b:Nat) (s:LU8) (w:World):Calls Tryz.prog 69 #[.agg #[.int .i64 1,.int .i64 n,.int .u64 (b:Int),.string (ofL s)]] w λx w'=>x=.returned (.bool (A0z ⟨1,n,b,s⟩))/\Fr (λ_=>False) w w':=by
 obtain⟨U,a⟩:∃U,A0z ⟨1,n,b,s⟩=U:=⟨_,rfl⟩;rw[a];go_enter Tryz.func69,Tryz.ntmps69;go_wp2
 all_goals
  go_ret;refine⟨?_,?_⟩
  ·rw[<-a]
   clear a;unfold A0z;cases s<;>simp_all[A0y]<;>omega
  ·first|exact B3i _ _ _|exact A4p _ _ _ _ _
theorem G2f (n:Int) (b:Nat) (s:LU8) (w:World):Calls Tryz.prog 69 #[.agg #[.int .i64 2,.int .i64 n,.int .u64 (b:Int),.string (ofL s)]] w λx w'=>x=.returned (.bool (A0z ⟨2,n,b,s⟩))/\Fr (λ_=>False) w w':=by
 obtain⟨U,a⟩:∃U,A0z ⟨2,n,b,s⟩=U:=⟨_,rfl⟩;rw[a];go_enter Tryz.func69,Tryz.ntmps69;go_wp2
 all_goals
  go_ret;refine⟨?_,?_⟩
  ·rw[<-a]
   clear a;unfold A0z;cases s<;>simp_all[A0y]<;>omega
  ·first|exact B3i _ _ _|exact A4p _ _ _ _ _
theorem G2g (n:Int) (b:Nat) (s:LU8) (w:World):Calls Tryz.prog 69 #[.agg #[.int .i64 5,.int .i64 n,.int .u64 (b:Int),.string (ofL s)]] w λx w'=>x=.returned (.bool (A0z ⟨5,n,b,s⟩))/\Fr (λ_=>False) w w':=by
 obtain⟨U,a⟩:∃U,A0z ⟨5,n,b,s⟩=U:=⟨_,rfl⟩;rw[a];go_enter Tryz.func69,Tryz.ntmps69;go_wp2
 all_goals
  go_ret;refine⟨?_,?_⟩
  ·rw[<-a]
   clear a;unfold A0z;cases s<;>simp_all[A0y]<;>omega
  ·first|exact B3i _ _ _|exact A4p _ _ _ _ _
theorem G2h (n:Int) (b:Nat) (s:LU8) (w:World):Calls Tryz.prog 69 #[.agg #[.int .i64 6,.int .i64 n,.int .u64 (b:Int),.string (ofL s)]] w λx w'=>x=.returned (.bool (A0z ⟨6,n,b,s⟩))/\Fr (λ_=>False) w w':=by
 obtain⟨U,a⟩:∃U,A0z ⟨6,n,b,s⟩=U:=⟨_,rfl⟩;rw[a];go_enter Tryz.func69,Tryz.ntmps69;go_wp2
 all_goals
  go_ret;refine⟨?_,?_⟩
  ·rw[<-a]
   clear a;unfold A0z;cases s<;>simp_all[A0y]<;>omega
  ·first|exact B3i _ _ _|exact A4p _ _ _ _ _
theorem F8g (k n:Int) (b:Nat) (s:LU8) (w:World) (d:k<0\/6<k):Calls Tryz.prog 69 #[.agg #[.int .i64 k,.int .i64 n,.int .u64 (b:Int),.string (ofL s)]] w λx w'=>x=.returned (.bool (A0z ⟨k,n,b,s⟩))/\Fr (λ_=>False) w w':=by
 obtain⟨U,a⟩:∃U,A0z ⟨k,n,b,s⟩=U:=⟨_,rfl⟩;rw[a];have c:=hid (show U=false by rw[<-a];unfold A0z;simp only;rw[if_neg (by omega),if_neg (by omega),if_neg (by omega),if_neg (by omega)]);have h:(k==0)=false:=bqF (by omega);have g:(k==1)=false:=bqF (by omega);have l:(k==2)=false:=bqF (by omega);have j:(k==3)=false:=bqF (by omega);have i:(k==4)=false:=bqF (by omega);have f:(k==5)=false:=bqF (by omega);have e:(k==6)=false:=bqF (by omega);clear a d;go_enter Tryz.func69,Tryz.ntmps69;go_wp2;go_ret;refine⟨?_,?_⟩
 ·rw[c.out];rfl
 ·first|exact B3i _ _ _|exact A4p _ _ _ _ _
theorem C9v (n:Int) (b:Nat) (s:LU8) (w:World) (f:b<18446744073709551616) (d:b % 9223372036854775808<9218868437227405312):Calls Tryz.prog 69 #[.agg #[.int .i64 3,.int .i64 n,.int .u64 (b:Int),.string (ofL s)]] w λx w'=>x=.returned (.bool (A0z ⟨3,n,b,s⟩))/\Fr (λ_=>False) w w':=by
 obtain⟨U,c⟩:∃U,A0z ⟨3,n,b,s⟩=U:=⟨_,rfl⟩;rw[c];have a:=hid (show U=(true&&(decide (n=0)&&s.isEmpty)) by rw[<-c];unfold A0z;simp[d]);have g:=hid (λw=>E2e b (b % 9223372036854775808) w (A2j b f) (dcT (by omega)));clear c d f;go_enter Tryz.func69,Tryz.ntmps69
 go_wp2_with (first|(go_at_call 38;refine Calls.mono (g.out _) ?_;rintro e h ⟨rfl,rfl⟩)|fail)
 all_goals
  go_ret;refine⟨?_,?_⟩
  ·rw[a.out]
   clear a;cases s<;>simp_all[A0y]<;>omega
  ·first|exact B3i _ _ _|exact A4p _ _ _ _ _
theorem D2v (n:Int) (b:Nat) (s:LU8) (w:World) (f:b<18446744073709551616) (d:¬b % 9223372036854775808<9218868437227405312):Calls Tryz.prog 69 #[.agg #[.int .i64 3,.int .i64 n,.int .u64 (b:Int),.string (ofL s)]] w λx w'=>x=.returned (.bool (A0z ⟨3,n,b,s⟩))/\Fr (λ_=>False) w w':=by
 obtain⟨U,c⟩:∃U,A0z ⟨3,n,b,s⟩=U:=⟨_,rfl⟩;rw[c];have a:=hid (show U=(false&&(decide (n=0)&&s.isEmpty)) by rw[<-c];unfold A0z;simp[d]);have g:=hid (λw=>G3t b (b % 9223372036854775808) w (A2j b f) (dcF (by omega)));clear c d f;go_enter Tryz.func69,Tryz.ntmps69
 go_wp2_with (first|(go_at_call 38;refine Calls.mono (g.out _) ?_;rintro e h ⟨rfl,rfl⟩)|fail)
 all_goals
  go_ret;refine⟨?_,?_⟩
  ·rw[a.out]
   clear a;cases s<;>simp_all<;>omega
  ·first|exact B3i _ _ _|exact A4p _ _ _ _ _
theorem E5v (n:Int) (b:Nat) (s:LU8) (w:World) (l:s.length<=100000000) (i:C0f w):Calls Tryz.prog 69 #[.agg #[.int .i64 4,.int .i64 n,.int .u64 (b:Int),.string (ofL s)]] w λx w'=>x=.returned (.bool (A0z ⟨4,n,b,s⟩))/\Fr (λ_=>False) w w':=by
 obtain⟨U,f⟩:∃U,A0z ⟨4,n,b,s⟩=U:=⟨_,rfl⟩;rw[f];obtain⟨I,h⟩:∃I,isU s=I:=⟨_,rfl⟩;have a:=hid (show U=(decide (n=0)&&decide (b=0)&&I) by rw[<-f,<-h];unfold A0z;simp);have k:=hid (λw' (hF:Fr (λ_=>False) w w')=>E5u s w' l (i.fr hF id id));rw[h]at k;have z:=hid (λo1 o2 j v=>A4p w o1 o2 j v);have c:=hid (λo1 o2=>B3i w o1 o2);clear f l i h;go_enter Tryz.func69,Tryz.ntmps69
 go_wp2_with fail
 refine Calls.mono (k.out _ (c.out _ _)) ?_;rintro e m ⟨rfl,g⟩;have d:=hid ((c.out _ _).trans g);obtain⟨q,u,A,p,r,o,y,t⟩:=F2m w _ _ _ _ _ _ _ _ m g;clear g;cases I
 ·go_wp2
  go_ret;refine⟨?_,d.out⟩;rw[a.out];simp
 ·go_wp2
  all_goals
   go_ret;refine⟨?_,d.out⟩;rw[a.out];clear a;simp_all
theorem B0g (x:Im) (w:World) (c:x.s.length<=100000000) (a:x.b<18446744073709551616) (g:C0f w):
 Calls Tryz.prog 69 #[.agg #[.int .i64 x.k,.int .i64 x.n,.int .u64 (x.b:Int),.string (ofL x.s)]] w λe w'=>e=.returned (.bool (A0z x))/\Fr (λ_=>False) w w':=by
 obtain⟨k,n,b,s⟩:=x;simp only at c a ⊢;by_cases m:k=0
 ·subst m;exact G2d n b s w
 by_cases j:k=1
 ·subst j;exact G2e n b s w
 by_cases o:k=2
 ·subst o;exact G2f n b s w
 by_cases l:k=3
 ·subst l
  by_cases d:b % 9223372036854775808<9218868437227405312
  ·exact C9v n b s w a d
  ·exact D2v n b s w a d
 by_cases i:k=4
 ·subst i;exact E5v n b s w c g
 by_cases f:k=5
 ·subst f;exact G2g n b s w
 by_cases h:k=6
 ·subst h;exact G2h n b s w
 exact F8g k n b s w (by omega)
theorem D2w {w:World} {e size n:Nat} {v:Value} {xs:List Value} {k a:Nat} {s:ByteArray} (h:w.ownsRow 0 e size v n xs) (f:w.heap[k]? =some (.stringIter s a)):v.ownBlock≠some k:=by
 rcases h.2 with⟨d,_⟩|⟨g,cap,c,i,l,b,j⟩
 ·rw[d];intro e;cases e
 ·rw[i]
  intro e;have:g=k:=by simpa[Value.ownBlock]using e
  subst this;rw[f]at b;cases b
structure TxAt (B:Nat) (w:World) (vi vb:Value) (nx ind:Int) (so:Bool) (op:Nat) (vo:Value) (pre s:LU8) (k pos:Nat) (wr:World):Prop where
 it:wr.heap[k]? =some (.stringIter (ofL s) pos)
 kw:w.heap.size<=k
 le:pos<=s.length
 u:uGo (s.length-pos) (s.drop pos)=true
 po:A2d B w vi vb nx ind so op vo (pre++(s.take pos).flatMap A4f) wr
theorem TxAt.next {B:Nat} {w:World} {v y:Value} {u d:Int} {so:Bool} {t:Nat} {z:Value} {b s:LU8} {k a:Nat} {wr:World} (h:TxAt B w v y u d so t z b s k a wr) (hB:B<w.heap.size) (O:a<s.length) (I:b.length+6*s.length<=99999990000):
 ∃n x,Utf8.decode (ofL s) a=(x,n)/\1<=n/\a+n<=s.length/\Calls Tryz.prog 72 #[.pointer (some ⟨B,0,none⟩),.int .i32 (x:Int)] (wr.iterAt k (ofL s) (a+n)) λe w'=>e=.returned (.tuple #[])/\TxAt B w v y u d so t z b s k (a+n) w':=by
 obtain⟨G,h2,h3,J,m,p,X,R⟩:=h;obtain⟨f,P⟩:∃f,s.length-a=f+1:=⟨s.length-a-1,by omega⟩;have q:s.drop a=s[a]::s.drop (a+1):=List.drop_eq_getElem_cons O;rw[P,q]at J;obtain⟨n,x,c,Y⟩:=F5g s a f _ _ q J;refine⟨n,x,c.de,c.n1,c.le,?_⟩;have r:B≠k:=by omega
 have j:=D2w p.row G
 have C:WAt B (wr.iterAt k (ofL s) (a+n)) v y u d so t (.pointer (some ⟨B,6,none⟩)) m (b++(s.take a).flatMap A4f):=by
  refine⟨by rw[Lib.iterAt_other _ _ _ _ _ r];exact p.blk,p.adr,?_⟩;refine⟨p.row.1,?_⟩;rcases p.row.2 with h|⟨g,cap,A,K,L,S,M⟩
  ·exact .inl h
  ·exact .inr ⟨g,cap,A,K,L,by rw[Lib.iterAt_other _ _ _ _ _ (by rintro rfl;exact j (by rw[K];rfl))];exact S,M⟩
 have l:=Lib.iterAt_heap wr k (ofL s) a (a+n) G
 have o:(b++(s.take a).flatMap A4f).length<=99999990000:=by
  have:=A8t (s.take a);rw[List.length_append];rw[List.length_take]at this;omega
 have E:Fr (λi=>i=B\/z.ownBlock=some i) w (wr.iterAt k (ofL s) (a+n)):=X.trans' (T:=λi=>i=k) ⟨rfl,rfl,rfl,by rw[Lib.iterAt_size];exact Nat.le_refl _,λi _ hi=>Lib.iterAt_other _ _ _ _ _ hi⟩ (λi hi=>.inr (by omega));refine(B5a B _ v y u d so t _ m _ x C o c.va).mono ?_;rintro e w' ⟨V,H⟩;have F:=A2d.trans E R H;obtain⟨U,W,D,Z⟩:=H;refine⟨V,?_,h2,c.le,?_,?_⟩
 ·rw[D.block k (by rw[Lib.iterAt_size];exact(Array.getElem?_eq_some_iff.1 G).1) ?_]
  ·exact l
  ·rintro(h|h)
   ·exact r h.symm
   ·exact j h
 ·have Q:=c.n1
  rw[D5c _ f _ (by simp) (by simp;omega)];exact Y
 ·have N:b++(s.take a).flatMap A4f++C3m x=b++(s.take (a+n)).flatMap A4f:=by
   rw[c.quote,List.append_assoc,<-List.flatMap_append,List.take_add]
  rw[<-N];exact F
theorem TxAt.start {B:Nat} {w c:World} {k g:Value} {l b:Int} {so:Bool} {f:Nat} {i:Value} {a s:LU8} (h:A2d B w k g l b so f i a c) (n:isU s=true):TxAt B w k g l b so f i a s c.heap.size 0 (c.iter (ofL s) 0):=by
 obtain⟨e,d,j,m⟩:=h;refine⟨World.iter_heap c _ 0,j.size,Nat.zero_le _,n,e,?_,j.alloc _,m⟩;refine⟨(Below.heap_alloc c _ B (lt_of_block d.blk)).trans d.blk,d.adr,?_⟩;simpa[World.iter]using d.row.alloc (.stringIter (ofL s) 0)
theorem B5e (B:Nat) (w:World) (q t:Value) (o d:Int) (so:Bool) (k:Nat) (L A:Value) (bs s:LU8) (h:WAt B w q t o d so k L A bs) (M:isU s=true) (V:bs.length+6*s.length<=99999980000):
 Calls Tryz.prog 43 #[.pointer (some ⟨B,0,none⟩),.string (ofL s)] w λe w'=>e=.returned (.tuple #[])/\A2d B w q t o d so k A (bs++A3g s) w':=by
 have J:=lt_of_block h.blk;have y:=A0c s;have N:=hid (show Calls Tryz.prog 44 #[.pointer (some ⟨B,6,none⟩),.int .u8 34] w _ from A1r B w q t o d so k L A bs 34 h (by omega));have O:=hid M;have U:=hid J;clear h M J;go_enter Tryz.func43,Tryz.ntmps43
 go_wp2_with fail
 refine Calls.mono N.out ?_;rintro e f ⟨rfl,j⟩;have K:=hid (TxAt.start j O.out);clear j N;go_wp2
 go_loopw [] (λwr=>∃a:Nat,Hid (TxAt B w q t o d so k A (bs++[34]) s f.heap.size a wr)) (λwr=>s.length-wr.iterPos f.heap.size)
 case atStart=>exact⟨0,K⟩
 case round=>
  clear K;obtain⟨a,i⟩:=hrel;have b:=i.it;have G:=hid b;by_cases I:a<s.length
  ·obtain⟨n,x,u,l,v,c⟩:=i.next U.out I (by simp;omega)
   have D:∀ty,(Instr.next (.pointer (some ⟨f.heap.size,0,none⟩)) true ty).run Tryz.prog wr=.ok (.tuple #[.bool true,.int .i64 (a:Int),.int .i32 (x:Int)]) (wr.iterAt f.heap.size (ofL s) (a+n)):=λty=>by
    have:=Lib.run_next_any_at (P:=Tryz.prog) wr f.heap.size (ofL s) a ty b (by rw[y];exact I);rw[u]at this;exact this
   have T:=hid c;have C:=hid (And.intro l v);clear c u l v b i
   go_wp2_with fail
   refine Calls.mono T.out ?_;rintro e S ⟨rfl,r⟩;have p:=hid r;clear r;go_wp2;go_roundw
   case rel=>exact⟨a+n,p⟩
   case measure=>
    have:=C.out;simp only[World.iterPos,p.it,G.out];omega
  ·have F:a=s.length:=by have:=i.le;omega
   subst F;have D:∀ty,(Instr.next (.pointer (some ⟨f.heap.size,0,none⟩)) true ty).run Tryz.prog wr=_:=λty=>Lib.run_next_end_at (P:=Tryz.prog) wr f.heap.size (ofL s) s.length ty b (by rw[y];omega)
   obtain⟨E,g,z,m⟩:=i.po;rw[List.take_length]at g;have H:=hid (And.intro z m);have R:=hid (show Calls Tryz.prog 44 #[.pointer (some ⟨B,6,none⟩),.int .u8 34] wr _ from A1r B wr q t o d so k _ E _ 34 g (by have:=A8t s;rw[List.length_append,List.length_append,List.length_singleton];omega));clear g z m i b
   go_wp2_with fail
   refine Calls.mono R.out ?_;rintro e S ⟨rfl,j⟩;have Q:=hid (A2d.trans H.1 H.2 j);clear j;go_wp2;go_end0;refine⟨rfl,?_⟩;have:=Q.out;simpa[A3g]using this
def A7h (indent:Int) (key:LU8):LU8:=A3g key++58::(if indent= -1 then[]else[32])
theorem A2d.keepI {B:Nat} {w w':World} {m n:Value} {j a:Int} {so:Bool} {f:Nat} {s e V:Value} {bs b:LU8} {l:List Im} (h:A2d B w m n j a so f e b w') (k:WAt B w m n j a so f s e bs) (d:B9r w V l):B9r w' V l:=by
 obtain⟨r,v,u,x⟩:=h;refine d.fr u (λi hi=>?_);rintro(h|h)
 ·subst h
  exact A8y d k.blk (by decide) hi
 ·rcases d.2 with⟨q,_⟩|⟨g,cap,o,t,_,p,_⟩
  ·rw[q]at hi;cases hi
  ·rw[t]at hi
   have c:g=i:=by simpa[Value.ownBlock]using hi
   subst c;exact A8y k.row p (by decide) h
theorem B7d (B:Nat) (w:World) (R v:Value) (u a:Int) (so:Bool) (r:Nat) (T y:Value) (bs:LU8) (l:List Im) (d:Nat) (x:Im) (h:WAt B w R v u a so r T y bs) (F:B9r w R l) (O:l[d]? =some x) (hu:isU x.s=true) (U:bs.length+6*x.s.length<=99999970000) (a2:l.length<=10000000):
 Calls Tryz.prog 75 #[.pointer (some ⟨B,0,none⟩),.int .i64 (d:Int)] w λe w'=>e=.returned (.tuple #[])/\A2d B w R v u a so r y (bs++A7h a x.s) w':=by
 obtain⟨g,m,cap,rfl⟩:=A0h F;obtain rfl:=A1a F;have a1:d<l.length:=(List.getElem?_eq_some_iff.1 O).1;obtain⟨J,rfl⟩:=A5s F (by omega);have k0:=A0a h.blk (show(A9k (.slice (some ⟨J,0,none⟩) l.length cap) v u a so r T y)[0]? =some (.slice (some ⟨J,0,none⟩) l.length cap)from rfl);have c3:=A2c F (d*4+3) (.string (ofL x.s)) (by rw[A4y l d 3 x O (by omega)];rfl);have a4:(d:Int)<(l.length:Int):=by omega
 have M:=A8t x.s;have L:=hid (B5e B w _ v u a so r T y bs x.s h hu (by omega));have t:(bs++A3g x.s).length<=99999980000:=by unfold A3g;simp only[List.length_append,List.length_cons,List.length_nil];omega
 have E:=hid t;obtain⟨V,I⟩:∃V,x.s=V:=⟨_,rfl⟩;rw[I]at L c3 E ⊢;unfold A7h;obtain⟨Q,Y⟩:∃Q,A3g V=Q:=⟨_,rfl⟩;rw[Y]at L E ⊢;have S:=hid (λ(w:World) (y:Value) (bs:LU8) (c:UInt8) (h:WAt B w (.slice (some ⟨J,0,none⟩) l.length cap) v u a so r (.pointer (some ⟨B,6,none⟩)) y bs) (U:bs.length<=100000000000)=>A1r B w _ v u a so r _ y bs c h U);clear h F O hu t I Y M U;by_cases n:a= -1
 ·subst n
  rw[if_pos rfl];go_enter Tryz.func75,Tryz.ntmps75
  go_wp2_with fail
  refine Calls.mono L.out ?_;rintro e H ⟨rfl,z,o,p,f⟩;have A:=hid (And.intro p f);have q:=hid (show Calls Tryz.prog 44 #[.pointer (some ⟨B,6,none⟩),.int .u8 58] H _ from S.out H z _ 58 o (by have:=E.out;omega));clear o p f
  go_wp2_with fail
  refine Calls.mono q.out ?_;rintro e W ⟨rfl,k,b,i,j⟩;have K:=hid (A2d.trans A.1 A.2 ⟨k,b,i,j⟩);have i3:=A0a b.blk (show(A9k (.slice (some ⟨J,0,none⟩) l.length cap) v u (-1) so r (.pointer (some ⟨B,6,none⟩)) k)[3]? =some (.int .i64 (-1))from rfl);clear b i j;go_wp2;go_end0;exact⟨rfl,by simpa using K.out⟩
 ·rw[if_neg n]
  have a3:(a== -1)=false:=bqF n;have a0:(a != -1)=true:=by simpa using n
  clear n;go_enter Tryz.func75,Tryz.ntmps75
  go_wp2_with fail
  refine Calls.mono L.out ?_;rintro e H ⟨rfl,z,o,p,f⟩;have A:=hid (And.intro p f);have q:=hid (show Calls Tryz.prog 44 #[.pointer (some ⟨B,6,none⟩),.int .u8 58] H _ from S.out H z _ 58 o (by have:=E.out;omega));clear o p f
  go_wp2_with fail
  refine Calls.mono q.out ?_;rintro e W ⟨rfl,k,b,i,j⟩;have K:=hid (A2d.trans A.1 A.2 ⟨k,b,i,j⟩);have i3:=A0a b.blk (show(A9k (.slice (some ⟨J,0,none⟩) l.length cap) v u a so r (.pointer (some ⟨B,6,none⟩)) k)[3]? =some (.int .i64 a)from rfl);clear b i j;obtain⟨N,G,D,C⟩:=K.out;have X:=hid (And.intro D C);have P:=hid (show Calls Tryz.prog 44 #[.pointer (some ⟨B,6,none⟩),.int .u8 32] W _ from S.out W N _ 32 G (by have:=E.out;simp only[List.length_append,List.length_singleton]at this ⊢;omega));clear G D C K A q
  go_wp2_with fail
  refine Calls.mono P.out ?_;rintro e w4 ⟨rfl,Z⟩;have KQ:=hid (A2d.trans X.1 X.2 Z);clear Z;go_wp2;go_end0;exact⟨rfl,by simpa using KQ.out⟩
end Go.Proofs.YtmkkibaacclhnaaGreatDoor
