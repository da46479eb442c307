/-
  Part Ww.
-/
import Derived.Test.YtmkkibaacclhnaaGreatDoorXfg
import Derived.Test.YtmkkibaacclhnaaGreatDoorKep
import Derived.Test.YtmkkibaacclhnaaGreatDoorCb
import Derived.Test.YtmkkibaacclhnaaGreatDoorXcd
import Derived.Test.YtmkkibaacclhnaaGreatDoorWm
import Derived.Lib.OthersKept
namespace Go.Proofs.YtmkkibaacclhnaaGreatDoor
open Go.RowKit
set_option maxRecDepth 100000
set_option maxHeartbeats 16000000
theorem A9n (K:Int) (k:Nat) (a:K=(k:Int)) (b:k<6000) (w:World):Calls Tryz.prog 134 #[.int .i64 K] w λe w'=>e=.returned (.string (ofL (dgs k)))/\w'=w:=by
 subst a;exact C9k k (by omega) w
def RpH (BB MM:Int) (sg:LU8) (sb:ByteArray) (d:LU8) (x:Int):Prop:=(sb=ofL sg/\sg.length<=1)/\((decide ((9223372036854775808:Int)<=BB)=false/\MM=BB/\sg=[]/\sb=ByteArray.mk #[])\/(decide ((9223372036854775808:Int)<=BB)=true/\IntKind.u64.wrap (BB-9223372036854775808)=MM/\sg=[45]/\sb=ByteArray.mk #[45]))/\(decide ((9218868437227405312:Int)<=MM)=false)/\((MM==0)=false)/\(0<d.length)/\(d.length<=20)/\(-5000<=x)/\(x<=5000)/\(∀w,Calls Tryz.prog 132 #[.int .u64 MM] w λe w'=>e=.returned (.tuple #[.string (ofL d),.int .i64 x])/\Fr (λ_=>False) w w')
def RpC (BB:Int) (sg d:LU8) (x:Int) (w:World):Prop:=Calls Tryz.prog 77 #[.int .u64 BB] w λe w'=>e=.returned (.tuple #[.string (ofL (sg++B3b d x)),.int .i64 0])/\Fr (λ_=>False) w w'
theorem F1z {n A:Int} {c:LU8} {sb:ByteArray} {d:LU8} {x:Int} (h:RpH n A c sb d x) (w:World) (B:1<=(d.length:Int)+x/\(d.length:Int)+x<=21/\0<=x):RpC n c d x w:=by
 obtain⟨a,g,r,H,f,F,j,l,q⟩:=h;unfold RpC;obtain⟨a,i⟩:=a;have z:=hid q;have m:=And.intro (And.intro j l) (And.intro f F);clear q m;have G:=A0c d;obtain⟨k,rfl⟩:∃k:Nat,x=(k:Int):=⟨x.toNat,by omega⟩
 have y:=hid (show B3b d (k:Int)=d++List.replicate k 48 from by
  rw[B3b,if_neg (by omega),if_neg (by omega),if_pos (by omega),show(k:Int).toNat=k by omega])
 have u:(ofL (c++d)).size<=40:=by rw[A0c];simp;omega
 have K:(ofL (List.replicate k 48)).size=k:=by rw[A0c];simp
 have o:sb++ofL d=ofL (c++d):=by rw[a,A0j]
 have J:(sb++ofL d).size<=40:=by rw[o];exact u
 clear o u;obtain⟨C,D,E⟩:=B;clear a i;rcases g with⟨b,rfl,rfl,rfl⟩|⟨b,s,rfl,rfl⟩
 all_goals
  go_enter Tryz.func77,Tryz.ntmps77
  go_wp2_with fail
  refine(z.out _).mono ?_;rintro e I ⟨rfl,p⟩;have v:=hid p;clear p
  go_wp2_with (go_at_call 133;refine(B7c k (by omega) _).mono ?_;rintro e w' ⟨rfl,rfl⟩)
  go_ret2;refine⟨congrArg (λt=>Ending.returned (Value.tuple #[Value.string t,.int .i64 0])) ?_,v.out⟩;rw[y.out];apply ByteArray.ext;simp[ofL]
theorem F2a {n C:Int} {b:LU8} {sb:ByteArray} {d:LU8} {x:Int} (h:RpH n C b sb d x) (w:World) (E:1<=(d.length:Int)+x/\(d.length:Int)+x<=21/\x<0):RpC n b d x w:=by
 obtain⟨a,i,s,O,g,I,k,l,r⟩:=h;unfold RpC;obtain⟨a,j⟩:=a;have B:=hid r;have m:=And.intro (And.intro k l) (And.intro g I);clear r m;have L:=A0c d;obtain⟨q,J⟩:∃q:Nat,(d.length:Int)+x=q:=⟨((d.length:Int)+x).toNat,by omega⟩
 have A:=hid (show B3b d x=d.take q++[46]++d.drop q from by
  rw[B3b,if_neg (by omega),if_neg (by omega),if_neg (by omega),J];rfl)
 have M:(ofL d).extract 0 q=ofL (d.take q):=by rw[A0r,List.drop_zero]
 have N:(ofL d).extract q d.length=ofL (d.drop q):=by rw[A0r,List.take_length]
 have v:(ofL (b++d.take q)).size<=40:=by rw[A0c];simp;omega
 have y:(ofL (b++d.take q++[46])).size<=60:=by rw[A0c];simp;omega
 have S:(ofL (d.take q)).size<=20:=by rw[A0c];simp;omega
 have T:(ofL (d.drop q)).size<=20:=by rw[A0c];simp;omega
 have f:sb++ofL (d.take q)=ofL (b++d.take q):=by rw[a,A0j]
 have Q:(sb++ofL (d.take q)).size<=40:=by rw[f];exact v
 have o:ofL (b++d.take q)++(ByteArray.mk #[46])=ofL (b++d.take q++[46]):=by apply ByteArray.ext;simp[ofL]
 have D:ofL (b++d.take q++[46])++ofL (d.drop q)=ofL (b++d.take q++[46]++d.drop q):=A0j _ _;obtain⟨F,G,H⟩:=E;have R:(sb++ofL (d.take q)++(ByteArray.mk #[46])).size<=60:=by rw[f,o];exact y
 clear f o D v y;have K:q<=d.length:=by omega
 clear a j;rcases i with⟨c,rfl,rfl,rfl⟩|⟨c,u,rfl,rfl⟩
 all_goals
  go_enter Tryz.func77,Tryz.ntmps77
  go_wp2_with fail
  refine(B.out _).mono ?_;rintro e P ⟨rfl,p⟩;have z:=hid p;clear p
  go_wp2_with fail
  go_region
  all_goals
   go_wp2;go_ret2;refine⟨congrArg (λt=>Ending.returned (Value.tuple #[Value.string t,.int .i64 0])) ?_,z.drew⟩;rw[A.out];apply ByteArray.ext;simp[ofL]
theorem F2b {o A:Int} {b:LU8} {sb:ByteArray} {d:LU8} {x:Int} (h:RpH o A b sb d x) (w:World) (B: -5<=(d.length:Int)+x/\(d.length:Int)+x<=0):RpC o b d x w:=by
 obtain⟨a,i,r,J,f,E,l,m,q⟩:=h;unfold RpC;obtain⟨a,j⟩:=a;have z:=hid q;have n:=And.intro (And.intro l m) (And.intro f E);clear q n;have G:=A0c d;obtain⟨k,g⟩:∃k:Nat,-((d.length:Int)+x)=k:=⟨(-((d.length:Int)+x)).toNat,by omega⟩
 have y:=hid (show B3b d x=[48,46]++List.replicate k 48++d from by
  rw[B3b,if_neg (by omega),if_pos (by omega),g];rfl)
 have L:(ofL (List.replicate k 48)).size=k:=by rw[A0c];simp
 have M:(ofL (b++[48,46]++List.replicate k 48)).size<=60:=by rw[A0c];simp;omega
 have H:ofL (b++[48,46])++ofL (List.replicate k 48)=ofL (b++[48,46]++List.replicate k 48):=A0j _ _;have I:ofL (b++[48,46]++List.replicate k 48)++ofL d=ofL (b++[48,46]++List.replicate k 48++d):=A0j _ _;have v:=hid g;have F:k<=5:=by omega
 obtain⟨C,D⟩:=B;clear g;clear a j;rcases i with⟨c,rfl,rfl,rfl⟩|⟨c,s,rfl,rfl⟩
 all_goals
  go_enter Tryz.func77,Tryz.ntmps77
  go_wp2_with fail
  refine(z.out _).mono ?_;rintro e K ⟨rfl,p⟩;have u:=hid p;clear p
  go_wp2_with (go_at_call 133;rw[v.out];refine(B7c k (by omega) _).mono ?_;rintro e w' ⟨rfl,rfl⟩)
  go_ret2;refine⟨congrArg (λt=>Ending.returned (Value.tuple #[Value.string t,.int .i64 0])) ?_,u.out⟩;rw[y.out];apply ByteArray.ext;simp[ofL]
theorem F2c {m A:Int} {s:LU8} {sb:ByteArray} {d:LU8} {x:Int} (h:RpH m A s sb d x) (w:World) (B:(d.length:Int)+x< -5/\1<d.length):RpC m s d x w:=by
 obtain⟨a,f,p,J,c,E,i,j,o⟩:=h;unfold RpC;obtain⟨a,g⟩:=a;have z:=hid o;have l:=And.intro (And.intro i j) (And.intro c E);clear o l;have G:=A0c d;obtain⟨k,q⟩:∃k:Nat,1-((d.length:Int)+x)=k:=⟨(1-((d.length:Int)+x)).toNat,by omega⟩;have F:k<6000:=by omega
 have y:=hid (show B3b d x=d.take 1++(46::d.drop 1)++([101,45]++dgs k)from by
  rw[B3b,if_pos (by omega),D6z,if_pos (by omega),if_pos (by omega)]
  rw[show(-((d.length:Int)+x-1)).toNat=k by omega])
 have H:(ofL d).extract 0 1=ofL (d.take 1):=by rw[A0r,List.drop_zero]
 have I:(ofL d).extract 1 d.length=ofL (d.drop 1):=by rw[A0r,List.take_length]
 have L:(ofL (d.take 1)).size<=20:=by rw[A0c];simp;omega
 have M:(ofL d.tail).size<=20:=by rw[A0c,List.length_tail];omega
 have N:(ofL (dgs k)).size<=20:=by rw[A0c];exact A2b k (by omega)
 have v:=hid q;obtain⟨C,D⟩:=B;clear q;clear a g;rcases f with⟨b,rfl,rfl,rfl⟩|⟨b,r,rfl,rfl⟩
 all_goals
  go_enter Tryz.func77,Tryz.ntmps77
  go_wp2_with fail
  refine(z.out _).mono ?_;rintro e K ⟨rfl,n⟩;have u:=hid n;clear n
  go_wp2_with (go_at_call 134;refine(A9n _ k (by have:=v.out;omega) (by omega) _).mono ?_;rintro e w' ⟨rfl,rfl⟩)
  go_ret2;refine⟨congrArg (λt=>Ending.returned (Value.tuple #[Value.string t,.int .i64 0])) ?_,u.out⟩;rw[y.out];apply ByteArray.ext;simp[ofL]
theorem F2d {m A:Int} {s:LU8} {sb:ByteArray} {d:LU8} {x:Int} (h:RpH m A s sb d x) (w:World) (B:(d.length:Int)+x< -5/\d.length=1):RpC m s d x w:=by
 obtain⟨a,f,p,J,c,E,i,j,o⟩:=h;unfold RpC;obtain⟨a,g⟩:=a;have z:=hid o;have l:=And.intro (And.intro i j) (And.intro c E);clear o l;have G:=A0c d;obtain⟨k,q⟩:∃k:Nat,1-((d.length:Int)+x)=k:=⟨(1-((d.length:Int)+x)).toNat,by omega⟩;have F:k<6000:=by omega
 have y:=hid (show B3b d x=d.take 1++[]++([101,45]++dgs k)from by
  rw[B3b,if_pos (by omega),D6z,if_neg (by omega),if_pos (by omega)]
  rw[show(-((d.length:Int)+x-1)).toNat=k by omega])
 have H:(ofL d).extract 0 1=ofL (d.take 1):=by rw[A0r,List.drop_zero]
 have I:(ofL d).extract 1 d.length=ofL (d.drop 1):=by rw[A0r,List.take_length]
 have L:(ofL (d.take 1)).size<=20:=by rw[A0c];simp;omega
 have M:(ofL d.tail).size<=20:=by rw[A0c,List.length_tail];omega
 have N:(ofL (dgs k)).size<=20:=by rw[A0c];exact A2b k (by omega)
 have v:=hid q;obtain⟨C,D⟩:=B;clear q;clear a g;rcases f with⟨b,rfl,rfl,rfl⟩|⟨b,r,rfl,rfl⟩
 all_goals
  go_enter Tryz.func77,Tryz.ntmps77
  go_wp2_with fail
  refine(z.out _).mono ?_;rintro e K ⟨rfl,n⟩;have u:=hid n;clear n
  go_wp2_with (go_at_call 134;refine(A9n _ k (by have:=v.out;omega) (by omega) _).mono ?_;rintro e w' ⟨rfl,rfl⟩)
  go_ret2;refine⟨congrArg (λt=>Ending.returned (Value.tuple #[Value.string t,.int .i64 0])) ?_,u.out⟩;rw[y.out];apply ByteArray.ext;simp[ofL]
theorem F2e {m A:Int} {s:LU8} {sb:ByteArray} {d:LU8} {x:Int} (h:RpH m A s sb d x) (w:World) (B:21<(d.length:Int)+x/\1<d.length):RpC m s d x w:=by
 obtain⟨a,f,p,J,c,E,i,j,o⟩:=h;unfold RpC;obtain⟨a,g⟩:=a;have z:=hid o;have l:=And.intro (And.intro i j) (And.intro c E);clear o l;have G:=A0c d;obtain⟨k,q⟩:∃k:Nat,(d.length:Int)+x-1=k:=⟨((d.length:Int)+x-1).toNat,by omega⟩;have F:k<6000:=by omega
 have y:=hid (show B3b d x=d.take 1++(46::d.drop 1)++([101,43]++dgs k)from by
  rw[B3b,if_pos (by omega),D6z,if_pos (by omega),if_neg (by omega)]
  rw[show((d.length:Int)+x-1).toNat=k by omega])
 have H:(ofL d).extract 0 1=ofL (d.take 1):=by rw[A0r,List.drop_zero]
 have I:(ofL d).extract 1 d.length=ofL (d.drop 1):=by rw[A0r,List.take_length]
 have L:(ofL (d.take 1)).size<=20:=by rw[A0c];simp;omega
 have M:(ofL d.tail).size<=20:=by rw[A0c,List.length_tail];omega
 have N:(ofL (dgs k)).size<=20:=by rw[A0c];exact A2b k (by omega)
 have v:=hid q;obtain⟨C,D⟩:=B;clear q;clear a g;rcases f with⟨b,rfl,rfl,rfl⟩|⟨b,r,rfl,rfl⟩
 all_goals
  go_enter Tryz.func77,Tryz.ntmps77
  go_wp2_with fail
  refine(z.out _).mono ?_;rintro e K ⟨rfl,n⟩;have u:=hid n;clear n
  go_wp2_with (go_at_call 134;refine(A9n _ k (by have:=v.out;omega) (by omega) _).mono ?_;rintro e w' ⟨rfl,rfl⟩)
  go_ret2;refine⟨congrArg (λt=>Ending.returned (Value.tuple #[Value.string t,.int .i64 0])) ?_,u.out⟩;rw[y.out];apply ByteArray.ext;simp[ofL]
theorem F2f {m A:Int} {s:LU8} {sb:ByteArray} {d:LU8} {x:Int} (h:RpH m A s sb d x) (w:World) (B:21<(d.length:Int)+x/\d.length=1):RpC m s d x w:=by
 obtain⟨a,f,p,J,c,E,i,j,o⟩:=h;unfold RpC;obtain⟨a,g⟩:=a;have z:=hid o;have l:=And.intro (And.intro i j) (And.intro c E);clear o l;have G:=A0c d;obtain⟨k,q⟩:∃k:Nat,(d.length:Int)+x-1=k:=⟨((d.length:Int)+x-1).toNat,by omega⟩;have F:k<6000:=by omega
 have y:=hid (show B3b d x=d.take 1++[]++([101,43]++dgs k)from by
  rw[B3b,if_pos (by omega),D6z,if_neg (by omega),if_neg (by omega)]
  rw[show((d.length:Int)+x-1).toNat=k by omega])
 have H:(ofL d).extract 0 1=ofL (d.take 1):=by rw[A0r,List.drop_zero]
 have I:(ofL d).extract 1 d.length=ofL (d.drop 1):=by rw[A0r,List.take_length]
 have L:(ofL (d.take 1)).size<=20:=by rw[A0c];simp;omega
 have M:(ofL d.tail).size<=20:=by rw[A0c,List.length_tail];omega
 have N:(ofL (dgs k)).size<=20:=by rw[A0c];exact A2b k (by omega)
 have v:=hid q;obtain⟨C,D⟩:=B;clear q;clear a g;rcases f with⟨b,rfl,rfl,rfl⟩|⟨b,r,rfl,rfl⟩
 all_goals
  go_enter Tryz.func77,Tryz.ntmps77
  go_wp2_with fail
  refine(z.out _).mono ?_;rintro e K ⟨rfl,n⟩;have u:=hid n;clear n
  go_wp2_with (go_at_call 134;refine(A9n _ k (by have:=v.out;omega) (by omega) _).mono ?_;rintro e w' ⟨rfl,rfl⟩)
  go_ret2;refine⟨congrArg (λt=>Ending.returned (Value.tuple #[Value.string t,.int .i64 0])) ?_,u.out⟩;rw[y.out];apply ByteArray.ext;simp[ofL]
theorem D5i {b g:Int} {f:LU8} {sb:ByteArray} {d:LU8} {x:Int} (h:RpH b g f sb d x) (w:World):RpC b f d x w:=by
 have k:=h.2.2.2.2.1;by_cases c:21<(d.length:Int)+x
 ·by_cases a:d.length=1
  ·exact F2f h w ⟨c,a⟩
  ·exact F2e h w ⟨c,by omega⟩
 ·by_cases e:(d.length:Int)+x< -5
  ·by_cases a:d.length=1
   ·exact F2d h w ⟨e,a⟩
   ·exact F2c h w ⟨e,by omega⟩
  ·by_cases i:(d.length:Int)+x<=0
   ·exact F2b h w ⟨by omega,i⟩
   ·by_cases j:0<=x
    ·exact F1z h w ⟨by omega,by omega,j⟩
    ·exact F2a h w ⟨by omega,by omega,by omega⟩
theorem F2g (a:Int) (d:LU8) (x:Int) (w:World) (c:decide ((9223372036854775808:Int)<=a)=false) (b:decide ((9218868437227405312:Int)<=a)=false) (i:(a==0)=false)
 (f:0<d.length) (k:d.length<=20) (g: -5000<=x) (h:x<=5000)
 (j:∀w,Calls Tryz.prog 132 #[.int .u64 a] w λe w'=>e=.returned (.tuple #[.string (ofL d),.int .i64 x])/\Fr (λ_=>False) w w'):
 Calls Tryz.prog 77 #[.int .u64 a] w λe w'=>e=.returned (.tuple #[.string (ofL ([]++B3b d x)),.int .i64 0])/\Fr (λ_=>False) w w':=
 D5i (sb:=ByteArray.mk #[]) ⟨⟨rfl,by simp⟩,.inl ⟨c,rfl,rfl,rfl⟩,b,i,f,k,g,h,j⟩ w
theorem F2h (g f:Int) (d:LU8) (x:Int) (w:World) (b:decide ((9223372036854775808:Int)<=g)=true) (c:IntKind.u64.wrap (g-9223372036854775808)=f) (a:decide ((9218868437227405312:Int)<=f)=false) (k:(f==0)=false)
 (h:0<d.length) (m:d.length<=20) (i: -5000<=x) (j:x<=5000)
 (l:∀w,Calls Tryz.prog 132 #[.int .u64 f] w λe w'=>e=.returned (.tuple #[.string (ofL d),.int .i64 x])/\Fr (λ_=>False) w w'):
 Calls Tryz.prog 77 #[.int .u64 g] w λe w'=>e=.returned (.tuple #[.string (ofL ([45]++B3b d x)),.int .i64 0])/\Fr (λ_=>False) w w':=
 D5i (sb:=ByteArray.mk #[45]) ⟨⟨rfl,by simp⟩,.inr ⟨b,c,rfl,rfl⟩,a,k,h,m,i,j,l⟩ w
theorem C9s (w:World):Calls Tryz.prog 77 #[.int .u64 0] w λe w'=>e=.returned (.tuple #[.string (ofL [48]),.int .i64 0])/\w'=w:=by
 go_enter Tryz.func77,Tryz.ntmps77;go_wp2;go_ret2;exact⟨rfl,rfl⟩
theorem C9t (w:World):Calls Tryz.prog 77 #[.int .u64 9223372036854775808] w λe w'=>e=.returned (.tuple #[.string (ofL [45,48]),.int .i64 0])/\w'=w:=by
 go_enter Tryz.func77,Tryz.ntmps77;go_wp2;go_ret2;exact⟨rfl,rfl⟩
theorem C9u:A3u 1 (-1) 4591870180066957722:=by
 show Rnd (1*pP (-1)) (p10 1) 4591870180066957722
 unfold Rnd;decide+kernel
theorem F8b:mid 4591870180066957722<2*p2 1074:=by decide+kernel
theorem F8c:mid 4591870180066957722*10<4*p2 1074:=by decide+kernel
theorem F8d:2*p2 1074<mid 4591870180066957721*100:=by decide+kernel
theorem D8u:4591870180066957722-1=4591870180066957721:=by omega
theorem D2u {D:Nat} {c:Int} (h:B1e 4591870180066957722 D c):D=1/\c= -1:=by
 have hr:=h.rnd (by omega);have e:=hr.pos (by omega);have f:D*pP c=D*p10 c.toNat*p2 1074:=by rw[pP,Nat.mul_assoc]
 have u:=A2y 1074
 have q:c<= -1:=by
  rcases Int.lt_or_le (-1) c with d|d
  ·exfalso
   obtain⟨_,b⟩:=hr;rw[f,show(-c).toNat=0 by omega,show p10 0=1 from rfl,Nat.mul_one]at b;have m:1*p2 1074<=D*p10 c.toNat*p2 1074:=Nat.mul_le_mul_right _ (Nat.mul_pos e (A0v _));have:=F8b;omega
  ·exact d
 have p: -1<=c:=by
  rcases Int.lt_or_le c (-1)with d|d
  ·exfalso
   obtain⟨s,R,L,H,U,t,k,i⟩:=h;rcases i with rfl|i
   ·have g:D=1:=by rcases B1p k with rfl|rfl<;>omega
    obtain⟨a,_⟩:=hr
    have j:mid (4591870180066957722-1)*p10 (-c).toNat<=2*(D*pP c):=by
     rcases a with a|a|⟨a,_⟩
     ·exact absurd a (by decide)
     ·exact Nat.le_of_lt a
     ·exact Nat.le_of_eq a
    rw[D8u]at j
    have r:D*pP c=p2 1074:=by
     rw[f,g,show c.toNat=0 by omega,show p10 0=1 from rfl,Nat.one_mul]
    rw[r]at j;have l:=A3r 2 (-c).toNat (by omega);have n:p10 2=100:=rfl;rw[n]at l;have o:=Nat.mul_le_mul_left (mid 4591870180066957721) l;exact absurd F8d (Nat.not_lt.2 (Nat.le_trans o j))
   ·refine i.none (by omega) (1*p10 (-2-c).toNat) ?_
    have:=C9u.same (B1q.shift 1 (-2-c).toNat (-1));rwa[show(-1:Int)-((-2-c).toNat:Int)=c+1 by omega]at this
  ·exact d
 obtain rfl:c= -1:=by omega
 refine⟨?_,rfl⟩;obtain⟨_,b⟩:=hr;rw[f,show(-1:Int).toNat=0 from rfl,show p10 0=1 from rfl,Nat.mul_one,show(-(-1:Int)).toNat=1 from rfl,show p10 1=10 from rfl]at b;have:=F8c;rcases Nat.lt_or_ge D 2 with d|d
 ·omega
 ·exfalso
  have m:2*p2 1074<=D*p2 1074:=Nat.mul_le_mul_right _ d;omega
theorem E5s:Tok [48,46,49] [48] [49] [] [] false:=
 ⟨rfl,by intro c a;simp at a;subst a;decide,by intro c a;simp at a;subst a;decide,A4k,.inl ⟨rfl,rfl⟩,λ_=>rfl,by simp,by simp⟩
theorem F2i (w:World):Calls Tryz.prog 22 #[.string ⟨#[48,46,49]⟩] w λe w'=>e=.returned (.tuple #[.int .u64 4591870180066957722,.int .i64 0])/\Fr (λ_=>False) w w':=by
 refine B9m (m:=4591870180066957722) E5s (by decide) (by decide) (by omega) (λh=>by omega) (λ_=>?_) w;rw[D4g];exact C9u
theorem F2j (w:World):Calls Tryz.prog 22 #[.string ⟨#[49,46]⟩] w λe w'=>e=.returned (.tuple #[.int .u64 0,.int .i64 3])/\Fr (λ_=>False) w w':=by
 have:=B4j [49,46] w (by decide);refine Calls.mono this ?_;rintro e w' ⟨⟨_,b⟩,c⟩;refine⟨b ?_,c⟩;intro t a;have hr:run t0 [49,46]=some ⟨4,false,[1],1,0,false⟩:=rfl;rw[hr]at a;cases a;unfold A8b;simp
theorem F2k (w:World):Calls Tryz.prog 23 #[.int .u64 4591870180066957722] w λe w'=>e=.returned (.tuple #[.string ⟨#[48,46,49]⟩,.int .i64 0])/\Fr (λ_=>False) w w':=by
 refine(A9x 4591870180066957722 4591870180066957722 w (A2j 4591870180066957722 (by omega)) (by omega) (by omega)).mono ?_;rintro e w' ⟨D,f,d,_,_,_,a,c⟩;obtain⟨rfl,rfl⟩:=D2u d;have b:dgs 1=[49]:=by rw[A6a (by omega)];rfl
 rw[b]at a;exact⟨a,c⟩
theorem E5t (w:World):Calls Tryz.prog 7 #[] w λe w'=>e=.returned (.bool true)/\Fr (λ_=>False) w w':=by
 go_enter Tryz.func7,Tryz.ntmps7
 go_wp2_with fail
 refine(F2i _).mono ?_;rintro e d ⟨rfl,a⟩
 go_wp2_with fail
 refine(F2j _).mono ?_;rintro e f ⟨rfl,b⟩
 go_wp2_with fail
 refine(F2k _).mono ?_;rintro e g ⟨rfl,c⟩
 go_wp2_with (go_at_call 10;refine(F7w _ _).mono ?_;rintro e w' ⟨rfl,rfl⟩)
 go_ret;exact⟨rfl,(a.trans b).trans c⟩
theorem F8e:p2 1074<=p10 342:=by decide+kernel
theorem G4k {m:Nat} (h:m≠0):1<=V m:=by
 have:=F6a (show 0<m by omega);omega
theorem F5p (m:Nat) (h:m≠0):A8u m (-342):=by
 unfold A8u;rw[show((-342:Int)).toNat=0 from rfl,show(-(-342:Int)).toNat=342 from rfl,show p10 0=1 from rfl,Nat.one_mul];refine Nat.le_trans F8e (Nat.le_mul_of_pos_right _ (G4k h))
theorem G4m (m:Nat) (b:m<9218868437227405312):V m<p2 2100:=by
 rw[B1a];obtain⟨a,c⟩:=B5c m b;have e:p2 2100=p2 53*p2 2047:=by rw[<-A3x]
 rw[e,F6e];exact Nat.lt_of_lt_of_le (Nat.mul_lt_mul_of_pos_right a (A2y _)) (Nat.mul_le_mul_left _ (A2t (by omega)))
theorem F8f:p2 2100<=p10 682*p2 1074:=by
 have a:p2 2046<=p10 682:=D4b 682;have b:p2 2100=p2 2046*p2 54:=by rw[<-A3x]
 rw[b];exact Nat.mul_le_mul a (A2t (by omega))
theorem F5q (m:Nat) (a:m<9218868437227405312):¬A8u m 682:=by
 unfold A8u;rw[show((682:Int)).toNat=682 from rfl,show(-(682:Int)).toNat=0 from rfl,show p10 0=1 from rfl,Nat.one_mul];have:=G4m m a;have:=F8f;omega
theorem E5u (l:LU8) (w:World) (c:l.length<=100000000) (a:C0f w):
 Calls Tryz.prog 123 #[.string (ofL l)] w λe w'=>e=.returned (.bool (isU l))/\Fr (λ_=>False) w w':=by
 refine(E4y (ofL l) w (by rw[A0c];omega) a).mono ?_;rintro e w' ⟨rfl,b⟩;refine⟨?_,.ofBelow b⟩;rw[<-E4s];rfl
theorem C0f.fr {w w':World} {S:Nat->Prop} (h:C0f w) (a:Fr S w w') (f:¬S 0) (d:¬S 1):C0f w':=by
 have e:0<w.heap.size:=A3t (h.1 0 (by omega));have b:1<w.heap.size:=A3t (h.2 0 (by omega)).1;refine⟨λc hc=>?_,λi hi=>⟨?_,?_⟩⟩
 ·exact(a.cell (p:=⟨0,c,none⟩) e f).trans (h.1 c hc)
 ·exact(a.cell (p:=⟨1,2*i,none⟩) b d).trans (h.2 i hi).1
 ·exact(a.cell (p:=⟨1,2*i+1,none⟩) b d).trans (h.2 i hi).2
theorem B3i (w:World) (a b:Obj):Fr (λ_=>False) w ((w.alloc a).alloc b):=((Fr.refl _ w).alloc _).alloc _
theorem F2m (w:World) (a b c d g i j k:Value) (w':World) (h:Fr (λ_=>False) ((w.alloc (.cells #[a,b,c,d] 29)).alloc (.cells #[g,i,j,k] 29)) w'):
 w'.cell? ⟨w.heap.size,0,none⟩=some a/\w'.cell? ⟨w.heap.size,1,none⟩=some b/\w'.cell? ⟨w.heap.size,2,none⟩=some c/\w'.cell? ⟨w.heap.size,3,none⟩=some d/\w'.cell? ⟨w.heap.size+1,0,none⟩=some g/\w'.cell? ⟨w.heap.size+1,1,none⟩=some i/\w'.cell? ⟨w.heap.size+1,2,none⟩=some j/\w'.cell? ⟨w.heap.size+1,3,none⟩=some k:=by
 have n:=heap_alloc_new w (.cells #[a,b,c,d] 29);have l:=((Fr.refl (λ_=>False) (w.alloc (.cells #[a,b,c,d] 29))).alloc (.cells #[g,i,j,k] 29)).heap n id;have m:=heap_alloc_new (w.alloc (.cells #[a,b,c,d] 29)) (.cells #[g,i,j,k] 29);rw[show(w.alloc (.cells #[a,b,c,d] 29)).heap.size=w.heap.size+1 from by simp]at m;have e:=h.heap l id;have f:=h.heap m id;exact⟨A0a e rfl,A0a e rfl,A0a e rfl,A0a e rfl,A0a f rfl,A0a f rfl,A0a f rfl,A0a f rfl⟩
theorem A4p (w:World) (a b:Obj) (j:Nat) (v:Value):Fr (λ_=>False) w (((w.alloc a).alloc b).setCell ⟨w.heap.size+1,j,none⟩ v):=
 (B3i w a b).setCell (p:=⟨w.heap.size+1,j,none⟩) (.inr (Nat.le_succ _)) v
theorem G2d (n:Int) (b:Nat) (s:LU8) (w:World):Calls Tryz.prog 69 #[.agg #[.int .i64 0,.int .i64 n,.int .u64 (b:Int),.string (ofL s)]] w λx w'=>x=.returned (.bool (A0z ⟨0,n,b,s⟩))/\Fr (λ_=>False) w w':=by
 obtain⟨U,a⟩:∃U,A0z ⟨0,n,b,s⟩=U:=⟨_,rfl⟩;rw[a];go_enter Tryz.func69,Tryz.ntmps69;go_wp2
 all_goals
  go_ret;refine⟨?_,?_⟩
  ·rw[<-a]
   clear a;unfold A0z;cases s<;>simp_all[A0y]<;>omega
  ·first|exact B3i _ _ _|exact A4p _ _ _ _ _
theorem G2e (n:Int) (b:Nat) (s:LU8) (w:World):Calls Tryz.prog 69 #[.agg #[.int .i64 1,.int .i64 n,.int .u64 (b:Int),.string (ofL s)]] w λx w'=>x=.returned (.bool (A0z ⟨1,n,b,s⟩))/\Fr (λ_=>False) w w':=by
 obtain⟨U,a⟩:∃U,A0z ⟨1,n,b,s⟩=U:=⟨_,rfl⟩;rw[a];go_enter Tryz.func69,Tryz.ntmps69;go_wp2
 all_goals
  go_ret;refine⟨?_,?_⟩
  ·rw[<-a]
   clear a;unfold A0z;cases s<;>simp_all[A0y]<;>omega
  ·first|exact B3i _ _ _|exact A4p _ _ _ _ _
theorem G2f (n:Int) (b:Nat) (s:LU8) (w:World):Calls Tryz.prog 69 #[.agg #[.int .i64 2,.int .i64 n,.int .u64 (b:Int),.string (ofL s)]] w λx w'=>x=.returned (.bool (A0z ⟨2,n,b,s⟩))/\Fr (λ_=>False) w w':=by
 obtain⟨U,a⟩:∃U,A0z ⟨2,n,b,s⟩=U:=⟨_,rfl⟩;rw[a];go_enter Tryz.func69,Tryz.ntmps69;go_wp2
 all_goals
  go_ret;refine⟨?_,?_⟩
  ·rw[<-a]
   clear a;unfold A0z;cases s<;>simp_all[A0y]<;>omega
  ·first|exact B3i _ _ _|exact A4p _ _ _ _ _
theorem G2g (n:Int) (b:Nat) (s:LU8) (w:World):Calls Tryz.prog 69 #[.agg #[.int .i64 5,.int .i64 n,.int .u64 (b:Int),.string (ofL s)]] w λx w'=>x=.returned (.bool (A0z ⟨5,n,b,s⟩))/\Fr (λ_=>False) w w':=by
 obtain⟨U,a⟩:∃U,A0z ⟨5,n,b,s⟩=U:=⟨_,rfl⟩;rw[a];go_enter Tryz.func69,Tryz.ntmps69;go_wp2
 all_goals
  go_ret;refine⟨?_,?_⟩
  ·rw[<-a]
   clear a;unfold A0z;cases s<;>simp_all[A0y]<;>omega
  ·first|exact B3i _ _ _|exact A4p _ _ _ _ _
theorem G2h (n:Int) (b:Nat) (s:LU8) (w:World):Calls Tryz.prog 69 #[.agg #[.int .i64 6,.int .i64 n,.int .u64 (b:Int),.string (ofL s)]] w λx w'=>x=.returned (.bool (A0z ⟨6,n,b,s⟩))/\Fr (λ_=>False) w w':=by
 obtain⟨U,a⟩:∃U,A0z ⟨6,n,b,s⟩=U:=⟨_,rfl⟩;rw[a];go_enter Tryz.func69,Tryz.ntmps69;go_wp2
 all_goals
  go_ret;refine⟨?_,?_⟩
  ·rw[<-a]
   clear a;unfold A0z;cases s<;>simp_all[A0y]<;>omega
  ·first|exact B3i _ _ _|exact A4p _ _ _ _ _
theorem F8g (k n:Int) (b:Nat) (s:LU8) (w:World) (d:k<0\/6<k):Calls Tryz.prog 69 #[.agg #[.int .i64 k,.int .i64 n,.int .u64 (b:Int),.string (ofL s)]] w λx w'=>x=.returned (.bool (A0z ⟨k,n,b,s⟩))/\Fr (λ_=>False) w w':=by
 obtain⟨U,a⟩:∃U,A0z ⟨k,n,b,s⟩=U:=⟨_,rfl⟩;rw[a];have c:=hid (show U=false by rw[<-a];unfold A0z;simp only;rw[if_neg (by omega),if_neg (by omega),if_neg (by omega),if_neg (by omega)]);have e:(k==0)=false:=bqF (by omega);have f:(k==1)=false:=bqF (by omega);have g:(k==2)=false:=bqF (by omega);have h:(k==3)=false:=bqF (by omega);have i:(k==4)=false:=bqF (by omega);have j:(k==5)=false:=bqF (by omega);have l:(k==6)=false:=bqF (by omega);clear a d;go_enter Tryz.func69,Tryz.ntmps69;go_wp2;go_ret;refine⟨?_,?_⟩
 ·rw[c.out];rfl
 ·first|exact B3i _ _ _|exact A4p _ _ _ _ _
theorem C9v (n:Int) (b:Nat) (s:LU8) (w:World) (d:b<18446744073709551616) (f:b % 9223372036854775808<9218868437227405312):Calls Tryz.prog 69 #[.agg #[.int .i64 3,.int .i64 n,.int .u64 (b:Int),.string (ofL s)]] w λx w'=>x=.returned (.bool (A0z ⟨3,n,b,s⟩))/\Fr (λ_=>False) w w':=by
 obtain⟨U,c⟩:∃U,A0z ⟨3,n,b,s⟩=U:=⟨_,rfl⟩;rw[c];have a:=hid (show U=(true&&(decide (n=0)&&s.isEmpty)) by rw[<-c];unfold A0z;simp[f]);have g:=hid (λw=>E2e b (b % 9223372036854775808) w (A2j b d) (dcT (by omega)));clear c f d;go_enter Tryz.func69,Tryz.ntmps69
 go_wp2_with (first|(go_at_call 38;refine Calls.mono (g.out _) ?_;rintro e h ⟨rfl,rfl⟩)|fail)
 all_goals
  go_ret;refine⟨?_,?_⟩
  ·rw[a.out]
   clear a;cases s<;>simp_all[A0y]<;>omega
  ·first|exact B3i _ _ _|exact A4p _ _ _ _ _
theorem D2v (n:Int) (b:Nat) (s:LU8) (w:World) (d:b<18446744073709551616) (f:¬b % 9223372036854775808<9218868437227405312):Calls Tryz.prog 69 #[.agg #[.int .i64 3,.int .i64 n,.int .u64 (b:Int),.string (ofL s)]] w λx w'=>x=.returned (.bool (A0z ⟨3,n,b,s⟩))/\Fr (λ_=>False) w w':=by
 obtain⟨U,c⟩:∃U,A0z ⟨3,n,b,s⟩=U:=⟨_,rfl⟩;rw[c];have a:=hid (show U=(false&&(decide (n=0)&&s.isEmpty)) by rw[<-c];unfold A0z;simp[f]);have g:=hid (λw=>G3t b (b % 9223372036854775808) w (A2j b d) (dcF (by omega)));clear c f d;go_enter Tryz.func69,Tryz.ntmps69
 go_wp2_with (first|(go_at_call 38;refine Calls.mono (g.out _) ?_;rintro e h ⟨rfl,rfl⟩)|fail)
 all_goals
  go_ret;refine⟨?_,?_⟩
  ·rw[a.out]
   clear a;cases s<;>simp_all<;>omega
  ·first|exact B3i _ _ _|exact A4p _ _ _ _ _
theorem E5v (n:Int) (b:Nat) (s:LU8) (w:World) (l:s.length<=100000000) (k:C0f w):Calls Tryz.prog 69 #[.agg #[.int .i64 4,.int .i64 n,.int .u64 (b:Int),.string (ofL s)]] w λx w'=>x=.returned (.bool (A0z ⟨4,n,b,s⟩))/\Fr (λ_=>False) w w':=by
 obtain⟨U,g⟩:∃U,A0z ⟨4,n,b,s⟩=U:=⟨_,rfl⟩;rw[g];obtain⟨I,f⟩:∃I,isU s=I:=⟨_,rfl⟩;have a:=hid (show U=(decide (n=0)&&decide (b=0)&&I) by rw[<-g,<-f];unfold A0z;simp);have i:=hid (λw' (hF:Fr (λ_=>False) w w')=>E5u s w' l (k.fr hF id id));rw[f]at i;have o:=hid (λo1 o2 j v=>A4p w o1 o2 j v);have c:=hid (λo1 o2=>B3i w o1 o2);clear g l k f;go_enter Tryz.func69,Tryz.ntmps69
 go_wp2_with fail
 refine Calls.mono (i.out _ (c.out _ _)) ?_;rintro e m ⟨rfl,h⟩;have d:=hid ((c.out _ _).trans h);obtain⟨p,q,r,t,u,y,z,A⟩:=F2m w _ _ _ _ _ _ _ _ m h;clear h;cases I
 ·go_wp2
  go_ret;refine⟨?_,d.out⟩;rw[a.out];simp
 ·go_wp2
  all_goals
   go_ret;refine⟨?_,d.out⟩;rw[a.out];clear a;simp_all
theorem B0g (x:Im) (w:World) (d:x.s.length<=100000000) (a:x.b<18446744073709551616) (o:C0f w):
 Calls Tryz.prog 69 #[.agg #[.int .i64 x.k,.int .i64 x.n,.int .u64 (x.b:Int),.string (ofL x.s)]] w λe w'=>e=.returned (.bool (A0z x))/\Fr (λ_=>False) w w':=by
 obtain⟨k,n,b,s⟩:=x;simp only at d a ⊢;by_cases f:k=0
 ·subst f;exact G2d n b s w
 by_cases g:k=1
 ·subst g;exact G2e n b s w
 by_cases h:k=2
 ·subst h;exact G2f n b s w
 by_cases i:k=3
 ·subst i
  by_cases c:b % 9223372036854775808<9218868437227405312
  ·exact C9v n b s w a c
  ·exact D2v n b s w a c
 by_cases j:k=4
 ·subst j;exact E5v n b s w d o
 by_cases l:k=5
 ·subst l;exact G2g n b s w
 by_cases m:k=6
 ·subst m;exact G2h n b s w
 exact F8g k n b s w (by omega)
theorem D2w {w:World} {e size n:Nat} {v:Value} {xs:List Value} {k a:Nat} {s:ByteArray} (h:w.ownsRow 0 e size v n xs) (f:w.heap[k]? =some (.stringIter s a)):v.ownBlock≠some k:=by
 rcases h.2 with⟨d,_⟩|⟨g,cap,c,i,j,b,l⟩
 ·rw[d];intro e;cases e
 ·rw[i]
  intro e;have:g=k:=by simpa[Value.ownBlock]using e
  subst this;rw[f]at b;cases b
structure TxAt (B:Nat) (w:World) (vi vb:Value) (nx ind:Int) (so:Bool) (op:Nat) (vo:Value) (pre s:LU8) (k pos:Nat) (wr:World):Prop where
 it:wr.heap[k]? =some (.stringIter (ofL s) pos)
 kw:w.heap.size<=k
 le:pos<=s.length
 u:uGo (s.length-pos) (s.drop pos)=true
 po:A2d B w vi vb nx ind so op vo (pre++(s.take pos).flatMap A4f) wr
theorem TxAt.next {B:Nat} {w:World} {y v:Value} {t d:Int} {so:Bool} {u:Nat} {G:Value} {c s:LU8} {k a:Nat} {wr:World} (h:TxAt B w y v t d so u G c s k a wr) (hB:B<w.heap.size) (Y:a<s.length) (J:c.length+6*s.length<=99999990000):
 ∃n x,Utf8.decode (ofL s) a=(x,n)/\1<=n/\a+n<=s.length/\Calls Tryz.prog 72 #[.pointer (some ⟨B,0,none⟩),.int .i32 (x:Int)] (wr.iterAt k (ofL s) (a+n)) λe w'=>e=.returned (.tuple #[])/\TxAt B w y v t d so u G c s k (a+n) w':=by
 obtain⟨A,O,h3,H,r,j,P,Q⟩:=h;obtain⟨f,V⟩:∃f,s.length-a=f+1:=⟨s.length-a-1,by omega⟩;have l:s.drop a=s[a]::s.drop (a+1):=List.drop_eq_getElem_cons Y;rw[V,l]at H;obtain⟨n,x,b,Z⟩:=F5g s a f _ _ l H;refine⟨n,x,b.de,b.n1,b.le,?_⟩;have o:B≠k:=by omega
 have p:=D2w j.row A
 have F:WAt B (wr.iterAt k (ofL s) (a+n)) y v t d so u (.pointer (some ⟨B,6,none⟩)) r (c++(s.take a).flatMap A4f):=by
  refine⟨by rw[Lib.iterAt_other _ _ _ _ _ o];exact j.blk,j.adr,?_⟩;refine⟨j.row.1,?_⟩;rcases j.row.2 with h|⟨g,cap,z,K,M,W,N⟩
  ·exact .inl h
  ·exact .inr ⟨g,cap,z,K,M,by rw[Lib.iterAt_other _ _ _ _ _ (by rintro rfl;exact p (by rw[K];rfl))];exact W,N⟩
 have m:=Lib.iterAt_heap wr k (ofL s) a (a+n) A
 have q:(c++(s.take a).flatMap A4f).length<=99999990000:=by
  have:=A8t (s.take a);rw[List.length_append];rw[List.length_take]at this;omega
 have C:Fr (λi=>i=B\/G.ownBlock=some i) w (wr.iterAt k (ofL s) (a+n)):=P.trans' (T:=λi=>i=k) ⟨rfl,rfl,rfl,by rw[Lib.iterAt_size];exact Nat.le_refl _,λi _ hi=>Lib.iterAt_other _ _ _ _ _ hi⟩ (λi hi=>.inr (by omega));refine(B5a B _ y v t d so u _ r _ x F q b.va).mono ?_;rintro e w' ⟨U,I⟩;have E:=A2d.trans C Q I;obtain⟨a0,S,D,R⟩:=I;refine⟨U,?_,O,b.le,?_,?_⟩
 ·rw[D.block k (by rw[Lib.iterAt_size];exact(Array.getElem?_eq_some_iff.1 A).1) ?_]
  ·exact m
  ·rintro(h|h)
   ·exact o h.symm
   ·exact p h
 ·have X:=b.n1
  rw[D5c _ f _ (by simp) (by simp;omega)];exact Z
 ·have L:c++(s.take a).flatMap A4f++C3m x=c++(s.take (a+n)).flatMap A4f:=by
   rw[b.quote,List.append_assoc,<-List.flatMap_append,List.take_add]
  rw[<-L];exact E
theorem TxAt.start {B:Nat} {w c:World} {k j:Value} {g a:Int} {so:Bool} {i:Nat} {l:Value} {b s:LU8} (h:A2d B w k j g a so i l b c) (n:isU s=true):TxAt B w k j g a so i l b s c.heap.size 0 (c.iter (ofL s) 0):=by
 obtain⟨e,d,f,m⟩:=h;refine⟨World.iter_heap c _ 0,f.size,Nat.zero_le _,n,e,?_,f.alloc _,m⟩;refine⟨(Below.heap_alloc c _ B (lt_of_block d.blk)).trans d.blk,d.adr,?_⟩;simpa[World.iter]using d.row.alloc (.stringIter (ofL s) 0)
theorem B5e (B:Nat) (w:World) (z y:Value) (u d:Int) (so:Bool) (v:Nat) (K A:Value) (bs s:LU8) (h:WAt B w z y u d so v K A bs) (N:isU s=true) (V:bs.length+6*s.length<=99999980000):
 Calls Tryz.prog 43 #[.pointer (some ⟨B,0,none⟩),.string (ofL s)] w λe w'=>e=.returned (.tuple #[])/\A2d B w z y u d so v A (bs++A3g s) w':=by
 have L:=lt_of_block h.blk;have t:=A0c s;have H:=hid (show Calls Tryz.prog 44 #[.pointer (some ⟨B,6,none⟩),.int .u8 34] w _ from A1r B w z y u d so v K A bs 34 h (by omega));have S:=hid N;have Q:=hid L;clear h N L;go_enter Tryz.func43,Tryz.ntmps43
 go_wp2_with fail
 refine Calls.mono H.out ?_;rintro e g ⟨rfl,m⟩;have I:=hid (TxAt.start m S.out);clear m H;go_wp2
 go_loopw [] (λwr=>∃a:Nat,Hid (TxAt B w z y u d so v A (bs++[34]) s g.heap.size a wr)) (λwr=>s.length-wr.iterPos g.heap.size)
 case atStart=>exact⟨0,I⟩
 case round=>
  clear I;obtain⟨a,i⟩:=hrel;have c:=i.it;have C:=hid c;by_cases M:a<s.length
  ·obtain⟨n,x,p,r,q,b⟩:=i.next Q.out M (by simp;omega)
   have E:∀ty,(Instr.next (.pointer (some ⟨g.heap.size,0,none⟩)) true ty).run Tryz.prog wr=.ok (.tuple #[.bool true,.int .i64 (a:Int),.int .i32 (x:Int)]) (wr.iterAt g.heap.size (ofL s) (a+n)):=λty=>by
    have:=Lib.run_next_any_at (P:=Tryz.prog) wr g.heap.size (ofL s) a ty c (by rw[t];exact M);rw[p]at this;exact this
   have R:=hid b;have D:=hid (And.intro r q);clear b p r q c i
   go_wp2_with fail
   refine Calls.mono R.out ?_;rintro e U ⟨rfl,o⟩;have j:=hid o;clear o;go_wp2;go_roundw
   case rel=>exact⟨a+n,j⟩
   case measure=>
    have:=D.out;simp only[World.iterPos,j.it,C.out];omega
  ·have F:a=s.length:=by have:=i.le;omega
   subst F;have E:∀ty,(Instr.next (.pointer (some ⟨g.heap.size,0,none⟩)) true ty).run Tryz.prog wr=_:=λty=>Lib.run_next_end_at (P:=Tryz.prog) wr g.heap.size (ofL s) s.length ty c (by rw[t];omega)
   obtain⟨G,f,k,l⟩:=i.po;rw[List.take_length]at f;have J:=hid (And.intro k l);have O:=hid (show Calls Tryz.prog 44 #[.pointer (some ⟨B,6,none⟩),.int .u8 34] wr _ from A1r B wr z y u d so v _ G _ 34 f (by have:=A8t s;rw[List.length_append,List.length_append,List.length_singleton];omega));clear f k l i c
   go_wp2_with fail
   refine Calls.mono O.out ?_;rintro e U ⟨rfl,m⟩;have T:=hid (A2d.trans J.1 J.2 m);clear m;go_wp2;go_end0;refine⟨rfl,?_⟩;have:=T.out;simpa[A3g]using this
def A7h (indent:Int) (key:LU8):LU8:=A3g key++58::(if indent= -1 then[]else[32])
theorem A2d.keepI {B:Nat} {w w':World} {m k:Value} {f a:Int} {so:Bool} {j:Nat} {o n V:Value} {bs b:LU8} {l:List Im} (h:A2d B w m k f a so j n b w') (e:WAt B w m k f a so j o n bs) (c:B9r w V l):B9r w' V l:=by
 obtain⟨u,v,r,x⟩:=h;refine c.fr r (λi hi=>?_);rintro(h|h)
 ·subst h
  exact A8y c e.blk (by decide) hi
 ·rcases c.2 with⟨q,_⟩|⟨g,cap,p,t,_,s,_⟩
  ·rw[q]at hi;cases hi
  ·rw[t]at hi
   have d:g=i:=by simpa[Value.ownBlock]using hi
   subst d;exact A8y e.row s (by decide) h
theorem B7d (B:Nat) (w:World) (U v:Value) (t a:Int) (so:Bool) (u:Nat) (O y:Value) (bs:LU8) (l:List Im) (d:Nat) (x:Im) (h:WAt B w U v t a so u O y bs) (F:B9r w U l) (S:l[d]? =some x) (hu:isU x.s=true) (P:bs.length+6*x.s.length<=99999970000) (a3:l.length<=10000000):
 Calls Tryz.prog 75 #[.pointer (some ⟨B,0,none⟩),.int .i64 (d:Int)] w λe w'=>e=.returned (.tuple #[])/\A2d B w U v t a so u y (bs++A7h a x.s) w':=by
 obtain⟨g,m,cap,rfl⟩:=A0h F;obtain rfl:=A1a F;have a2:d<l.length:=(List.getElem?_eq_some_iff.1 S).1;obtain⟨D,rfl⟩:=A5s F (by omega);have k0:=A0a h.blk (show(A9k (.slice (some ⟨D,0,none⟩) l.length cap) v t a so u O y)[0]? =some (.slice (some ⟨D,0,none⟩) l.length cap)from rfl);have c3:=A2c F (d*4+3) (.string (ofL x.s)) (by rw[A4y l d 3 x S (by omega)];rfl);have a4:(d:Int)<(l.length:Int):=by omega
 have R:=A8t x.s;have K:=hid (B5e B w _ v t a so u O y bs x.s h hu (by omega));have r:(bs++A3g x.s).length<=99999980000:=by unfold A3g;simp only[List.length_append,List.length_cons,List.length_nil];omega
 have C:=hid r;obtain⟨T,I⟩:∃T,x.s=T:=⟨_,rfl⟩;rw[I]at K c3 C ⊢;unfold A7h;obtain⟨Q,Z⟩:∃Q,A3g T=Q:=⟨_,rfl⟩;rw[Z]at K C ⊢;have M:=hid (λ(w:World) (y:Value) (bs:LU8) (c:UInt8) (h:WAt B w (.slice (some ⟨D,0,none⟩) l.length cap) v t a so u (.pointer (some ⟨B,6,none⟩)) y bs) (P:bs.length<=100000000000)=>A1r B w _ v t a so u _ y bs c h P);clear h F S hu r I Z R P;by_cases o:a= -1
 ·subst o
  rw[if_pos rfl];go_enter Tryz.func75,Tryz.ntmps75
  go_wp2_with fail
  refine Calls.mono K.out ?_;rintro e J ⟨rfl,z,n,f,j⟩;have A:=hid (And.intro f j);have q:=hid (show Calls Tryz.prog 44 #[.pointer (some ⟨B,6,none⟩),.int .u8 58] J _ from M.out J z _ 58 n (by have:=C.out;omega));clear n f j
  go_wp2_with fail
  refine Calls.mono q.out ?_;rintro e W ⟨rfl,p,b,i,k⟩;have L:=hid (A2d.trans A.1 A.2 ⟨p,b,i,k⟩);have i3:=A0a b.blk (show(A9k (.slice (some ⟨D,0,none⟩) l.length cap) v t (-1) so u (.pointer (some ⟨B,6,none⟩)) p)[3]? =some (.int .i64 (-1))from rfl);clear b i k;go_wp2;go_end0;exact⟨rfl,by simpa using L.out⟩
 ·rw[if_neg o]
  have a0:(a== -1)=false:=bqF o;have a1:(a != -1)=true:=by simpa using o
  clear o;go_enter Tryz.func75,Tryz.ntmps75
  go_wp2_with fail
  refine Calls.mono K.out ?_;rintro e J ⟨rfl,z,n,f,j⟩;have A:=hid (And.intro f j);have q:=hid (show Calls Tryz.prog 44 #[.pointer (some ⟨B,6,none⟩),.int .u8 58] J _ from M.out J z _ 58 n (by have:=C.out;omega));clear n f j
  go_wp2_with fail
  refine Calls.mono q.out ?_;rintro e W ⟨rfl,p,b,i,k⟩;have L:=hid (A2d.trans A.1 A.2 ⟨p,b,i,k⟩);have i3:=A0a b.blk (show(A9k (.slice (some ⟨D,0,none⟩) l.length cap) v t a so u (.pointer (some ⟨B,6,none⟩)) p)[3]? =some (.int .i64 a)from rfl);clear b i k;obtain⟨V,H,E,G⟩:=L.out;have X:=hid (And.intro E G);have N:=hid (show Calls Tryz.prog 44 #[.pointer (some ⟨B,6,none⟩),.int .u8 32] W _ from M.out W V _ 32 H (by have:=C.out;simp only[List.length_append,List.length_singleton]at this ⊢;omega));clear H E G L A q
  go_wp2_with fail
  refine Calls.mono N.out ?_;rintro e w4 ⟨rfl,Y⟩;have KQ:=hid (A2d.trans X.1 X.2 Y);clear Y;go_wp2;go_end0;exact⟨rfl,by simpa using KQ.out⟩
end Go.Proofs.YtmkkibaacclhnaaGreatDoor
