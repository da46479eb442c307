/-
  A step of the walk, the part named Wy. No theorem of the row.
-/
import Derived.Test.YtmkkibaacclhnaaGreatDoorXfg
import Derived.Test.YtmkkibaacclhnaaGreatDoorPd
import Derived.Test.YtmkkibaacclhnaaGreatDoorCb
import Derived.Test.YtmkkibaacclhnaaGreatDoorXcd
import Derived.Test.YtmkkibaacclhnaaGreatDoorWp
import Derived.Laws.AppendOwnNone
namespace Go.Proofs.YtmkkibaacclhnaaGreatDoor
open Go.RowKit
set_option maxRecDepth 100000
set_option maxHeartbeats 16000000
theorem rdecimal_int (K:Int) (k:Nat) (hK:K=(k:Int)) (hk:k<6000) (w:World):Calls Tryz.prog 134 #[.int .i64 K] w fun e w'=>e=.returned (.string (ofL (dgs k)))∧w'=w:=by
 subst hK;exact rdecimal_any k (by omega) w
theorem rprint_a (BB MM:Int) (sg:List UInt8) (sb:ByteArray) (hsb:sb=ofL sg∧sg.length≤1) (hsg:(decide ((9223372036854775808:Int)≤BB)=false∧MM=BB∧sg=[]∧sb=ByteArray.mk #[])∨(decide ((9223372036854775808:Int)≤BB)=true∧IntKind.u64.wrap (BB-9223372036854775808)=MM∧sg=[45]∧sb=ByteArray.mk #[45])) (d:List UInt8) (x:Int) (w:World) (hfin:decide ((9218868437227405312:Int)≤MM)=false) (h0:(MM==0)=false)
 (hd0:0<d.length) (hd:d.length≤20) (hx1: -5000≤x) (hx2:x≤5000)
 (hS:∀w,Calls Tryz.prog 132 #[.int .u64 MM] w fun e w'=>e=.returned (.tuple #[.string (ofL d),.int .i64 x])∧Fr (fun _=>False) w w') (hc:1≤(d.length:Int)+x∧(d.length:Int)+x≤21∧0≤x):
 Calls Tryz.prog 77 #[.int .u64 BB] w fun e w'=>e=.returned (.tuple #[.string (ofL (sg++layL d x)),.int .i64 0])∧Fr (fun _=>False) w w':=by
 obtain⟨hsb,hsl⟩:=hsb;have HS:=hid hS;have hxx:=And.intro (And.intro hx1 hx2) (And.intro hd0 hd);clear hS hxx;have hsz:=ofL_size d;obtain⟨k,rfl⟩:∃k:Nat,x=(k:Int):=⟨x.toNat,by omega⟩
 have HR:=hid (show layL d (k:Int)=d++List.replicate k 48 from by
  rw[layL,if_neg (by omega),if_neg (by omega),if_pos (by omega),show(k:Int).toNat=k by omega])
 have z1:(ofL (sg++d)).size≤40:=by rw[ofL_size];simp;omega
 have z2:(ofL (List.replicate k 48)).size=k:=by rw[ofL_size];simp
 have a1:sb++ofL d=ofL (sg++d):=by rw[hsb,ofL_append]
 have z0:(sb++ofL d).size≤40:=by rw[a1];exact z1
 clear a1 z1;obtain⟨hc1,hc2,hc3⟩:=hc;clear hsb hsl;rcases hsg with⟨hneg,rfl,rfl,rfl⟩|⟨hneg,hsub,rfl,rfl⟩
 all_goals
  go_enter Tryz.func77,Tryz.ntmps77
  go_wp2_with fail
  refine(HS.out _).mono ?_;rintro e w1 ⟨rfl,hF⟩;have HF:=hid hF;clear hF
  go_wp2_with (go_at_call 133;refine(rnoughts_any k (by omega) _).mono ?_;rintro e w' ⟨rfl,rfl⟩)
  go_ret2;refine⟨congrArg (fun t=>Ending.returned (Value.tuple #[Value.string t,.int .i64 0])) ?_,HF.out⟩;rw[HR.out];apply ByteArray.ext;simp[ofL]
theorem rprint_b (BB MM:Int) (sg:List UInt8) (sb:ByteArray) (hsb:sb=ofL sg∧sg.length≤1) (hsg:(decide ((9223372036854775808:Int)≤BB)=false∧MM=BB∧sg=[]∧sb=ByteArray.mk #[])∨(decide ((9223372036854775808:Int)≤BB)=true∧IntKind.u64.wrap (BB-9223372036854775808)=MM∧sg=[45]∧sb=ByteArray.mk #[45])) (d:List UInt8) (x:Int) (w:World) (hfin:decide ((9218868437227405312:Int)≤MM)=false) (h0:(MM==0)=false)
 (hd0:0<d.length) (hd:d.length≤20) (hx1: -5000≤x) (hx2:x≤5000)
 (hS:∀w,Calls Tryz.prog 132 #[.int .u64 MM] w fun e w'=>e=.returned (.tuple #[.string (ofL d),.int .i64 x])∧Fr (fun _=>False) w w') (hc:1≤(d.length:Int)+x∧(d.length:Int)+x≤21∧x<0):
 Calls Tryz.prog 77 #[.int .u64 BB] w fun e w'=>e=.returned (.tuple #[.string (ofL (sg++layL d x)),.int .i64 0])∧Fr (fun _=>False) w w':=by
 obtain⟨hsb,hsl⟩:=hsb;have HS:=hid hS;have hxx:=And.intro (And.intro hx1 hx2) (And.intro hd0 hd);clear hS hxx;have hsz:=ofL_size d;obtain⟨q,hq⟩:∃q:Nat,(d.length:Int)+x=q:=⟨((d.length:Int)+x).toNat,by omega⟩
 have HR:=hid (show layL d x=d.take q++[46]++d.drop q from by
  rw[layL,if_neg (by omega),if_neg (by omega),if_neg (by omega),hq];rfl)
 have e1:(ofL d).extract 0 q=ofL (d.take q):=by rw[ofL_extract,List.drop_zero]
 have e2:(ofL d).extract q d.length=ofL (d.drop q):=by rw[ofL_extract,List.take_length]
 have z1:(ofL (sg++d.take q)).size≤40:=by rw[ofL_size];simp;omega
 have z2:(ofL (sg++d.take q++[46])).size≤60:=by rw[ofL_size];simp;omega
 have z3:(ofL (d.take q)).size≤20:=by rw[ofL_size];simp;omega
 have z4:(ofL (d.drop q)).size≤20:=by rw[ofL_size];simp;omega
 have a1:sb++ofL (d.take q)=ofL (sg++d.take q):=by rw[hsb,ofL_append]
 have y0:(sb++ofL (d.take q)).size≤40:=by rw[a1];exact z1
 have a2:ofL (sg++d.take q)++(ByteArray.mk #[46])=ofL (sg++d.take q++[46]):=by apply ByteArray.ext;simp[ofL]
 have a3:ofL (sg++d.take q++[46])++ofL (d.drop q)=ofL (sg++d.take q++[46]++d.drop q):=ofL_append _ _;obtain⟨hc1,hc2,hc3⟩:=hc;have y1:(sb++ofL (d.take q)++(ByteArray.mk #[46])).size≤60:=by rw[a1,a2];exact z2
 clear a1 a2 a3 z1 z2;have hql:q≤d.length:=by omega
 clear hsb hsl;rcases hsg with⟨hneg,rfl,rfl,rfl⟩|⟨hneg,hsub,rfl,rfl⟩
 all_goals
  go_enter Tryz.func77,Tryz.ntmps77
  go_wp2_with fail
  refine(HS.out _).mono ?_;rintro e w1 ⟨rfl,hF⟩;have HF:=hid hF;clear hF
  go_wp2_with fail
  go_region
  all_goals
   go_wp2;go_ret2;refine⟨congrArg (fun t=>Ending.returned (Value.tuple #[Value.string t,.int .i64 0])) ?_,HF.out.drew⟩;rw[HR.out];apply ByteArray.ext;simp[ofL]
theorem rprint_c (BB MM:Int) (sg:List UInt8) (sb:ByteArray) (hsb:sb=ofL sg∧sg.length≤1) (hsg:(decide ((9223372036854775808:Int)≤BB)=false∧MM=BB∧sg=[]∧sb=ByteArray.mk #[])∨(decide ((9223372036854775808:Int)≤BB)=true∧IntKind.u64.wrap (BB-9223372036854775808)=MM∧sg=[45]∧sb=ByteArray.mk #[45])) (d:List UInt8) (x:Int) (w:World) (hfin:decide ((9218868437227405312:Int)≤MM)=false) (h0:(MM==0)=false)
 (hd0:0<d.length) (hd:d.length≤20) (hx1: -5000≤x) (hx2:x≤5000)
 (hS:∀w,Calls Tryz.prog 132 #[.int .u64 MM] w fun e w'=>e=.returned (.tuple #[.string (ofL d),.int .i64 x])∧Fr (fun _=>False) w w') (hc: -5≤(d.length:Int)+x∧(d.length:Int)+x≤0):
 Calls Tryz.prog 77 #[.int .u64 BB] w fun e w'=>e=.returned (.tuple #[.string (ofL (sg++layL d x)),.int .i64 0])∧Fr (fun _=>False) w w':=by
 obtain⟨hsb,hsl⟩:=hsb;have HS:=hid hS;have hxx:=And.intro (And.intro hx1 hx2) (And.intro hd0 hd);clear hS hxx;have hsz:=ofL_size d;obtain⟨k,hk⟩:∃k:Nat,-((d.length:Int)+x)=k:=⟨(-((d.length:Int)+x)).toNat,by omega⟩
 have HR:=hid (show layL d x=[48,46]++List.replicate k 48++d from by
  rw[layL,if_neg (by omega),if_pos (by omega),hk];rfl)
 have z2:(ofL (List.replicate k 48)).size=k:=by rw[ofL_size];simp
 have z3:(ofL (sg++[48,46]++List.replicate k 48)).size≤60:=by rw[ofL_size];simp;omega
 have a2:ofL (sg++[48,46])++ofL (List.replicate k 48)=ofL (sg++[48,46]++List.replicate k 48):=ofL_append _ _;have a3:ofL (sg++[48,46]++List.replicate k 48)++ofL d=ofL (sg++[48,46]++List.replicate k 48++d):=ofL_append _ _;have HK:=hid hk;have hkb:k≤5:=by omega
 obtain⟨hc1,hc2⟩:=hc;clear hk;clear hsb hsl;rcases hsg with⟨hneg,rfl,rfl,rfl⟩|⟨hneg,hsub,rfl,rfl⟩
 all_goals
  go_enter Tryz.func77,Tryz.ntmps77
  go_wp2_with fail
  refine(HS.out _).mono ?_;rintro e w1 ⟨rfl,hF⟩;have HF:=hid hF;clear hF
  go_wp2_with (go_at_call 133;rw[HK.out];refine(rnoughts_any k (by omega) _).mono ?_;rintro e w' ⟨rfl,rfl⟩)
  go_ret2;refine⟨congrArg (fun t=>Ending.returned (Value.tuple #[Value.string t,.int .i64 0])) ?_,HF.out⟩;rw[HR.out];apply ByteArray.ext;simp[ofL]
theorem rprint_e (BB MM:Int) (sg:List UInt8) (sb:ByteArray) (hsb:sb=ofL sg∧sg.length≤1) (hsg:(decide ((9223372036854775808:Int)≤BB)=false∧MM=BB∧sg=[]∧sb=ByteArray.mk #[])∨(decide ((9223372036854775808:Int)≤BB)=true∧IntKind.u64.wrap (BB-9223372036854775808)=MM∧sg=[45]∧sb=ByteArray.mk #[45])) (d:List UInt8) (x:Int) (w:World) (hfin:decide ((9218868437227405312:Int)≤MM)=false) (h0:(MM==0)=false)
 (hd0:0<d.length) (hd:d.length≤20) (hx1: -5000≤x) (hx2:x≤5000)
 (hS:∀w,Calls Tryz.prog 132 #[.int .u64 MM] w fun e w'=>e=.returned (.tuple #[.string (ofL d),.int .i64 x])∧Fr (fun _=>False) w w') (hc:(d.length:Int)+x< -5∧1<d.length):
 Calls Tryz.prog 77 #[.int .u64 BB] w fun e w'=>e=.returned (.tuple #[.string (ofL (sg++layL d x)),.int .i64 0])∧Fr (fun _=>False) w w':=by
 obtain⟨hsb,hsl⟩:=hsb;have HS:=hid hS;have hxx:=And.intro (And.intro hx1 hx2) (And.intro hd0 hd);clear hS hxx;have hsz:=ofL_size d;obtain⟨k,hk⟩:∃k:Nat,1-((d.length:Int)+x)=k:=⟨(1-((d.length:Int)+x)).toNat,by omega⟩;have hkk:k<6000:=by omega
 have HR:=hid (show layL d x=d.take 1++(46::d.drop 1)++([101,45]++dgs k)from by
  rw[layL,if_pos (by omega),expL,if_pos (by omega),if_pos (by omega)]
  rw[show(-((d.length:Int)+x-1)).toNat=k by omega])
 have e1:(ofL d).extract 0 1=ofL (d.take 1):=by rw[ofL_extract,List.drop_zero]
 have e2:(ofL d).extract 1 d.length=ofL (d.drop 1):=by rw[ofL_extract,List.take_length]
 have z3:(ofL (d.take 1)).size≤20:=by rw[ofL_size];simp;omega
 have z4:(ofL d.tail).size≤20:=by rw[ofL_size,List.length_tail];omega
 have z5:(ofL (dgs k)).size≤20:=by rw[ofL_size];exact dgs_len20 k (by omega)
 have HK:=hid hk;obtain⟨hc1,hc2⟩:=hc;clear hk;clear hsb hsl;rcases hsg with⟨hneg,rfl,rfl,rfl⟩|⟨hneg,hsub,rfl,rfl⟩
 all_goals
  go_enter Tryz.func77,Tryz.ntmps77
  go_wp2_with fail
  refine(HS.out _).mono ?_;rintro e w1 ⟨rfl,hF⟩;have HF:=hid hF;clear hF
  go_wp2_with (go_at_call 134;refine(rdecimal_int _ k (by have:=HK.out;omega) (by omega) _).mono ?_;rintro e w' ⟨rfl,rfl⟩)
  go_ret2;refine⟨congrArg (fun t=>Ending.returned (Value.tuple #[Value.string t,.int .i64 0])) ?_,HF.out⟩;rw[HR.out];apply ByteArray.ext;simp[ofL]
theorem rprint_f (BB MM:Int) (sg:List UInt8) (sb:ByteArray) (hsb:sb=ofL sg∧sg.length≤1) (hsg:(decide ((9223372036854775808:Int)≤BB)=false∧MM=BB∧sg=[]∧sb=ByteArray.mk #[])∨(decide ((9223372036854775808:Int)≤BB)=true∧IntKind.u64.wrap (BB-9223372036854775808)=MM∧sg=[45]∧sb=ByteArray.mk #[45])) (d:List UInt8) (x:Int) (w:World) (hfin:decide ((9218868437227405312:Int)≤MM)=false) (h0:(MM==0)=false)
 (hd0:0<d.length) (hd:d.length≤20) (hx1: -5000≤x) (hx2:x≤5000)
 (hS:∀w,Calls Tryz.prog 132 #[.int .u64 MM] w fun e w'=>e=.returned (.tuple #[.string (ofL d),.int .i64 x])∧Fr (fun _=>False) w w') (hc:(d.length:Int)+x< -5∧d.length=1):
 Calls Tryz.prog 77 #[.int .u64 BB] w fun e w'=>e=.returned (.tuple #[.string (ofL (sg++layL d x)),.int .i64 0])∧Fr (fun _=>False) w w':=by
 obtain⟨hsb,hsl⟩:=hsb;have HS:=hid hS;have hxx:=And.intro (And.intro hx1 hx2) (And.intro hd0 hd);clear hS hxx;have hsz:=ofL_size d;obtain⟨k,hk⟩:∃k:Nat,1-((d.length:Int)+x)=k:=⟨(1-((d.length:Int)+x)).toNat,by omega⟩;have hkk:k<6000:=by omega
 have HR:=hid (show layL d x=d.take 1++[]++([101,45]++dgs k)from by
  rw[layL,if_pos (by omega),expL,if_neg (by omega),if_pos (by omega)]
  rw[show(-((d.length:Int)+x-1)).toNat=k by omega])
 have e1:(ofL d).extract 0 1=ofL (d.take 1):=by rw[ofL_extract,List.drop_zero]
 have e2:(ofL d).extract 1 d.length=ofL (d.drop 1):=by rw[ofL_extract,List.take_length]
 have z3:(ofL (d.take 1)).size≤20:=by rw[ofL_size];simp;omega
 have z4:(ofL d.tail).size≤20:=by rw[ofL_size,List.length_tail];omega
 have z5:(ofL (dgs k)).size≤20:=by rw[ofL_size];exact dgs_len20 k (by omega)
 have HK:=hid hk;obtain⟨hc1,hc2⟩:=hc;clear hk;clear hsb hsl;rcases hsg with⟨hneg,rfl,rfl,rfl⟩|⟨hneg,hsub,rfl,rfl⟩
 all_goals
  go_enter Tryz.func77,Tryz.ntmps77
  go_wp2_with fail
  refine(HS.out _).mono ?_;rintro e w1 ⟨rfl,hF⟩;have HF:=hid hF;clear hF
  go_wp2_with (go_at_call 134;refine(rdecimal_int _ k (by have:=HK.out;omega) (by omega) _).mono ?_;rintro e w' ⟨rfl,rfl⟩)
  go_ret2;refine⟨congrArg (fun t=>Ending.returned (Value.tuple #[Value.string t,.int .i64 0])) ?_,HF.out⟩;rw[HR.out];apply ByteArray.ext;simp[ofL]
theorem rprint_g (BB MM:Int) (sg:List UInt8) (sb:ByteArray) (hsb:sb=ofL sg∧sg.length≤1) (hsg:(decide ((9223372036854775808:Int)≤BB)=false∧MM=BB∧sg=[]∧sb=ByteArray.mk #[])∨(decide ((9223372036854775808:Int)≤BB)=true∧IntKind.u64.wrap (BB-9223372036854775808)=MM∧sg=[45]∧sb=ByteArray.mk #[45])) (d:List UInt8) (x:Int) (w:World) (hfin:decide ((9218868437227405312:Int)≤MM)=false) (h0:(MM==0)=false)
 (hd0:0<d.length) (hd:d.length≤20) (hx1: -5000≤x) (hx2:x≤5000)
 (hS:∀w,Calls Tryz.prog 132 #[.int .u64 MM] w fun e w'=>e=.returned (.tuple #[.string (ofL d),.int .i64 x])∧Fr (fun _=>False) w w') (hc:21<(d.length:Int)+x∧1<d.length):
 Calls Tryz.prog 77 #[.int .u64 BB] w fun e w'=>e=.returned (.tuple #[.string (ofL (sg++layL d x)),.int .i64 0])∧Fr (fun _=>False) w w':=by
 obtain⟨hsb,hsl⟩:=hsb;have HS:=hid hS;have hxx:=And.intro (And.intro hx1 hx2) (And.intro hd0 hd);clear hS hxx;have hsz:=ofL_size d;obtain⟨k,hk⟩:∃k:Nat,(d.length:Int)+x-1=k:=⟨((d.length:Int)+x-1).toNat,by omega⟩;have hkk:k<6000:=by omega
 have HR:=hid (show layL d x=d.take 1++(46::d.drop 1)++([101,43]++dgs k)from by
  rw[layL,if_pos (by omega),expL,if_pos (by omega),if_neg (by omega)]
  rw[show((d.length:Int)+x-1).toNat=k by omega])
 have e1:(ofL d).extract 0 1=ofL (d.take 1):=by rw[ofL_extract,List.drop_zero]
 have e2:(ofL d).extract 1 d.length=ofL (d.drop 1):=by rw[ofL_extract,List.take_length]
 have z3:(ofL (d.take 1)).size≤20:=by rw[ofL_size];simp;omega
 have z4:(ofL d.tail).size≤20:=by rw[ofL_size,List.length_tail];omega
 have z5:(ofL (dgs k)).size≤20:=by rw[ofL_size];exact dgs_len20 k (by omega)
 have HK:=hid hk;obtain⟨hc1,hc2⟩:=hc;clear hk;clear hsb hsl;rcases hsg with⟨hneg,rfl,rfl,rfl⟩|⟨hneg,hsub,rfl,rfl⟩
 all_goals
  go_enter Tryz.func77,Tryz.ntmps77
  go_wp2_with fail
  refine(HS.out _).mono ?_;rintro e w1 ⟨rfl,hF⟩;have HF:=hid hF;clear hF
  go_wp2_with (go_at_call 134;refine(rdecimal_int _ k (by have:=HK.out;omega) (by omega) _).mono ?_;rintro e w' ⟨rfl,rfl⟩)
  go_ret2;refine⟨congrArg (fun t=>Ending.returned (Value.tuple #[Value.string t,.int .i64 0])) ?_,HF.out⟩;rw[HR.out];apply ByteArray.ext;simp[ofL]
theorem rprint_h (BB MM:Int) (sg:List UInt8) (sb:ByteArray) (hsb:sb=ofL sg∧sg.length≤1) (hsg:(decide ((9223372036854775808:Int)≤BB)=false∧MM=BB∧sg=[]∧sb=ByteArray.mk #[])∨(decide ((9223372036854775808:Int)≤BB)=true∧IntKind.u64.wrap (BB-9223372036854775808)=MM∧sg=[45]∧sb=ByteArray.mk #[45])) (d:List UInt8) (x:Int) (w:World) (hfin:decide ((9218868437227405312:Int)≤MM)=false) (h0:(MM==0)=false)
 (hd0:0<d.length) (hd:d.length≤20) (hx1: -5000≤x) (hx2:x≤5000)
 (hS:∀w,Calls Tryz.prog 132 #[.int .u64 MM] w fun e w'=>e=.returned (.tuple #[.string (ofL d),.int .i64 x])∧Fr (fun _=>False) w w') (hc:21<(d.length:Int)+x∧d.length=1):
 Calls Tryz.prog 77 #[.int .u64 BB] w fun e w'=>e=.returned (.tuple #[.string (ofL (sg++layL d x)),.int .i64 0])∧Fr (fun _=>False) w w':=by
 obtain⟨hsb,hsl⟩:=hsb;have HS:=hid hS;have hxx:=And.intro (And.intro hx1 hx2) (And.intro hd0 hd);clear hS hxx;have hsz:=ofL_size d;obtain⟨k,hk⟩:∃k:Nat,(d.length:Int)+x-1=k:=⟨((d.length:Int)+x-1).toNat,by omega⟩;have hkk:k<6000:=by omega
 have HR:=hid (show layL d x=d.take 1++[]++([101,43]++dgs k)from by
  rw[layL,if_pos (by omega),expL,if_neg (by omega),if_neg (by omega)]
  rw[show((d.length:Int)+x-1).toNat=k by omega])
 have e1:(ofL d).extract 0 1=ofL (d.take 1):=by rw[ofL_extract,List.drop_zero]
 have e2:(ofL d).extract 1 d.length=ofL (d.drop 1):=by rw[ofL_extract,List.take_length]
 have z3:(ofL (d.take 1)).size≤20:=by rw[ofL_size];simp;omega
 have z4:(ofL d.tail).size≤20:=by rw[ofL_size,List.length_tail];omega
 have z5:(ofL (dgs k)).size≤20:=by rw[ofL_size];exact dgs_len20 k (by omega)
 have HK:=hid hk;obtain⟨hc1,hc2⟩:=hc;clear hk;clear hsb hsl;rcases hsg with⟨hneg,rfl,rfl,rfl⟩|⟨hneg,hsub,rfl,rfl⟩
 all_goals
  go_enter Tryz.func77,Tryz.ntmps77
  go_wp2_with fail
  refine(HS.out _).mono ?_;rintro e w1 ⟨rfl,hF⟩;have HF:=hid hF;clear hF
  go_wp2_with (go_at_call 134;refine(rdecimal_int _ k (by have:=HK.out;omega) (by omega) _).mono ?_;rintro e w' ⟨rfl,rfl⟩)
  go_ret2;refine⟨congrArg (fun t=>Ending.returned (Value.tuple #[Value.string t,.int .i64 0])) ?_,HF.out⟩;rw[HR.out];apply ByteArray.ext;simp[ofL]
theorem rprint_p (BB:Int) (d:List UInt8) (x:Int) (w:World) (hneg:decide ((9223372036854775808:Int)≤BB)=false) (hfin:decide ((9218868437227405312:Int)≤BB)=false) (h0:(BB==0)=false)
 (hd0:0<d.length) (hd:d.length≤20) (hx1: -5000≤x) (hx2:x≤5000)
 (hS:∀w,Calls Tryz.prog 132 #[.int .u64 BB] w fun e w'=>e=.returned (.tuple #[.string (ofL d),.int .i64 x])∧Fr (fun _=>False) w w'):
 Calls Tryz.prog 77 #[.int .u64 BB] w fun e w'=>e=.returned (.tuple #[.string (ofL ([]++layL d x)),.int .i64 0])∧Fr (fun _=>False) w w':=by
 by_cases h1:21<(d.length:Int)+x
 ·by_cases h2:d.length=1
  ·exact rprint_h BB BB [] _ ⟨rfl,by simp⟩ (.inl ⟨hneg,rfl,rfl,rfl⟩) d x w hfin h0 hd0 hd hx1 hx2 hS ⟨h1,h2⟩
  ·exact rprint_g BB BB [] _ ⟨rfl,by simp⟩ (.inl ⟨hneg,rfl,rfl,rfl⟩) d x w hfin h0 hd0 hd hx1 hx2 hS ⟨h1,by omega⟩
 ·by_cases h3:(d.length:Int)+x< -5
  ·by_cases h2:d.length=1
   ·exact rprint_f BB BB [] _ ⟨rfl,by simp⟩ (.inl ⟨hneg,rfl,rfl,rfl⟩) d x w hfin h0 hd0 hd hx1 hx2 hS ⟨h3,h2⟩
   ·exact rprint_e BB BB [] _ ⟨rfl,by simp⟩ (.inl ⟨hneg,rfl,rfl,rfl⟩) d x w hfin h0 hd0 hd hx1 hx2 hS ⟨h3,by omega⟩
  ·by_cases h4:(d.length:Int)+x≤0
   ·exact rprint_c BB BB [] _ ⟨rfl,by simp⟩ (.inl ⟨hneg,rfl,rfl,rfl⟩) d x w hfin h0 hd0 hd hx1 hx2 hS ⟨by omega,h4⟩
   ·by_cases h5:0≤x
    ·exact rprint_a BB BB [] _ ⟨rfl,by simp⟩ (.inl ⟨hneg,rfl,rfl,rfl⟩) d x w hfin h0 hd0 hd hx1 hx2 hS ⟨by omega,by omega,h5⟩
    ·exact rprint_b BB BB [] _ ⟨rfl,by simp⟩ (.inl ⟨hneg,rfl,rfl,rfl⟩) d x w hfin h0 hd0 hd hx1 hx2 hS ⟨by omega,by omega,by omega⟩
theorem rprint_n (BB MM:Int) (d:List UInt8) (x:Int) (w:World) (hneg:decide ((9223372036854775808:Int)≤BB)=true) (hsub:IntKind.u64.wrap (BB-9223372036854775808)=MM) (hfin:decide ((9218868437227405312:Int)≤MM)=false) (h0:(MM==0)=false)
 (hd0:0<d.length) (hd:d.length≤20) (hx1: -5000≤x) (hx2:x≤5000)
 (hS:∀w,Calls Tryz.prog 132 #[.int .u64 MM] w fun e w'=>e=.returned (.tuple #[.string (ofL d),.int .i64 x])∧Fr (fun _=>False) w w'):
 Calls Tryz.prog 77 #[.int .u64 BB] w fun e w'=>e=.returned (.tuple #[.string (ofL ([45]++layL d x)),.int .i64 0])∧Fr (fun _=>False) w w':=by
 by_cases h1:21<(d.length:Int)+x
 ·by_cases h2:d.length=1
  ·exact rprint_h BB MM [45] _ ⟨rfl,by simp⟩ (.inr ⟨hneg,hsub,rfl,rfl⟩) d x w hfin h0 hd0 hd hx1 hx2 hS ⟨h1,h2⟩
  ·exact rprint_g BB MM [45] _ ⟨rfl,by simp⟩ (.inr ⟨hneg,hsub,rfl,rfl⟩) d x w hfin h0 hd0 hd hx1 hx2 hS ⟨h1,by omega⟩
 ·by_cases h3:(d.length:Int)+x< -5
  ·by_cases h2:d.length=1
   ·exact rprint_f BB MM [45] _ ⟨rfl,by simp⟩ (.inr ⟨hneg,hsub,rfl,rfl⟩) d x w hfin h0 hd0 hd hx1 hx2 hS ⟨h3,h2⟩
   ·exact rprint_e BB MM [45] _ ⟨rfl,by simp⟩ (.inr ⟨hneg,hsub,rfl,rfl⟩) d x w hfin h0 hd0 hd hx1 hx2 hS ⟨h3,by omega⟩
  ·by_cases h4:(d.length:Int)+x≤0
   ·exact rprint_c BB MM [45] _ ⟨rfl,by simp⟩ (.inr ⟨hneg,hsub,rfl,rfl⟩) d x w hfin h0 hd0 hd hx1 hx2 hS ⟨by omega,h4⟩
   ·by_cases h5:0≤x
    ·exact rprint_a BB MM [45] _ ⟨rfl,by simp⟩ (.inr ⟨hneg,hsub,rfl,rfl⟩) d x w hfin h0 hd0 hd hx1 hx2 hS ⟨by omega,by omega,h5⟩
    ·exact rprint_b BB MM [45] _ ⟨rfl,by simp⟩ (.inr ⟨hneg,hsub,rfl,rfl⟩) d x w hfin h0 hd0 hd hx1 hx2 hS ⟨by omega,by omega,by omega⟩
theorem rprint_zerop (w:World):Calls Tryz.prog 77 #[.int .u64 0] w fun e w'=>e=.returned (.tuple #[.string (ofL [48]),.int .i64 0])∧w'=w:=by
 go_enter Tryz.func77,Tryz.ntmps77;go_wp2;go_ret2;exact⟨rfl,rfl⟩
theorem rprint_zeron (w:World):Calls Tryz.prog 77 #[.int .u64 9223372036854775808] w fun e w'=>e=.returned (.tuple #[.string (ofL [45,48]),.int .i64 0])∧w'=w:=by
 go_enter Tryz.func77,Tryz.ntmps77;go_wp2;go_ret2;exact⟨rfl,rfl⟩
theorem p10_342:p2 1074≤p10 342:=by decide+kernel
theorem V_pos {m:Nat} (h:m≠0):1≤V m:=by
 have:=V_lt (show 0<m by omega);omega
theorem ten_lo (m:Nat) (h:m≠0):TenLe m (-342):=by
 unfold TenLe;rw[show((-342:Int)).toNat=0 from rfl,show(-(-342:Int)).toNat=342 from rfl,show p10 0=1 from rfl,Nat.one_mul];refine Nat.le_trans p10_342 (Nat.le_mul_of_pos_right _ (V_pos h))
theorem V_top (m:Nat) (hm:m<9218868437227405312):V m<p2 2100:=by
 rw[manE_V];obtain⟨h1,h2⟩:=man_less m hm;have e:p2 2100=p2 53*p2 2047:=by rw[←p2_add]
 rw[e,p2_53];exact Nat.lt_of_lt_of_le (Nat.mul_lt_mul_of_pos_right h1 (p2_pos _)) (Nat.mul_le_mul_left _ (p2_le (by omega)))
theorem p10_682:p2 2100≤p10 682*p2 1074:=by
 have a:p2 2046≤p10 682:=p2_p10 682;have b:p2 2100=p2 2046*p2 54:=by rw[←p2_add]
 rw[b];exact Nat.mul_le_mul a (p2_le (by omega))
theorem ten_hi (m:Nat) (hm:m<9218868437227405312):¬TenLe m 682:=by
 unfold TenLe;rw[show((682:Int)).toNat=682 from rfl,show(-(682:Int)).toNat=0 from rfl,show p10 0=1 from rfl,Nat.one_mul];have:=V_top m hm;have:=p10_682;omega
theorem run_ended_one {P:Program} {m l1 l2:Machine} {j1 j2:Nat} {o1 o2:Outcome} {w1 w2:World} (h1:runN P j1 m=.next l1) (e1:step P l1=.ended o1 w1) (h2:runN P j2 m=.next l2) (e2:step P l2=.ended o2 w2):o1=o2:=by
 have r1:runN P (j1+1) m=.ended o1 w1:=by rw[runN_add,h1];simp[runN,e1]
 have r2:runN P (j2+1) m=.ended o2 w2:=by rw[runN_add,h2];simp[runN,e2]
 have s1:runN P (j1+1+(j2+1)) m=.ended o1 w1:=by rw[runN_add,r1]
 have s2:runN P (j2+1+(j1+1)) m=.ended o2 w2:=by rw[runN_add,r2]
 rw[Nat.add_comm,s2]at s1;injection s1 with s1 _
 exact s1.symm
theorem calls_one {P:Program} {f:FuncId} {args:Array Value} {w:World} {a b:Value} {R S:World→Prop} (hi:P.inits.idxOf? f=none) (h1:Calls P f args w fun e w'=>e=.returned a∧R w') (h2:Calls P f args w fun e w'=>e=.returned b∧S w'):a=b:=by
 obtain⟨e1,w1,f1,⟨rfl,_⟩,⟨j1,c1⟩,n1,l1⟩:=h1 [];obtain⟨e2,w2,f2,⟨rfl,_⟩,⟨j2,c2⟩,n2,l2⟩:=h2 [];have s1:=step_leave_done l1 (by rw[n1];exact hi);have s2:=step_leave_done l2 (by rw[n2];exact hi);have:=run_ended_one c1 s1 c2 s2;injection this
theorem ofL_inj {a b:List UInt8} (h:ofL a=ofL b):a=b:=by rw[←ofL_toList a,←ofL_toList b,h]
def PrT (bits:Nat) (t:List UInt8):Prop:=∀w,Calls Tryz.prog 77 #[.int .u64 (bits:Int)] w fun e w'=>e=.returned (.tuple #[.string (ofL t),.int .i64 0])∧Fr (fun _=>False) w w'
theorem PrT.one {bits:Nat} {t u:List UInt8} (w:World) (h1:PrT bits t) (h2:PrT bits u):t=u:=by
 have:=calls_one (by kernel_rfl) (h1 w) (h2 w);simp at this;exact ofL_inj this
theorem print_both (bits:Nat) (w:World) (hb:bits<18446744073709551616) (hfin:bits % 9223372036854775808<9218868437227405312):
 Calls Tryz.prog 23 #[.int .u64 (bits:Int)] w fun e w'=>∃t,e=.returned (.tuple #[.string (ofL t),.int .i64 0])∧PrT bits t∧t.length≤101∧Fr (fun _=>False) w w':=by
 obtain⟨m,hm⟩:∃m,bits % 9223372036854775808=m:=⟨_,rfl⟩;have hx:=u64_andNot_sign bits hb;rw[hm]at hx;rw[hm]at hfin;by_cases hneg:bits<9223372036854775808
 ·obtain rfl:bits=m:=by omega
  have hn:decide ((9223372036854775808:Int)≤(bits:Int))=false:=decide_eq_false (by omega);by_cases hf:bits<9218868437227405312
  ·have hnf:decide ((9218868437227405312:Int)≤(bits:Int))=false:=decide_eq_false (by omega)
   by_cases h0:bits=0
   ·subst h0
    refine(print_zero 0 0 w hx rfl).mono ?_;rintro e w' ⟨rfl,hF⟩;exact⟨[48],rfl,fun w=>(rprint_zerop w).mono fun e w' ⟨h1,h2⟩=>⟨h1,by rw[h2];exact Fr.refl _ _⟩,by simp,hF⟩
   ·refine(print_num bits bits w hx h0 hf).mono ?_
    rintro e w' ⟨D,pw,hS,hD,h1,h2,rfl,hF⟩;refine⟨layL (dgs D) pw,by rw[bne_self_eq_false];rfl,fun w=>?_,by have:=layL_len (dgs D) pw (dgs_len20 D (by omega)) h1 h2;(try simp only[List.length_append,List.length_singleton]);omega,hF⟩;exact rprint_p bits (dgs D) pw w hn hnf (beq_eq_false_iff_ne.2 (by omega)) (dgs_pos D) (dgs_len20 D (by omega)) h1 h2 (fun w=>rshort_any bits D pw w hS h0 hf h1 (ten_lo bits h0) (ten_hi bits hf))
  ·exact absurd hfin hf
 ·have hn:decide ((9223372036854775808:Int)≤(bits:Int))=true:=decide_eq_true (by omega)
  have hsub:IntKind.u64.wrap ((bits:Int)-9223372036854775808)=(m:Int):=by
   rw[show(bits:Int)-9223372036854775808=(m:Int) by omega];exact IntWalk.u64_in _ ⟨by omega,by clear hx;omega⟩
  have hne:(bits !=m)=true:=bne_iff_ne.2 (by omega);by_cases hf:m<9218868437227405312
  ·have hnf:decide ((9218868437227405312:Int)≤(m:Int))=false:=decide_eq_false (by omega)
   by_cases h0:m=0
   ·subst h0
    obtain rfl:bits=9223372036854775808:=by omega
    refine(print_zero 9223372036854775808 0 w hx rfl).mono ?_;rintro e w' ⟨rfl,hF⟩;exact⟨[45,48],rfl,fun w=>(rprint_zeron w).mono fun e w' ⟨h1,h2⟩=>⟨h1,by rw[h2];exact Fr.refl _ _⟩,by simp,hF⟩
   ·refine(print_num bits m w hx h0 hf).mono ?_
    rintro e w' ⟨D,pw,hS,hD,h1,h2,rfl,hF⟩;refine⟨[45]++layL (dgs D) pw,by rw[hne];rfl,fun w=>?_,by have:=layL_len (dgs D) pw (dgs_len20 D (by omega)) h1 h2;(try simp only[List.length_append,List.length_singleton]);omega,hF⟩;exact rprint_n bits m (dgs D) pw w hn hsub hnf (beq_eq_false_iff_ne.2 (by omega)) (dgs_pos D) (dgs_len20 D (by omega)) h1 h2 (fun w=>rshort_any m D pw w hS h0 hf h1 (ten_lo m h0) (ten_hi m hf))
  ·exact absurd hfin hf
theorem prT_ex2 (bits:Nat) (w:World) (hb:bits<18446744073709551616) (hfin:bits % 9223372036854775808<9218868437227405312):∃t,PrT bits t∧t.length≤101:=by
 obtain⟨e,w',t,_,h,h2,_⟩:=calls_ex (print_both bits w hb hfin);exact⟨t,h,h2⟩
open Classical in
noncomputable def printT (bits:Nat):List UInt8:=if h:∃t,PrT bits t then Classical.choose h else[]
theorem printT_is {bits:Nat} {t:List UInt8} (w:World) (h:PrT bits t):printT bits=t:=by
 unfold printT;rw[dif_pos ⟨t,h⟩];exact PrT.one w (Classical.choose_spec (⟨t,h⟩:∃t,PrT bits t)) h
theorem printT_len (w:World) (bits:Nat) (hb:bits<18446744073709551616) (hfin:bits % 9223372036854775808<9218868437227405312):(printT bits).length≤101:=by
 obtain⟨t,h,h2⟩:=prT_ex2 bits w hb hfin;rw[printT_is w h];exact h2
theorem print_T (bits:Nat) (w:World) (hb:bits<18446744073709551616) (hfin:bits % 9223372036854775808<9218868437227405312):
 Calls Tryz.prog 23 #[.int .u64 (bits:Int)] w fun e w'=>e=.returned (.tuple #[.string (ofL (printT bits)),.int .i64 0])∧Fr (fun _=>False) w w':=by
 refine(print_both bits w hb hfin).mono ?_;rintro e w' ⟨t,he,h,_,hF⟩;rw[printT_is w h];exact⟨he,hF⟩
theorem lt_of_row {w:World} {e size g n cap:Nat} {xs:List Value} (h:w.ownsRow 0 e size (.slice (some ⟨g,0,none⟩) n cap) n xs):g<w.heap.size:=by
 rcases h.2 with⟨h2,_⟩|⟨g',cap',cur,hv,h3,hg,h4⟩
 ·cases h2
 ·simp at hv
  obtain⟨rfl,rfl⟩:=hv;exact lt_of_block hg
abbrev KT:=List UInt8×List UInt8
noncomputable def leafT (x:Im):List UInt8:=
 if x.k=0 then[110,117,108,108]else if x.k=1 then[102,97,108,115,101]else if x.k=2 then[116,114,117,101]else if x.k=3 then printT x.b else quoteL x.s
noncomputable def partsW (sz:List Im→Nat) (wr:List Im→List UInt8) (indent:Int) (obj:Bool):Nat→List Im→List KT
 |0,_=>[]
 |c+1,l=>
  if obj=true then
   match l with
   |[]=>[]
   |k::r=>(k.s,headL indent k.s++wr r)::partsW sz wr indent obj c (r.drop (sz r))
  else([],wr l)::partsW sz wr indent obj c (l.drop (sz l))
def posGo (ks:List (List UInt8)) (key:List UInt8):Nat→Nat
 |0=>0
 |k+1=>if ltB key (ks[k]?.getD [])=true then posGo ks key k else k+1
theorem posGo_le (ks:List (List UInt8)) (key:List UInt8) (k:Nat):posGo ks key k≤k:=by
 induction k with
 |zero=>exact Nat.le_refl _
 |succ k ih=>simp only[posGo];split<;>omega
def stepP (so:Bool) (L:List KT) (p:KT):List KT:=
 L.take (if so=true then posGo (L.map (·.1)) p.1 L.length else L.length)++[p]++L.drop (if so=true then posGo (L.map (·.1)) p.1 L.length else L.length)
def ordL (so:Bool) (L:List KT):List KT:=L.foldl (stepP so) []
def joinGo (indent:Int) (inn:Nat):Bool→List (List UInt8)→List UInt8
 |_,[]=>[]
 |f,p::ps=>(if f=true then[]else[44])++lineL indent inn++p++joinGo indent inn false ps
def openB (obj:Bool):UInt8:=if obj=true then 123 else 91
def endB (obj:Bool):UInt8:=if obj=true then 125 else 93
def joinL (indent:Int) (inn:Nat) (obj:Bool) (ps:List (List UInt8)):List UInt8:=
 if ps.length=0 then[openB obj,endB obj]else openB obj::(joinGo indent (inn+1) true ps++lineL indent inn++[endB obj])
noncomputable def wrD (indent:Int) (so:Bool):Nat→List Im→List UInt8
 |_,[]=>[]
 |0,x::_=>leafT x
 |d+1,x::r=>if x.k<5 then leafT x else
   joinL indent (999-d) (decide (x.k=6)) ((ordL (so&&decide (x.k=6)) (partsW (sizeD d) (wrD indent so d) indent (decide (x.k=6)) x.n.toNat r)).map (·.2))
def wgt (l:List Im):Nat:=(l.map (fun x=>6*x.s.length+33000)).sum
theorem wgt_cons (x:Im) (l:List Im):wgt (x::l)=6*x.s.length+33000+wgt l:=by simp[wgt]
theorem wgt_append (a b:List Im):wgt (a++b)=wgt a+wgt b:=by simp[wgt]
theorem wgt_take_le (l:List Im) (n:Nat):wgt (l.take n)≤wgt l:=by
 have h:=wgt_append (l.take n) (l.drop n);rw[List.take_append_drop]at h;omega
theorem wgt_take_add (l:List Im) (a b:Nat):wgt (l.take (a+b))=wgt (l.take a)+wgt ((l.drop a).take b):=by
 rw[←wgt_append,List.take_add]
def tot (L:List KT):Nat:=(L.map (fun p=>p.2.length+16002)).sum
theorem tot_append (a b:List KT):tot (a++b)=tot a+tot b:=by simp[tot]
theorem tot_cons (p:KT) (b:List KT):tot (p::b)=p.2.length+16002+tot b:=by simp[tot]
theorem tot_step (so:Bool) (L:List KT) (p:KT):tot (stepP so L p)=tot L+(p.2.length+16002):=by
 unfold stepP;generalize (if so=true then posGo (L.map (·.1)) p.1 L.length else L.length)=k;have h:=tot_append (L.take k) (L.drop k);rw[List.take_append_drop]at h;rw[tot_append,tot_append,tot_cons];have:tot []=0:=rfl;omega
theorem tot_fold (so:Bool) (L M:List KT):tot (L.foldl (stepP so) M)=tot M+tot L:=by
 induction L generalizing M with
 |nil=>simp[tot]
 |cons p L ih=>rw[List.foldl_cons,ih,tot_step,tot_cons];omega
theorem line_len (indent:Int) (inn:Nat) (h1:indent≤16) (h2:inn≤1000):(lineL indent inn).length≤16001:=by
 unfold lineL;split
 ·simp
 ·rw[List.length_cons,List.length_replicate]
  have:indent.toNat*inn≤16*1000:=Nat.mul_le_mul (by omega) h2;omega
theorem joinGo_len (indent:Int) (inn:Nat) (f:Bool) (L:List KT) (h1:indent≤16) (h2:inn≤1000):(joinGo indent inn f (L.map (·.2))).length≤tot L:=by
 induction L generalizing f with
 |nil=>simp[joinGo]
 |cons p L ih=>
  have h:=ih false;have hl:=line_len indent inn h1 h2;rw[List.map_cons,tot_cons];simp only[joinGo,List.length_append];have hf:(if f=true then([]:List UInt8)else[44]).length≤1:=by split<;>simp
  omega
theorem joinL_len (indent:Int) (inn:Nat) (obj:Bool) (L:List KT) (h1:indent≤16) (h2:inn≤999):(joinL indent inn obj (L.map (·.2))).length≤tot L+16003:=by
 unfold joinL;split
 ·simp
 ·have ha:=joinGo_len indent (inn+1) true L h1 (by omega)
  have hl:=line_len indent inn h1 (by omega);simp only[List.length_cons,List.length_append,List.length_nil];omega
theorem headL_len (indent:Int) (s:List UInt8):(headL indent s).length≤6*s.length+4:=by
 have:=quote_len s;unfold headL quoteL;simp only[List.length_append,List.length_cons,List.length_nil];have:(if indent= -1 then([]:List UInt8)else[32]).length≤1:=by split<;>simp
 omega
def Bok (l:List Im):Prop:=∀x,x∈l→x.b<18446744073709551616
theorem Bok.drop {l:List Im} (h:Bok l) (n:Nat):Bok (l.drop n):=fun x hx=>h x (List.mem_of_mem_drop hx)
theorem partsW_len {sz:List Im→Nat} {wr:List Im→List UInt8} {indent:Int} (obj:Bool) (hw:∀l,Bok l→sz l≠0→(wr l).length+16500≤wgt (l.take (sz l))) (c:Nat) (l:List Im) (m:Nat) (hb:Bok l) (hm:partsG sz obj c l=some m):tot (partsW sz wr indent obj c l)≤wgt (l.take m):=by
 induction c generalizing l m with
 |zero=>simp[partsW,tot]
 |succ c ih=>
  cases obj with
  |true=>
   cases l with
   |nil=>simp[partsG]at hm
   |cons k r=>
    simp only[partsG,if_true]at hm;split at hm
    ·split at hm
     ·cases hm
     ·rename_i h0
      obtain⟨m',h1,rfl⟩:=Option.map_eq_some_iff.1 hm;have hbr:Bok r:=fun x hx=>hb x (List.mem_cons_of_mem _ hx)
      have h2:=ih _ _ (hbr.drop _) h1;have h3:=hw r hbr h0;have h4:=headL_len indent k.s;simp only[partsW,if_true];rw[tot_cons,show 1+sz r+m'=(sz r+m')+1 by omega,List.take_succ_cons,wgt_cons,wgt_take_add];simp only[List.length_append];omega
    ·cases hm
  |false=>
   simp only[partsG,Bool.false_eq_true,if_false]at hm;split at hm
   ·cases hm
   ·rename_i h0
    obtain⟨m',h1,rfl⟩:=Option.map_eq_some_iff.1 hm;have h2:=ih _ _ (hb.drop _) h1;have h3:=hw l hb h0;simp only[partsW,Bool.false_eq_true,if_false];rw[tot_cons,wgt_take_add]
    show(wr l).length+16002+_≤_
    omega
theorem goodI_num {x:Im} (h:goodI x=true) (hk:x.k=3):x.b % 9223372036854775808<9218868437227405312:=by
 unfold goodI at h;rw[if_neg (by omega),if_pos hk]at h;simp at h;omega
theorem leafT_len (w:World) (x:Im) (hg:goodI x=true) (hb:x.b<18446744073709551616):(leafT x).length≤6*x.s.length+101:=by
 unfold leafT;split
 ·simp
 split
 ·simp
 split
 ·simp
 split
 ·rename_i hk
  have:=printT_len w x.b hb (goodI_num hg hk);omega
 ·have:=quote_len x.s
  unfold quoteL;simp only[List.length_cons,List.length_append,List.length_nil];omega
theorem wrD_len (w:World) (indent:Int) (so:Bool) (h1:indent≤16) (d:Nat) (l:List Im) (hb:Bok l) (hs:sizeD d l≠0):(wrD indent so d l).length+16500≤wgt (l.take (sizeD d l)):=by
 induction d generalizing l with
 |zero=>
  cases l with
  |nil=>simp[sizeD]at hs
  |cons x r=>
   simp only[sizeD]at hs ⊢;split at hs
   ·rename_i hg
    rw[if_pos hg,List.take_succ_cons,wgt_cons];have:=leafT_len w x hg.1 (hb x (by simp));simp only[wrD];omega
   ·exact absurd rfl hs
 |succ d ih=>
  cases l with
  |nil=>simp[sizeD]at hs
  |cons x r=>
   simp only[sizeD]at hs ⊢;by_cases hg:goodI x=true
   ·rw[if_pos hg]at hs ⊢
    by_cases hk:x.k<5
    ·rw[if_pos hk,List.take_succ_cons,wgt_cons]
     have:=leafT_len w x hg (hb x (by simp));simp only[wrD];rw[if_pos hk];omega
    ·rw[if_neg hk]at hs ⊢
     simp only[wrD];rw[if_neg hk];generalize decide (x.k=6)=obj at*;cases hp:partsG (sizeD d) obj x.n.toNat r with
     |none=>rw[hp]at hs;exact absurd rfl hs
     |some m=>
      have h2:=partsW_len (wr:=wrD indent so d) (indent:=indent) obj (fun l hb h0=>ih l hb h0) x.n.toNat r m (fun y hy=>hb y (List.mem_cons_of_mem _ hy)) hp;have h3:=joinL_len indent (999-d) obj (ordL (so&&obj) (partsW (sizeD d) (wrD indent so d) indent obj x.n.toNat r)) h1 (by omega);unfold ordL at h3 ⊢;rw[tot_fold]at h3;simp only[outN];rw[List.take_succ_cons,wgt_cons];have:tot []=0:=rfl;omega
   ·rw[if_neg hg]at hs
    exact absurd rfl hs
end Go.Proofs.YtmkkibaacclhnaaGreatDoor
