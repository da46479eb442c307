/-
  A step of the walk, the part named NewC. No theorem of the row.
-/
import Derived.Test.YtmkkibaacclhnaaGreatDoorPkn
namespace Go.Proofs.YtmkkibaacclhnaaGreatDoor
open Go.RowKit
set_option maxRecDepth 100000
set_option maxHeartbeats 16000000
theorem dec52:decide (4503599627370496 % 2=0)=true:=by decide
theorem newSearch_c (n:Nat) (w:World) (hn:n<9218868437227405312) (hE:¬n/4503599627370496=0) (hz:n % 4503599627370496=0) (p:Int) (hp:p=(((nlen (manE n).1:Int)+((manE n).2-1074))*30103).tdiv 100000):
 Calls Tryz.prog 66 #[.int .u64 n] w fun e w'=>∃B br bl bh bu,e=.returned (.pointer (some ⟨B,0,none⟩))∧∃k:Nat,k≤2000∧setR p (upF (manE n).2*(4*(manE n).1))<setU p k (dnF (manE n).2*4)∧setU p k (dnF (manE n).2*4)<p2 5000*10∧
  St (fun i=>i=B) w w' B 0 (p+k) (setR p (upF (manE n).2*(4*(manE n).1))) (setR p (upF (manE n).2*lowQ n)) (setR p (upF (manE n).2*2)) (setU p k (dnF (manE n).2*4)) br bl bh bu (decide ((manE n).1 % 2=0)):=by
 have hnn:n/4503599627370496≤2046:=by omega
 have hsh:(0:Int)<(n:Int)/4503599627370496:=by omega
 have hme:manE n=(4503599627370496+n % 4503599627370496,n/4503599627370496-1):=if_neg hE
 have hbits:bits BinOp.or IntKind.u64 (bits BinOp.and IntKind.u64 (n:Int) 4503599627370495) 4503599627370496=((4503599627370496+n % 4503599627370496:Nat):Int):=by
  rw[show(4503599627370495:Int)=((4503599627370495:Nat):Int)from rfl,u64_and_nat n _ (by omega) (by omega),show(4503599627370496:Int)=((4503599627370496:Nat):Int)from rfl];have hmod:n&&&4503599627370495=n % 4503599627370496:=Nat.and_two_pow_sub_one_eq_mod n 52;rw[hmod,u64_or_nat _ _ (by omega) (by omega),Nat.or_comm,nat_join 52 _ _ (by decide) (by omega)]
 have HN:=hid hn;have HP:=hid hp;have HBits:=hid hbits;clear hbits;go_enter Tryz.func66,Tryz.ntmps66
 go_wp2_with fail
 obtain⟨m,hm⟩:∃m,m=4503599627370496+n % 4503599627370496:=⟨_,rfl⟩;obtain⟨E,hEE⟩:∃E:Nat,E=n/4503599627370496-1:=⟨_,rfl⟩;have HME:Hid (manE n=(m,E)):=by rw[Hid,hme,hm,hEE]
 have hm53:m<9007199254740992:=by omega
 have hE2046:E≤2045:=by omega
 rw[HBits.out,←hm,show((n:Int)/4503599627370496-1+ -1074)=(E:Int)-1074 from by omega,IntWalk.u64_in ((m:Int)*4) (by omega),show((m:Int)*4)=((4*m:Nat):Int)from by omega];have HMM:=hid hm;have HEE:=hid hEE;clear hm hEE hme;have HX0:=hid ((Sx.start (A:=fun _=>False) w (fun i h=>h.elim)).alloc (.cells #[.int .i64 ((E:Int)-1074)] 3));have HC0:=hid (heap_alloc_new w (.cells #[.int .i64 ((E:Int)-1074)] 3));have hs0:(w.alloc (.cells #[.int .i64 ((E:Int)-1074)] 3)).heap.size=w.heap.size+1:=World.size_alloc _ _;generalize w.alloc (.cells #[.int .i64 ((E:Int)-1074)] 3)=w1 at*;refine(newNatural_sa (4*m) (by omega) HX0.out).mono ?_;rintro e w2 ⟨br,rfl,hx2,hk2⟩;have HX2:=hid hx2;have HK2:=hid hk2;clear hx2 hk2
 go_wp2_with fail
 refine(newNatural_sa 2 (by omega) HX2.out).mono ?_;rintro e w3 ⟨bl,rfl,hx3,hk3⟩;have HX3:=hid hx3;have HK3:=hid (HK2.out.trans hk3);clear hx3 hk3 HX2 HK2
 go_wp2_with fail
 refine(newNatural_sa 2 (by omega) HX3.out).mono ?_;rintro e w4 ⟨bh,rfl,hx4,hk4⟩;have HX4:=hid hx4;have HK4:=hid (HK3.out.trans hk4);clear hx4 hk4 HX3 HK3
 go_wp2_with fail
 refine(newNatural_sa 4 (by omega) HX4.out).mono ?_;rintro e w5 ⟨bu,rfl,hx5,hk5⟩;have HX5:=hid hx5;have hk5':=HK4.out.trans hk5;have hcs:w5.heap[w.heap.size]? =some (.cells #[.int .i64 ((E:Int)-1074)] 3 (0,0)):=(hk5' _ (.inr rfl)).trans HC0.out;have hs5:w.heap.size<w5.heap.size:=lt_of_block hcs;have hrev:[(bu,4),(bh,2),(bl,2),(br,4*m)].Perm [(br,4*m),(bl,2),(bh,2),(bu,4)]:=List.reverse_perm [(br,4*m),(bl,2),(bh,2),(bu,4)]
 have hst6:St (fun i=>(False∨i=w.heap.size)∨i=w5.heap.size) w (w5.alloc (.cells #[.int .u64 0,.int .i64 0,.pointer (some ⟨br,0,none⟩),.pointer (some ⟨bl,0,none⟩),.pointer (some ⟨bh,0,none⟩),.pointer (some ⟨bu,0,none⟩),.bool (decide (m % 2=0))] 143)) w5.heap.size 0 0 (4*m) 2 2 4 br bl bh bu (decide (m % 2=0)):=
  ⟨heap_alloc_new w5 _,(hx5.perm hrev).alloc _,.inr rfl,by omega⟩
 have hcs6:(w5.alloc (.cells #[.int .u64 0,.int .i64 0,.pointer (some ⟨br,0,none⟩),.pointer (some ⟨bl,0,none⟩),.pointer (some ⟨bh,0,none⟩),.pointer (some ⟨bu,0,none⟩),.bool (decide (m % 2=0))] 143)).heap[w.heap.size]? =some (.cells #[.int .i64 ((E:Int)-1074)] 3 (0,0)):=(Below.heap_alloc w5 _ _ hs5).trans hcs;have hcc:=cell_of_one hcs
 have hev:((m:Int) % 2==0)=decide (m % 2=0):=by
  by_cases h:m % 2=0
  ·rw[decide_eq_true h];exact beq_iff_eq.2 (by omega)
  ·rw[decide_eq_false h];exact beq_eq_false_iff_ne.2 (by omega)
 have HST6:=hid hst6;have HCS6:=hid hcs6;clear hx5 hk5 hk5' hcs hrev hst6 hcs6 HX4 HK4 HX0 HC0 HX5;by_cases hlow:m=4503599627370496∧0<E
 ·have hLQ:Hid (lowQ n=1):=by rw[Hid,lowQ,HME.out];exact if_pos hlow
  have hE0:0<E:=hlow.2;have hsq:decide ((-1074:Int)<(E:Int)-1074)=true:=decide_eq_true (by omega);have hm4:m=4503599627370496:=hlow.1;clear hlow hev;subst hm4;have hdt:decide (4503599627370496 % 2=0)=true:=by decide
  rw[hdt]at HST6 HCS6;clear hdt
  go_wp2_with fail
  generalize hBw:w5.alloc (.cells #[.int .u64 0,.int .i64 0,.pointer (some ⟨br,0,none⟩),.pointer (some ⟨bl,0,none⟩),.pointer (some ⟨bh,0,none⟩),.pointer (some ⟨bu,0,none⟩),.bool true] 143)=w6 at*;clear hBw hcc;refine(newNatural_sa 1 (by omega) HST6.out.sx).mono ?_;rintro e w7 ⟨bl2,rfl,hx7,hk7⟩;have hsv7:=Seven.keep HST6.out.sv hk7 (.inr rfl);have hcs7:=(hk7 w.heap.size (.inl (.inr rfl))).trans HCS6.out;have hc3:=hsv7.cells.2.2.2.1;have hf3:=hsv7.cells.2.2.2.2.2.2.2 3
  have hx8:Sx (fun _=>False) (fun i=>(False∨i=w.heap.size)∨i=w5.heap.size) w w7 [(br,4*4503599627370496),(bl2,1),(bh,2),(bu,4)]:=by
   have q1:[(bl2,1),(br,4*4503599627370496),(bl,2),(bh,2),(bu,4)].Perm [(bl,2),(br,4*4503599627370496),(bl2,1),(bh,2),(bu,4)]:=by
    have a1:[(bl2,1),(br,4*4503599627370496),(bl,2),(bh,2),(bu,4)].Perm [(br,4*4503599627370496),(bl2,1),(bl,2),(bh,2),(bu,4)]:=List.Perm.swap _ _ _;have a2:[(br,4*4503599627370496),(bl2,1),(bl,2),(bh,2),(bu,4)].Perm [(br,4*4503599627370496),(bl,2),(bl2,1),(bh,2),(bu,4)]:=(List.Perm.swap _ _ _).cons _;exact a1.trans (a2.trans (List.Perm.swap _ _ _))
   exact(hx7.perm q1).tail
  have hst8:St (fun i=>(False∨i=w.heap.size)∨i=w5.heap.size) w (w7.setCell ⟨w5.heap.size,3,none⟩ (.pointer (some ⟨bl2,0,none⟩))) w5.heap.size 0 0 (4*4503599627370496) 1 2 4 br bl2 bh bu true:=
   ⟨hsv7.set3 bl2,hx8.other (T:=fun i=>i=w5.heap.size) ((Fr.refl (fun i=>i=w5.heap.size) w7).setCell (p:=⟨w5.heap.size,3,none⟩) (.inl rfl) _) (fun i hi=>.inr (by omega)) (fun i hi=>.inr hi),.inr rfl,by omega⟩
  have hcs8:=(Below.heap_setCell w7 ⟨w5.heap.size,3,none⟩ (.pointer (some ⟨bl2,0,none⟩)) w.heap.size (by simp;omega)).trans hcs7;have hlt7:=lt_of_block hsv7;have hcc7:=cell_of_one hcs7;have HST8:=hid hst8;have HCS8:=hid hcs8;have HLQ2:Hid (lowQ n=1):=hLQ.out;generalize 1=lq at HST8 HLQ2;clear hx7 hk7 hsv7 hcs7 hx8 hst8 hcs8 HST6 HCS6 hLQ;generalize hwn:w7.setCell ⟨w5.heap.size,3,none⟩ (.pointer (some ⟨bl2,0,none⟩))=w8 at*;have hmq:4503599627370496<9007199254740992:=by omega
  have hnl:nlen 4503599627370496≤53:=nlen_le 4503599627370496 53 hmq
  have hnl64:Hid (∀wx,Calls Tryz.prog 116 #[.int .u64 (4503599627370496)] wx fun e w'=>e=.returned (.int .i64 (nlen 4503599627370496:Nat))∧w'=wx):=by
   intro wx;have:=len64_any (4503599627370496) wx (by omega) (by omega);rw[show(4503599627370496:Int).toNat=4503599627370496 from by omega,bitLen_nlen _ (by omega)]at this;exact this
  have hlq2:lq≤2:=by have:=HLQ2.out;unfold lowQ at this;split at this<;>omega
  have hbxB:w.heap.size≠w5.heap.size:=by omega
  by_cases hsc:1074≤E
  ·obtain⟨k,rfl⟩:∃k,E=k+1074:=⟨E-1074,by omega⟩
   have hkk:((k+1074:Nat):Int)-1074=(k:Int):=by omega
   rw[hkk]at HCS8;have hcc8:=cell_of_one HCS8.out;have q1:p2 k*(4*4503599627370496)<p2 1400:=Nat.lt_of_lt_of_le (mul_p2_lt (k:=55) (by show _<2^55;omega)) (p2_le (by omega));have q2:p2 k*lq<p2 1400:=Nat.lt_of_lt_of_le (mul_p2_lt (k:=2) (by show _<2^2;omega)) (p2_le (by omega));have q3:p2 k*2<p2 1400:=Nat.lt_of_lt_of_le (mul_p2_lt (k:=2) (by show _<2^2;omega)) (p2_le (by omega))
   go_wp2_with fail
   refine(timesAll_shift k w.heap.size (by omega) (Sm_p2 q1 (by omega)) (Sm_p2 q2 (by omega)) (Sm_p2 q3 (by omega)) HCS8.out (.inl (.inr rfl)) HST8.out).mono ?_;rintro e w9 ⟨rfl,hst9,hk9⟩;have hcs9:=(hk9 w.heap.size (.inl (.inr rfl))).trans HCS8.out;have hcc9:=cell_of_one hcs9;have HST9:=hid hst9;have Q1:=hid q1;have Q2:=hid q2;have Q3:=hid q3;have hup:Hid (upF (k+1074)=p2 k):=by rw[Hid,upF,Nat.add_sub_cancel]
   have hdn:Hid (dnF (k+1074)*4=4):=by rw[Hid,dnF,show 1074-(k+1074)=0 from by omega];rfl
   have hlen:Hid ((nlen 4503599627370496:Int)+((((k+1074:Nat):Int))-1074)=(nlen 4503599627370496:Int)+k):=by show _=_;omega
   clear hst9 hk9 hcs9 q1 q2 q3 HST8 HCS8 hcc8 hkk
   go_wp2_with fail
   go_region_with (first|(go_at_call 116;refine(hnl64.out _).mono ?_;rintro e w10 ⟨rfl,rfl⟩)|(go_at_call 115;rw[IntWalk.i64_in ((nlen 4503599627370496:Int)+k) (by omega)];refine(setPower_any ((nlen 4503599627370496:Int)+k) (by omega) (by omega) (by omega) Q1.out Q2.out Q3.out (Nat.lt_of_lt_of_le (by show 4<2^3;omega) (p2_le (show 3≤1400 by omega))) ((HST9.out.drewN 1).weaken (fun i hi=>.inr hi) rfl) p (by rw[HP.out,HME.out,hlen.out])).mono ?_;rintro e w10 ⟨rfl,kk,t1,t2,t3,t4⟩))
   all_goals
    go_wp2;go_ret;refine⟨w5.heap.size,br,bl2,bh,bu,rfl,kk,t1,?_,?_,?_⟩
    ·rw[HME.out,hup.out,hdn.out];exact t2
    ·rw[HME.out,hdn.out];exact t3
    ·rw[HME.out,hup.out,hdn.out,HLQ2.out,show decide ((4503599627370496,k+1074).1 % 2=0)=true from dec52];exact t4
  ·have hEl:E<1074:=by omega
   have hcc8:=cell_of_one HCS8.out;have hneg:decide ((0:Int)≤(E:Int)-1074)=false:=decide_eq_false (by omega);have q0:p2 (1074-E)*4<p2 1400:=Nat.lt_of_lt_of_le (mul_p2_lt (k:=3) (by show _<2^3;omega)) (p2_le (by omega));have q1:4*4503599627370496<p2 1400:=Nat.lt_of_lt_of_le (by show 4*4503599627370496<2^55;omega) (p2_le (show 55≤1400 by omega));have q2:lq<p2 1400:=Nat.lt_of_lt_of_le (by show lq<2^2;omega) (p2_le (show 2≤1400 by omega));have q3:2<p2 1400:=Nat.lt_of_lt_of_le (by show 2<2^2;omega) (p2_le (show 2≤1400 by omega));have hc5:=HST8.out.sv.cells.2.2.2.2.2.1;have hng:Hid (-((E:Int)-1074)=((1074-E:Nat):Int)):=by show _=_;omega
   have Q0:=hid q0;have Q1:=hid q1;have Q2:=hid q2;have Q3:=hid q3;have hup:Hid (upF E=1):=by rw[Hid,upF,show E-1074=0 from by omega];rfl
   have hdn:Hid (p2 (1074-E)*4=dnF E*4):=rfl;have hlen:Hid ((nlen 4503599627370496:Int)+((E:Int)-1074)=(nlen 4503599627370496:Int)+((E:Int)-1074)):=rfl;have hU0:Hid (0<p2 (1074-E)*4):=Nat.mul_pos (p2_pos _) (by omega);clear q0 q1 q2 q3
   go_wp2_with fail
   go_region_with (go_at_call 114;rw[IntWalk.i64_in (-((E:Int)-1074)) (by omega),hng.out];refine(shl_sa bu 4 (1074-E) (by omega) (Sm_p2 Q0.out (by omega)) (Sx.drewN (sx_u HST8.out.sx) 1)).mono ?_;rintro e w9 ⟨rfl,hx9,hk9⟩)
   all_goals
    have hsv9:=Seven.keep (w:=w8.drewN 1) HST8.out.sv hk9 (.inr rfl);have hcs9:=(hk9 w.heap.size (.inl (.inr rfl))).trans HCS8.out;have hcc9:=cell_of_one hcs9;have HST9:=hid (show St (fun i=>(False∨i=w.heap.size)∨i=w5.heap.size) w w9 w5.heap.size 0 0 (4*4503599627370496) lq 2 (p2 (1074-E)*4) br bl2 bh bu true from⟨hsv9,sx_u' hx9,.inr rfl,HST8.out.new⟩);clear hx9 hk9 hsv9 hcs9 HST8 HCS8 hcc8 hc5
    go_wp2_with fail
    go_region_with (first|(go_at_call 116;refine(hnl64.out _).mono ?_;rintro e w10 ⟨rfl,rfl⟩)|(go_at_call 115;rw[IntWalk.i64_in ((nlen 4503599627370496:Int)+((E:Int)-1074)) (by omega)];refine(setPower_any ((nlen 4503599627370496:Int)+((E:Int)-1074)) (by omega) (by omega) hU0.out Q1.out Q2.out Q3.out Q0.out ((HST9.out.drewN 1).weaken (fun i hi=>.inr hi) rfl) p (by rw[HP.out,HME.out])).mono ?_;rintro e w10 ⟨rfl,kk,t1,t2,t3,t4⟩))
    all_goals
     go_wp2;go_ret;refine⟨w5.heap.size,br,bl2,bh,bu,rfl,kk,t1,?_,?_,?_⟩
     ·rw[HME.out,hup.out,Nat.one_mul];exact t2
     ·rw[HME.out];exact t3
     ·rw[HME.out,hup.out,Nat.one_mul,Nat.one_mul,Nat.one_mul,HLQ2.out,show decide ((4503599627370496,E).1 % 2=0)=true from dec52];exact t4
 ·have hm4:m=4503599627370496:=by have:=HMM.out;omega
  have hE0:E≤0:=by omega
  have hsq:decide ((-1074:Int)<(E:Int)-1074)=false:=decide_eq_false (by omega);have hLQ:Hid (lowQ n=2):=by rw[Hid,lowQ,HME.out];exact if_neg (by rintro⟨h1,h2⟩;simp only at h2;omega)
  clear hlow hev;subst hm4;have hdt:decide (4503599627370496 % 2=0)=true:=by decide
  rw[hdt]at HST6 HCS6;clear hdt;have HLQ2:Hid (lowQ n=2):=hLQ.out;have HST8:=hid HST6.out;have HCS8:=hid HCS6.out;have hlt7:w5.heap.size<(w5.alloc (.cells #[.int .u64 0,.int .i64 0,.pointer (some ⟨br,0,none⟩),.pointer (some ⟨bl,0,none⟩),.pointer (some ⟨bh,0,none⟩),.pointer (some ⟨bu,0,none⟩),.bool true] 143)).heap.size:=by rw[World.size_alloc];omega
  clear HST6 HCS6 hLQ;obtain⟨lq,hlqe⟩:∃lq,lq=2:=⟨2,rfl⟩;replace HST8:=hid (show St (fun i=>(False∨i=w.heap.size)∨i=w5.heap.size) w (w5.alloc (.cells #[.int .u64 0,.int .i64 0,.pointer (some ⟨br,0,none⟩),.pointer (some ⟨bl,0,none⟩),.pointer (some ⟨bh,0,none⟩),.pointer (some ⟨bu,0,none⟩),.bool true] 143)) w5.heap.size 0 0 (4*4503599627370496) lq 2 4 br bl bh bu true from by rw[hlqe];exact HST8.out);replace HLQ2:Hid (lowQ n=lq):=by rw[hlqe];exact HLQ2.out
  clear hlqe;generalize hwn:w5.alloc (.cells #[.int .u64 0,.int .i64 0,.pointer (some ⟨br,0,none⟩),.pointer (some ⟨bl,0,none⟩),.pointer (some ⟨bh,0,none⟩),.pointer (some ⟨bu,0,none⟩),.bool true] 143)=w8 at*;clear hcc;have hmq:4503599627370496<9007199254740992:=by omega
  have hnl:nlen 4503599627370496≤53:=nlen_le 4503599627370496 53 hmq
  have hnl64:Hid (∀wx,Calls Tryz.prog 116 #[.int .u64 (4503599627370496)] wx fun e w'=>e=.returned (.int .i64 (nlen 4503599627370496:Nat))∧w'=wx):=by
   intro wx;have:=len64_any (4503599627370496) wx (by omega) (by omega);rw[show(4503599627370496:Int).toNat=4503599627370496 from by omega,bitLen_nlen _ (by omega)]at this;exact this
  have hlq2:lq≤2:=by have:=HLQ2.out;unfold lowQ at this;split at this<;>omega
  have hbxB:w.heap.size≠w5.heap.size:=by omega
  by_cases hsc:1074≤E
  ·exfalso;omega
  ·have hEl:E<1074:=by omega
   have hcc8:=cell_of_one HCS8.out;have hneg:decide ((0:Int)≤(E:Int)-1074)=false:=decide_eq_false (by omega);have q0:p2 (1074-E)*4<p2 1400:=Nat.lt_of_lt_of_le (mul_p2_lt (k:=3) (by show _<2^3;omega)) (p2_le (by omega));have q1:4*4503599627370496<p2 1400:=Nat.lt_of_lt_of_le (by show 4*4503599627370496<2^55;omega) (p2_le (show 55≤1400 by omega));have q2:lq<p2 1400:=Nat.lt_of_lt_of_le (by show lq<2^2;omega) (p2_le (show 2≤1400 by omega));have q3:2<p2 1400:=Nat.lt_of_lt_of_le (by show 2<2^2;omega) (p2_le (show 2≤1400 by omega));have hc5:=HST8.out.sv.cells.2.2.2.2.2.1;have hng:Hid (-((E:Int)-1074)=((1074-E:Nat):Int)):=by show _=_;omega
   have Q0:=hid q0;have Q1:=hid q1;have Q2:=hid q2;have Q3:=hid q3;have hup:Hid (upF E=1):=by rw[Hid,upF,show E-1074=0 from by omega];rfl
   have hdn:Hid (p2 (1074-E)*4=dnF E*4):=rfl;have hlen:Hid ((nlen 4503599627370496:Int)+((E:Int)-1074)=(nlen 4503599627370496:Int)+((E:Int)-1074)):=rfl;have hU0:Hid (0<p2 (1074-E)*4):=Nat.mul_pos (p2_pos _) (by omega);clear q0 q1 q2 q3
   go_wp2_with fail
   go_region_with (go_at_call 114;rw[IntWalk.i64_in (-((E:Int)-1074)) (by omega),hng.out];refine(shl_sa bu 4 (1074-E) (by omega) (Sm_p2 Q0.out (by omega)) (Sx.drewN (sx_u HST8.out.sx) 1)).mono ?_;rintro e w9 ⟨rfl,hx9,hk9⟩)
   all_goals
    have hsv9:=Seven.keep (w:=w8.drewN 1) HST8.out.sv hk9 (.inr rfl);have hcs9:=(hk9 w.heap.size (.inl (.inr rfl))).trans HCS8.out;have hcc9:=cell_of_one hcs9;have HST9:=hid (show St (fun i=>(False∨i=w.heap.size)∨i=w5.heap.size) w w9 w5.heap.size 0 0 (4*4503599627370496) lq 2 (p2 (1074-E)*4) br bl bh bu true from⟨hsv9,sx_u' hx9,.inr rfl,HST8.out.new⟩);clear hx9 hk9 hsv9 hcs9 HST8 HCS8 hcc8 hc5
    go_wp2_with fail
    go_region_with (first|(go_at_call 116;refine(hnl64.out _).mono ?_;rintro e w10 ⟨rfl,rfl⟩)|(go_at_call 115;rw[IntWalk.i64_in ((nlen 4503599627370496:Int)+((E:Int)-1074)) (by omega)];refine(setPower_any ((nlen 4503599627370496:Int)+((E:Int)-1074)) (by omega) (by omega) hU0.out Q1.out Q2.out Q3.out Q0.out ((HST9.out.drewN 1).weaken (fun i hi=>.inr hi) rfl) p (by rw[HP.out,HME.out])).mono ?_;rintro e w10 ⟨rfl,kk,t1,t2,t3,t4⟩))
    all_goals
     go_wp2;go_ret;refine⟨w5.heap.size,br,bl,bh,bu,rfl,kk,t1,?_,?_,?_⟩
     ·rw[HME.out,hup.out,Nat.one_mul];exact t2
     ·rw[HME.out];exact t3
     ·rw[HME.out,hup.out,Nat.one_mul,Nat.one_mul,Nat.one_mul,HLQ2.out,show decide ((4503599627370496,E).1 % 2=0)=true from dec52];exact t4
end Go.Proofs.YtmkkibaacclhnaaGreatDoor
