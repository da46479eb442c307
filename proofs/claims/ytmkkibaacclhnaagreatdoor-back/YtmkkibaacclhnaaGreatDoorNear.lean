/-
  A step of the walk, the part named Near. No theorem of the row.
-/
import Derived.Test.YtmkkibaacclhnaaGreatDoorNds
namespace Go.Proofs.YtmkkibaacclhnaaGreatDoor
open Go.RowKit
set_option maxRecDepth 100000
set_option maxHeartbeats 16000000
theorem ret_int {k:IntKind} {a b:Int} (h:a=b):Ending.returned (.int k a)=.returned (.int k b):=by rw[h]
theorem shl_p2 {S A:Nat→Prop} {w0 w:World} {l:List (Nat×Nat)} (b N k:Nat) (hk:k≤30000) (hS:Sm (p2 k*N)) (h:Sx S A w0 w ((b,N)::l)):
 Calls Tryz.prog 114 #[.pointer (some ⟨b,0,none⟩),.int .i64 k] w fun e w'=>e=.returned (.tuple #[])∧Sx S A w0 w' ((b,p2 k*N)::l):=shiftLeft_sx b N k hk hS h
theorem shl_one {S A:Nat→Prop} {w0 w:World} {l:List (Nat×Nat)} (b N:Nat) (hS:Sm (2*N)) (h:Sx S A w0 w ((b,N)::l)):
 Calls Tryz.prog 114 #[.pointer (some ⟨b,0,none⟩),.int .i64 1] w fun e w'=>e=.returned (.tuple #[])∧Sx S A w0 w' ((b,2*N)::l):=shiftLeft_sx b N 1 (by omega) hS h
theorem Sm_p2 {n k:Nat} (h:n<p2 k) (hk:k≤32000):Sm n:=Sm_two n k hk h
theorem nlen_p2 {n k:Nat} (h:n<p2 k):nlen n≤k:=nlen_le n k h
theorem mul_p2_lt {n j k:Nat} (h:n<p2 k):p2 j*n<p2 (j+k):=by rw[p2_add];exact Nat.mul_lt_mul_of_pos_left h (p2_pos j)
theorem scale_cases (N M:Nat) (hN:0<N) (hM:0<M) (hq:N<M*p2 1030) (sc:Int) (hsc:sc=max ((nlen N:Int)-(nlen M:Int)-52-1) (-1074)):
 (∃sh E:Nat,sc+52+1=sh∧sc+1074=E∧E≤2100∧sh≤1031∧Pre N M N (p2 sh*M) E∧N<2*(p2 sh*M)∧p2 sh*M<2*N)∨
 (∃k E:Nat,sc+52+1= -(k:Int)∧0<k∧k≤1021∧sc+1074=E∧E≤2100∧Pre N M (p2 k*N) M E∧p2 k*N<2*M∧((E=0∧p2 k*N<M)∨M<2*(p2 k*N))):=by
 have a1:N<p2 (nlen N):=nlen_lt N;have a2:p2 (nlen N)≤2*N:=nlen_ge N (by omega);have b1:M<p2 (nlen M):=nlen_lt M;have b2:p2 (nlen M)≤2*M:=nlen_ge M (by omega)
 have hup:nlen N≤nlen M+1030:=by
  refine nlen_le N _ ?_;have:M*p2 1030<p2 (nlen M)*p2 1030:=Nat.mul_lt_mul_of_pos_right b1 (p2_pos _);rw[←p2_add]at this;exact Nat.lt_trans hq this
 generalize nlen N=d at*;generalize nlen M=e at*;by_cases hl:(d:Int)-e< -1021
 ·right
  have h:=scale_low N M d e a1 b2 (by omega);exact⟨1021,0,by omega,by omega,by omega,by omega,by omega,h.1,by omega,.inl ⟨rfl,h.2⟩⟩
 ·rcases Nat.lt_or_ge d e with h1|h1
  ·right
   have h:=scale_down N M d e (e-d) a1 a2 b1 b2 (by omega) (by omega);exact⟨e-d,1021-(e-d),by omega,by omega,by omega,by omega,by omega,h.1,h.2.1,.inr h.2.2⟩
  ·left
   have h:=scale_up N M d e (d-e) a1 a2 b1 b2 (by omega);exact⟨d-e,d-e+1021,by omega,by omega,by omega,by omega,h.1,h.2.1,h.2.2⟩
theorem nearestBits_sx {S A:Nat→Prop} {w0:World} {l:List (Nat×Nat)} (b N c M:Nat) (w:World) (hN:0<N) (hM:0<M) (hNs:N<p2 8000) (hMs:M<p2 8000) (hq:N<M*p2 1030) (h:Sx S A w0 w ((b,N)::(c,M)::l)):
 Calls Tryz.prog 109 #[.pointer (some ⟨b,0,none⟩),.pointer (some ⟨c,0,none⟩)] w fun e w'=>∃r:Nat,e=.returned (.int .u64 r)∧Rnd (N*p2 1074) M r∧∃N' M',Sx S A w0 w' ((b,N')::(c,M')::l):=by
 have hsc:=scale_cases N M hN hM hq _ rfl;have HC:Hid _:=hsc;have HX:Hid _:=h;have hn1:nlen N≤8000:=nlen_p2 hNs;have hn2:nlen M≤8000:=nlen_p2 hMs;have HN:Hid (N<p2 8000):=hNs;have HM:Hid (M<p2 8000):=hMs;clear hsc h hNs hMs hq;go_enter Tryz.func109,Tryz.ntmps109
 go_wp2_with fail
 refine(length_sx b N (Sm_p2 HN.out (by omega)) HX.out).mono ?_;rintro e w' ⟨rfl,rfl⟩
 go_wp2_with fail
 refine(length_sx c M (Sm_p2 HM.out (by omega)) (Sx.swap HX.out)).mono ?_;rintro e w' ⟨rfl,rfl⟩
 go_wp2_with fail
 ·obtain⟨sh,E,e1,e2,hE,hsh,hp,hlt,hbig⟩:∃sh E:Nat,max ((nlen N:Int)-(nlen M:Int)-52-1) (-1074)+52+1=sh∧max ((nlen N:Int)-(nlen M:Int)-52-1) (-1074)+1074=E∧E≤2100∧sh≤1031∧Pre N M N (p2 sh*M) E∧N<2*(p2 sh*M)∧p2 sh*M<2*N:=by
   rcases HC.out with h|⟨k,E,e1,e2,e3,e4,e5,e6,e7,e8⟩
   ·exact h
   ·exfalso;omega
  have hS:Sm (p2 sh*M):=Sm_p2 (mul_p2_lt HM.out) (by omega);generalize max ((nlen N:Int)-(nlen M:Int)-52-1) (-1074)=sc at*;obtain rfl:sc=(E:Int)-1074:=by omega
  rw[e1];refine(shl_p2 c M sh (by omega) hS (Sx.swap HX.out)).mono ?_;rintro e w1 ⟨rfl,hx1⟩;have HX1:Hid (Sx S A w0 w1 ((b,N)::(c,p2 sh*M)::l)):=hx1.swap;have HP:Hid (Pre N M N (p2 sh*M) E):=hp;have Hlt:Hid (N<2*(p2 sh*M)):=hlt;have Hbig:Hid ((E=0∧N<p2 sh*M)∨p2 sh*M<2*N):=.inr hbig;have HM1:Hid (p2 sh*M<p2 9500):=Nat.lt_of_lt_of_le (mul_p2_lt HM.out) (p2_le (by omega));have HN1:Hid (N<p2 9500):=Nat.lt_of_lt_of_le HN.out (p2_le (by omega));clear hx1 hp hlt hbig e1 e2 hS HC HX HN HM;generalize hMM:p2 sh*M=M1 at*;clear hMM
  go_wp2_with fail
  refine(compare_sx b N c M1 (Sm_p2 HN1.out (by omega)) (Sm_p2 HM1.out (by omega)) HX1.out (Sx.swap HX1.out)).mono ?_;rintro e w2 ⟨r,rfl,hr1,hr2,hr3,hr4,mm,rfl⟩;have HX2:Hid (Sx S A w0 (w1.drewN mm) ((b,N)::(c,M1)::l)):=Sx.drewN HX1.out mm;by_cases hcmp:M1≤N
  ·have hr:0≤r:=by omega
   clear hr1 hr2 HX1
   go_wp2_with fail
   refine(shl_one c M1 (Sm_p2 (mul_p2_lt (j:=1) HM1.out) (by omega)) (Sx.swap HX2.out)).mono ?_;rintro e w3 ⟨rfl,hx3⟩;have HX3:Hid (Sx S A w0 w3 ((b,N)::(c,2*M1)::l)):=hx3.swap;have HP2:Hid (Pre N M N (2*M1) (E+1)):=pre_double HP.out;have Hlt2:Hid (N<2*M1):=Hlt.out;have Hbig2:Hid (E+1=0∨2*M1≤2*N):=.inr (by omega);have HM2:Hid (2*M1<p2 9600):=Nat.lt_of_lt_of_le (mul_p2_lt (j:=1) HM1.out) (p2_le (by omega));clear hx3 HP Hlt Hbig HX2 hcmp HM1;go_wp2;rw[show(E:Int)-1074+1=((E+1:Nat):Int)-1074 from by omega];have hE2:E+1≤2101:=by omega
   generalize E+1=E2 at*;generalize 2*M1=M2 at*
   go_loopw [7,37] (fun mv i wr=>∃(k m R:Nat),k≤53∧i=.int .i64 k∧mv=.int .u64 m∧Hid (m<p2 k)∧Hid (R<M2)∧Hid (N*p2 k=m*M2+R)∧Sx S A w0 wr ((b,R)::(c,M2)::l)) (fun _ i _=>53-(intOf i).toNat)
   case atStart=>exact⟨0,0,N,by omega,rfl,rfl,(by show _<_;exact p2_pos 0),Hlt2.out,(by show _=_;simp[p2]),HX3.out⟩
   case round=>
    obtain⟨k,m,R,hk,rfl,rfl,hm,hR,hD,hx⟩:=hrel;have HXr:Hid _:=hx;clear hx;have hR2:R<p2 9600:=Nat.lt_trans hR.out HM2.out;have HS2:Hid (Sm (2*R)):=Sm_p2 (mul_p2_lt (j:=1) hR2) (by omega);have HS1:Hid (Sm M2):=Sm_p2 HM2.out (by omega);clear hR2;by_cases hlt:k<53
    ·have hm52:m<4503599627370496:=Nat.lt_of_lt_of_le hm.out (p2_le (b:=52) (by omega))
     have hD2:Hid (N*p2 (k+1)=(2*m)*M2+2*R):=step_div hD.out;have hms:Hid (2*m+1<p2 (k+1)):=by show _<_;rw[p2_succ];have:=hm.out;omega
     go_wp2_with fail
     refine(shl_one b R HS2.out HXr.out).mono ?_;rintro e w4 ⟨rfl,hx4⟩;have HX4:Hid _:=hx4;clear hx4 HXr
     go_wp2_with fail
     refine(compare_sx b (2*R) c M2 HS2.out HS1.out HX4.out (Sx.swap HX4.out)).mono ?_;rintro e w5 ⟨r2,rfl,hr21,hr22,hr23,hr24,mm2,rfl⟩;by_cases hge:M2≤2*R
     ·have hrr:0≤r2:=by omega
      clear hr21 hr22;have hR3:Hid (2*R-M2<M2):=by show _<_;have:=hR.out;omega
      have hD3:Hid (N*p2 (k+1)=(2*m+1)*M2+(2*R-M2)):=by show _=_;rw[hD2.out,Nat.add_mul];omega
      go_wp2_with fail
      refine(subtract_sx b (2*R) c M2 HS2.out HS1.out hge (Sx.drewN HX4.out mm2)).mono ?_;rintro e w6 ⟨rfl,hx6⟩;have HX6:Hid _:=hx6;clear hx6 HX4 hge;go_wp2;go_roundw
      case rel=>exact⟨k+1,2*m+1,2*R-M2,by omega,by go_num,by go_num,hms.out,hR3.out,hD3.out,HX6.out⟩
      case measure=>simp[intOf];omega
     ·have hrr:r2<0:=by omega
      clear hr21 hr22;have hR3:Hid (2*R<M2):=by show _<_;omega
      have hms2:Hid (2*m<p2 (k+1)):=by show _<_;have:=hms.out;omega
      have HX6:Hid _:=Sx.drewN HX4.out mm2;clear HX4 hge;go_wp2;go_roundw
      case rel=>exact⟨k+1,2*m,2*R,by omega,by go_num,by go_num,hms2.out,hR3.out,hD2.out,HX6.out⟩
      case measure=>simp[intOf];omega
    ·obtain rfl:k=53:=by omega
     have hend:=rnd_end hM (by have:=hR.out;omega) HP2.out hD.out hR.out Hlt2.out Hbig2.out;have hm53:=hend.1;have HEnd:Hid _:=hend.2;clear hend
     go_wp2_with fail
     refine(shl_one b R HS2.out HXr.out).mono ?_;rintro e w4 ⟨rfl,hx4⟩;have HX4:Hid _:=hx4;clear hx4 HXr
     go_wp2_with fail
     refine(compare_sx b (2*R) c M2 HS2.out HS1.out HX4.out (Sx.swap HX4.out)).mono ?_;rintro e w5 ⟨r2,rfl,hr21,hr22,hr23,hr24,mm2,rfl⟩;have HX6:Hid _:=Sx.drewN HX4.out mm2;clear HX4;rcases Nat.lt_trichotomy M2 (2*R)with hc|hc|hc
     ·have hrr:0<r2:=by omega
      have HF:Hid _:=HEnd.out (E2*4503599627370496+m+1) (by rw[if_pos (.inl hc)]);clear hr21 hr22 HEnd hc;go_wp2;go_ret;exact⟨E2*4503599627370496+m+1,ret_int (by omega),HF.out,_,_,HX6.out⟩
     ·have hrr:r2=0:=by omega
      subst hrr;by_cases hodd:m % 2=1
      ·have hbit:(bits BinOp.and IntKind.u64 (m:Int) 1==1)=true:=by rw[show(1:Int)=((1:Nat):Int)from rfl,u64_and_nat m 1 (by omega) (by omega),nat_mask1,hodd];rfl
       have HF:Hid _:=HEnd.out (E2*4503599627370496+m+1) (by rw[if_pos (.inr ⟨hc.symm,hodd⟩)]);clear hr21 hr22 HEnd hc hodd;go_wp2;go_ret;exact⟨E2*4503599627370496+m+1,ret_int (by omega),HF.out,_,_,HX6.out⟩
      ·have hbit:(bits BinOp.and IntKind.u64 (m:Int) 1==1)=false:=by rw[show(1:Int)=((1:Nat):Int)from rfl,u64_and_nat m 1 (by omega) (by omega),nat_mask1,show m % 2=0 from by omega];rfl
       have HF:Hid _:=HEnd.out (E2*4503599627370496+m) (by rw[if_neg (by omega),Nat.add_zero]);clear hr21 hr22 HEnd hc hodd;go_wp2;go_ret;exact⟨E2*4503599627370496+m,ret_int (by omega),HF.out,_,_,HX6.out⟩
     ·have hrr:r2<0:=by omega
      have HF:Hid _:=HEnd.out (E2*4503599627370496+m) (by rw[if_neg (by omega),Nat.add_zero]);clear hr21 hr22 HEnd hc;go_wp2;go_ret;exact⟨E2*4503599627370496+m,ret_int (by omega),HF.out,_,_,HX6.out⟩
  ·have hr:r<0:=by omega
   clear hr1 hr2 HX1;have HX3:Hid (Sx S A w0 (w1.drewN mm) ((b,N)::(c,M1)::l)):=HX2.out;have HP2:Hid (Pre N M N M1 E):=HP.out;have Hlt2:Hid (N<M1):=by show _<_;omega
   have Hbig2:Hid (E=0∨M1≤2*N):=by rcases Hbig.out with h|h;exact .inl h.1;exact .inr (Nat.le_of_lt h)
   have HM2:Hid (M1<p2 9600):=Nat.lt_of_lt_of_le HM1.out (p2_le (by omega));clear HP Hlt Hbig HX2 hcmp HM1;have hE2:E≤2101:=by omega
   generalize w1.drewN mm=w3 at*;go_wp2
   go_loopw [7,37] (fun mv i wr=>∃(k m R:Nat),k≤53∧i=.int .i64 k∧mv=.int .u64 m∧Hid (m<p2 k)∧Hid (R<M1)∧Hid (N*p2 k=m*M1+R)∧Sx S A w0 wr ((b,R)::(c,M1)::l)) (fun _ i _=>53-(intOf i).toNat)
   case atStart=>exact⟨0,0,N,by omega,rfl,rfl,(by show _<_;exact p2_pos 0),Hlt2.out,(by show _=_;simp[p2]),HX3.out⟩
   case round=>
    obtain⟨k,m,R,hk,rfl,rfl,hm,hR,hD,hx⟩:=hrel;have HXr:Hid _:=hx;clear hx;have hR2:R<p2 9600:=Nat.lt_trans hR.out HM2.out;have HS2:Hid (Sm (2*R)):=Sm_p2 (mul_p2_lt (j:=1) hR2) (by omega);have HS1:Hid (Sm M1):=Sm_p2 HM2.out (by omega);clear hR2;by_cases hlt:k<53
    ·have hm52:m<4503599627370496:=Nat.lt_of_lt_of_le hm.out (p2_le (b:=52) (by omega))
     have hD2:Hid (N*p2 (k+1)=(2*m)*M1+2*R):=step_div hD.out;have hms:Hid (2*m+1<p2 (k+1)):=by show _<_;rw[p2_succ];have:=hm.out;omega
     go_wp2_with fail
     refine(shl_one b R HS2.out HXr.out).mono ?_;rintro e w4 ⟨rfl,hx4⟩;have HX4:Hid _:=hx4;clear hx4 HXr
     go_wp2_with fail
     refine(compare_sx b (2*R) c M1 HS2.out HS1.out HX4.out (Sx.swap HX4.out)).mono ?_;rintro e w5 ⟨r2,rfl,hr21,hr22,hr23,hr24,mm2,rfl⟩;by_cases hge:M1≤2*R
     ·have hrr:0≤r2:=by omega
      clear hr21 hr22;have hR3:Hid (2*R-M1<M1):=by show _<_;have:=hR.out;omega
      have hD3:Hid (N*p2 (k+1)=(2*m+1)*M1+(2*R-M1)):=by show _=_;rw[hD2.out,Nat.add_mul];omega
      go_wp2_with fail
      refine(subtract_sx b (2*R) c M1 HS2.out HS1.out hge (Sx.drewN HX4.out mm2)).mono ?_;rintro e w6 ⟨rfl,hx6⟩;have HX6:Hid _:=hx6;clear hx6 HX4 hge;go_wp2;go_roundw
      case rel=>exact⟨k+1,2*m+1,2*R-M1,by omega,by go_num,by go_num,hms.out,hR3.out,hD3.out,HX6.out⟩
      case measure=>simp[intOf];omega
     ·have hrr:r2<0:=by omega
      clear hr21 hr22;have hR3:Hid (2*R<M1):=by show _<_;omega
      have hms2:Hid (2*m<p2 (k+1)):=by show _<_;have:=hms.out;omega
      have HX6:Hid _:=Sx.drewN HX4.out mm2;clear HX4 hge;go_wp2;go_roundw
      case rel=>exact⟨k+1,2*m,2*R,by omega,by go_num,by go_num,hms2.out,hR3.out,hD2.out,HX6.out⟩
      case measure=>simp[intOf];omega
    ·obtain rfl:k=53:=by omega
     have hend:=rnd_end hM (by have:=hR.out;omega) HP2.out hD.out hR.out Hlt2.out Hbig2.out;have hm53:=hend.1;have HEnd:Hid _:=hend.2;clear hend
     go_wp2_with fail
     refine(shl_one b R HS2.out HXr.out).mono ?_;rintro e w4 ⟨rfl,hx4⟩;have HX4:Hid _:=hx4;clear hx4 HXr
     go_wp2_with fail
     refine(compare_sx b (2*R) c M1 HS2.out HS1.out HX4.out (Sx.swap HX4.out)).mono ?_;rintro e w5 ⟨r2,rfl,hr21,hr22,hr23,hr24,mm2,rfl⟩;have HX6:Hid _:=Sx.drewN HX4.out mm2;clear HX4;rcases Nat.lt_trichotomy M1 (2*R)with hc|hc|hc
     ·have hrr:0<r2:=by omega
      have HF:Hid _:=HEnd.out (E*4503599627370496+m+1) (by rw[if_pos (.inl hc)]);clear hr21 hr22 HEnd hc;go_wp2;go_ret;exact⟨E*4503599627370496+m+1,ret_int (by omega),HF.out,_,_,HX6.out⟩
     ·have hrr:r2=0:=by omega
      subst hrr;by_cases hodd:m % 2=1
      ·have hbit:(bits BinOp.and IntKind.u64 (m:Int) 1==1)=true:=by rw[show(1:Int)=((1:Nat):Int)from rfl,u64_and_nat m 1 (by omega) (by omega),nat_mask1,hodd];rfl
       have HF:Hid _:=HEnd.out (E*4503599627370496+m+1) (by rw[if_pos (.inr ⟨hc.symm,hodd⟩)]);clear hr21 hr22 HEnd hc hodd;go_wp2;go_ret;exact⟨E*4503599627370496+m+1,ret_int (by omega),HF.out,_,_,HX6.out⟩
      ·have hbit:(bits BinOp.and IntKind.u64 (m:Int) 1==1)=false:=by rw[show(1:Int)=((1:Nat):Int)from rfl,u64_and_nat m 1 (by omega) (by omega),nat_mask1,show m % 2=0 from by omega];rfl
       have HF:Hid _:=HEnd.out (E*4503599627370496+m) (by rw[if_neg (by omega),Nat.add_zero]);clear hr21 hr22 HEnd hc hodd;go_wp2;go_ret;exact⟨E*4503599627370496+m,ret_int (by omega),HF.out,_,_,HX6.out⟩
     ·have hrr:r2<0:=by omega
      have HF:Hid _:=HEnd.out (E*4503599627370496+m) (by rw[if_neg (by omega),Nat.add_zero]);clear hr21 hr22 HEnd hc;go_wp2;go_ret;exact⟨E*4503599627370496+m,ret_int (by omega),HF.out,_,_,HX6.out⟩
 ·obtain⟨k,E,e1,hk0,hk1,e2,hE,hp,hlt,hbig⟩:∃k E:Nat,max ((nlen N:Int)-(nlen M:Int)-52-1) (-1074)+52+1= -(k:Int)∧0<k∧k≤1021∧max ((nlen N:Int)-(nlen M:Int)-52-1) (-1074)+1074=E∧E≤2100∧Pre N M (p2 k*N) M E∧p2 k*N<2*M∧((E=0∧p2 k*N<M)∨M<2*(p2 k*N)):=by
   rcases HC.out with⟨sh,E,e1,e2,hE,hsh,hp,hlt,hbig⟩|h
   ·exfalso;omega
   ·exact h
  have hS:Sm (p2 k*N):=Sm_p2 (mul_p2_lt HN.out) (by omega);generalize max ((nlen N:Int)-(nlen M:Int)-52-1) (-1074)=sc at*;obtain rfl:sc=(E:Int)-1074:=by omega
  rw[e1,Int.neg_neg];refine(shl_p2 b N k (by omega) hS HX.out).mono ?_;rintro e w1 ⟨rfl,hx1⟩;have HX1:Hid (Sx S A w0 w1 ((b,p2 k*N)::(c,M)::l)):=hx1;have HP:Hid (Pre N M (p2 k*N) M E):=hp;have Hlt:Hid (p2 k*N<2*M):=hlt;have Hbig:Hid ((E=0∧p2 k*N<M)∨M<2*(p2 k*N)):=hbig;have HM1:Hid (M<p2 9500):=Nat.lt_of_lt_of_le HM.out (p2_le (by omega));have HN1:Hid (p2 k*N<p2 9500):=Nat.lt_of_lt_of_le (mul_p2_lt HN.out) (p2_le (by omega));clear hx1 hp hlt hbig e1 e2 hS HC HX HN HM;generalize hNN:p2 k*N=N1 at*;clear hNN
  go_wp2_with fail
  refine(compare_sx b N1 c M (Sm_p2 HN1.out (by omega)) (Sm_p2 HM1.out (by omega)) HX1.out (Sx.swap HX1.out)).mono ?_;rintro e w2 ⟨r,rfl,hr1,hr2,hr3,hr4,mm,rfl⟩;have HX2:Hid (Sx S A w0 (w1.drewN mm) ((b,N1)::(c,M)::l)):=Sx.drewN HX1.out mm;by_cases hcmp:M≤N1
  ·have hr:0≤r:=by omega
   clear hr1 hr2 HX1
   go_wp2_with fail
   refine(shl_one c M (Sm_p2 (mul_p2_lt (j:=1) HM1.out) (by omega)) (Sx.swap HX2.out)).mono ?_;rintro e w3 ⟨rfl,hx3⟩;have HX3:Hid (Sx S A w0 w3 ((b,N1)::(c,2*M)::l)):=hx3.swap;have HP2:Hid (Pre N M N1 (2*M) (E+1)):=pre_double HP.out;have Hlt2:Hid (N1<2*M):=Hlt.out;have Hbig2:Hid (E+1=0∨2*M≤2*N1):=.inr (by omega);have HM2:Hid (2*M<p2 9600):=Nat.lt_of_lt_of_le (mul_p2_lt (j:=1) HM1.out) (p2_le (by omega));clear hx3 HP Hlt Hbig HX2 hcmp HM1;go_wp2;rw[show(E:Int)-1074+1=((E+1:Nat):Int)-1074 from by omega];have hE2:E+1≤2101:=by omega
   generalize E+1=E2 at*;generalize 2*M=M2 at*
   go_loopw [7,37] (fun mv i wr=>∃(k m R:Nat),k≤53∧i=.int .i64 k∧mv=.int .u64 m∧Hid (m<p2 k)∧Hid (R<M2)∧Hid (N1*p2 k=m*M2+R)∧Sx S A w0 wr ((b,R)::(c,M2)::l)) (fun _ i _=>53-(intOf i).toNat)
   case atStart=>exact⟨0,0,N1,by omega,rfl,rfl,(by show _<_;exact p2_pos 0),Hlt2.out,(by show _=_;simp[p2]),HX3.out⟩
   case round=>
    obtain⟨k,m,R,hk,rfl,rfl,hm,hR,hD,hx⟩:=hrel;have HXr:Hid _:=hx;clear hx;have hR2:R<p2 9600:=Nat.lt_trans hR.out HM2.out;have HS2:Hid (Sm (2*R)):=Sm_p2 (mul_p2_lt (j:=1) hR2) (by omega);have HS1:Hid (Sm M2):=Sm_p2 HM2.out (by omega);clear hR2;by_cases hlt:k<53
    ·have hm52:m<4503599627370496:=Nat.lt_of_lt_of_le hm.out (p2_le (b:=52) (by omega))
     have hD2:Hid (N1*p2 (k+1)=(2*m)*M2+2*R):=step_div hD.out;have hms:Hid (2*m+1<p2 (k+1)):=by show _<_;rw[p2_succ];have:=hm.out;omega
     go_wp2_with fail
     refine(shl_one b R HS2.out HXr.out).mono ?_;rintro e w4 ⟨rfl,hx4⟩;have HX4:Hid _:=hx4;clear hx4 HXr
     go_wp2_with fail
     refine(compare_sx b (2*R) c M2 HS2.out HS1.out HX4.out (Sx.swap HX4.out)).mono ?_;rintro e w5 ⟨r2,rfl,hr21,hr22,hr23,hr24,mm2,rfl⟩;by_cases hge:M2≤2*R
     ·have hrr:0≤r2:=by omega
      clear hr21 hr22;have hR3:Hid (2*R-M2<M2):=by show _<_;have:=hR.out;omega
      have hD3:Hid (N1*p2 (k+1)=(2*m+1)*M2+(2*R-M2)):=by show _=_;rw[hD2.out,Nat.add_mul];omega
      go_wp2_with fail
      refine(subtract_sx b (2*R) c M2 HS2.out HS1.out hge (Sx.drewN HX4.out mm2)).mono ?_;rintro e w6 ⟨rfl,hx6⟩;have HX6:Hid _:=hx6;clear hx6 HX4 hge;go_wp2;go_roundw
      case rel=>exact⟨k+1,2*m+1,2*R-M2,by omega,by go_num,by go_num,hms.out,hR3.out,hD3.out,HX6.out⟩
      case measure=>simp[intOf];omega
     ·have hrr:r2<0:=by omega
      clear hr21 hr22;have hR3:Hid (2*R<M2):=by show _<_;omega
      have hms2:Hid (2*m<p2 (k+1)):=by show _<_;have:=hms.out;omega
      have HX6:Hid _:=Sx.drewN HX4.out mm2;clear HX4 hge;go_wp2;go_roundw
      case rel=>exact⟨k+1,2*m,2*R,by omega,by go_num,by go_num,hms2.out,hR3.out,hD2.out,HX6.out⟩
      case measure=>simp[intOf];omega
    ·obtain rfl:k=53:=by omega
     have hend:=rnd_end hM (by have:=hR.out;omega) HP2.out hD.out hR.out Hlt2.out Hbig2.out;have hm53:=hend.1;have HEnd:Hid _:=hend.2;clear hend
     go_wp2_with fail
     refine(shl_one b R HS2.out HXr.out).mono ?_;rintro e w4 ⟨rfl,hx4⟩;have HX4:Hid _:=hx4;clear hx4 HXr
     go_wp2_with fail
     refine(compare_sx b (2*R) c M2 HS2.out HS1.out HX4.out (Sx.swap HX4.out)).mono ?_;rintro e w5 ⟨r2,rfl,hr21,hr22,hr23,hr24,mm2,rfl⟩;have HX6:Hid _:=Sx.drewN HX4.out mm2;clear HX4;rcases Nat.lt_trichotomy M2 (2*R)with hc|hc|hc
     ·have hrr:0<r2:=by omega
      have HF:Hid _:=HEnd.out (E2*4503599627370496+m+1) (by rw[if_pos (.inl hc)]);clear hr21 hr22 HEnd hc;go_wp2;go_ret;exact⟨E2*4503599627370496+m+1,ret_int (by omega),HF.out,_,_,HX6.out⟩
     ·have hrr:r2=0:=by omega
      subst hrr;by_cases hodd:m % 2=1
      ·have hbit:(bits BinOp.and IntKind.u64 (m:Int) 1==1)=true:=by rw[show(1:Int)=((1:Nat):Int)from rfl,u64_and_nat m 1 (by omega) (by omega),nat_mask1,hodd];rfl
       have HF:Hid _:=HEnd.out (E2*4503599627370496+m+1) (by rw[if_pos (.inr ⟨hc.symm,hodd⟩)]);clear hr21 hr22 HEnd hc hodd;go_wp2;go_ret;exact⟨E2*4503599627370496+m+1,ret_int (by omega),HF.out,_,_,HX6.out⟩
      ·have hbit:(bits BinOp.and IntKind.u64 (m:Int) 1==1)=false:=by rw[show(1:Int)=((1:Nat):Int)from rfl,u64_and_nat m 1 (by omega) (by omega),nat_mask1,show m % 2=0 from by omega];rfl
       have HF:Hid _:=HEnd.out (E2*4503599627370496+m) (by rw[if_neg (by omega),Nat.add_zero]);clear hr21 hr22 HEnd hc hodd;go_wp2;go_ret;exact⟨E2*4503599627370496+m,ret_int (by omega),HF.out,_,_,HX6.out⟩
     ·have hrr:r2<0:=by omega
      have HF:Hid _:=HEnd.out (E2*4503599627370496+m) (by rw[if_neg (by omega),Nat.add_zero]);clear hr21 hr22 HEnd hc;go_wp2;go_ret;exact⟨E2*4503599627370496+m,ret_int (by omega),HF.out,_,_,HX6.out⟩
  ·have hr:r<0:=by omega
   clear hr1 hr2 HX1;have HX3:Hid (Sx S A w0 (w1.drewN mm) ((b,N1)::(c,M)::l)):=HX2.out;have HP2:Hid (Pre N M N1 M E):=HP.out;have Hlt2:Hid (N1<M):=by show _<_;omega
   have Hbig2:Hid (E=0∨M≤2*N1):=by rcases Hbig.out with h|h;exact .inl h.1;exact .inr (Nat.le_of_lt h)
   have HM2:Hid (M<p2 9600):=Nat.lt_of_lt_of_le HM1.out (p2_le (by omega));clear HP Hlt Hbig HX2 hcmp HM1;have hE2:E≤2101:=by omega
   generalize w1.drewN mm=w3 at*;go_wp2
   go_loopw [7,37] (fun mv i wr=>∃(k m R:Nat),k≤53∧i=.int .i64 k∧mv=.int .u64 m∧Hid (m<p2 k)∧Hid (R<M)∧Hid (N1*p2 k=m*M+R)∧Sx S A w0 wr ((b,R)::(c,M)::l)) (fun _ i _=>53-(intOf i).toNat)
   case atStart=>exact⟨0,0,N1,by omega,rfl,rfl,(by show _<_;exact p2_pos 0),Hlt2.out,(by show _=_;simp[p2]),HX3.out⟩
   case round=>
    obtain⟨k,m,R,hk,rfl,rfl,hm,hR,hD,hx⟩:=hrel;have HXr:Hid _:=hx;clear hx;have hR2:R<p2 9600:=Nat.lt_trans hR.out HM2.out;have HS2:Hid (Sm (2*R)):=Sm_p2 (mul_p2_lt (j:=1) hR2) (by omega);have HS1:Hid (Sm M):=Sm_p2 HM2.out (by omega);clear hR2;by_cases hlt:k<53
    ·have hm52:m<4503599627370496:=Nat.lt_of_lt_of_le hm.out (p2_le (b:=52) (by omega))
     have hD2:Hid (N1*p2 (k+1)=(2*m)*M+2*R):=step_div hD.out;have hms:Hid (2*m+1<p2 (k+1)):=by show _<_;rw[p2_succ];have:=hm.out;omega
     go_wp2_with fail
     refine(shl_one b R HS2.out HXr.out).mono ?_;rintro e w4 ⟨rfl,hx4⟩;have HX4:Hid _:=hx4;clear hx4 HXr
     go_wp2_with fail
     refine(compare_sx b (2*R) c M HS2.out HS1.out HX4.out (Sx.swap HX4.out)).mono ?_;rintro e w5 ⟨r2,rfl,hr21,hr22,hr23,hr24,mm2,rfl⟩;by_cases hge:M≤2*R
     ·have hrr:0≤r2:=by omega
      clear hr21 hr22;have hR3:Hid (2*R-M<M):=by show _<_;have:=hR.out;omega
      have hD3:Hid (N1*p2 (k+1)=(2*m+1)*M+(2*R-M)):=by show _=_;rw[hD2.out,Nat.add_mul];omega
      go_wp2_with fail
      refine(subtract_sx b (2*R) c M HS2.out HS1.out hge (Sx.drewN HX4.out mm2)).mono ?_;rintro e w6 ⟨rfl,hx6⟩;have HX6:Hid _:=hx6;clear hx6 HX4 hge;go_wp2;go_roundw
      case rel=>exact⟨k+1,2*m+1,2*R-M,by omega,by go_num,by go_num,hms.out,hR3.out,hD3.out,HX6.out⟩
      case measure=>simp[intOf];omega
     ·have hrr:r2<0:=by omega
      clear hr21 hr22;have hR3:Hid (2*R<M):=by show _<_;omega
      have hms2:Hid (2*m<p2 (k+1)):=by show _<_;have:=hms.out;omega
      have HX6:Hid _:=Sx.drewN HX4.out mm2;clear HX4 hge;go_wp2;go_roundw
      case rel=>exact⟨k+1,2*m,2*R,by omega,by go_num,by go_num,hms2.out,hR3.out,hD2.out,HX6.out⟩
      case measure=>simp[intOf];omega
    ·obtain rfl:k=53:=by omega
     have hend:=rnd_end hM (by have:=hR.out;omega) HP2.out hD.out hR.out Hlt2.out Hbig2.out;have hm53:=hend.1;have HEnd:Hid _:=hend.2;clear hend
     go_wp2_with fail
     refine(shl_one b R HS2.out HXr.out).mono ?_;rintro e w4 ⟨rfl,hx4⟩;have HX4:Hid _:=hx4;clear hx4 HXr
     go_wp2_with fail
     refine(compare_sx b (2*R) c M HS2.out HS1.out HX4.out (Sx.swap HX4.out)).mono ?_;rintro e w5 ⟨r2,rfl,hr21,hr22,hr23,hr24,mm2,rfl⟩;have HX6:Hid _:=Sx.drewN HX4.out mm2;clear HX4;rcases Nat.lt_trichotomy M (2*R)with hc|hc|hc
     ·have hrr:0<r2:=by omega
      have HF:Hid _:=HEnd.out (E*4503599627370496+m+1) (by rw[if_pos (.inl hc)]);clear hr21 hr22 HEnd hc;go_wp2;go_ret;exact⟨E*4503599627370496+m+1,ret_int (by omega),HF.out,_,_,HX6.out⟩
     ·have hrr:r2=0:=by omega
      subst hrr;by_cases hodd:m % 2=1
      ·have hbit:(bits BinOp.and IntKind.u64 (m:Int) 1==1)=true:=by rw[show(1:Int)=((1:Nat):Int)from rfl,u64_and_nat m 1 (by omega) (by omega),nat_mask1,hodd];rfl
       have HF:Hid _:=HEnd.out (E*4503599627370496+m+1) (by rw[if_pos (.inr ⟨hc.symm,hodd⟩)]);clear hr21 hr22 HEnd hc hodd;go_wp2;go_ret;exact⟨E*4503599627370496+m+1,ret_int (by omega),HF.out,_,_,HX6.out⟩
      ·have hbit:(bits BinOp.and IntKind.u64 (m:Int) 1==1)=false:=by rw[show(1:Int)=((1:Nat):Int)from rfl,u64_and_nat m 1 (by omega) (by omega),nat_mask1,show m % 2=0 from by omega];rfl
       have HF:Hid _:=HEnd.out (E*4503599627370496+m) (by rw[if_neg (by omega),Nat.add_zero]);clear hr21 hr22 HEnd hc hodd;go_wp2;go_ret;exact⟨E*4503599627370496+m,ret_int (by omega),HF.out,_,_,HX6.out⟩
     ·have hrr:r2<0:=by omega
      have HF:Hid _:=HEnd.out (E*4503599627370496+m) (by rw[if_neg (by omega),Nat.add_zero]);clear hr21 hr22 HEnd hc;go_wp2;go_ret;exact⟨E*4503599627370496+m,ret_int (by omega),HF.out,_,_,HX6.out⟩
end Go.Proofs.YtmkkibaacclhnaaGreatDoor
