/-
  A step of the walk, the part named Rep. No theorem of the row.
-/
import Derived.Test.YtmkkibaacclhnaaGreatDoorPkn
import Derived.Test.YtmkkibaacclhnaaGreatDoorNewB
import Derived.Test.YtmkkibaacclhnaaGreatDoorNewC
import Derived.Test.YtmkkibaacclhnaaGreatDoorTnr
namespace Go.Proofs.YtmkkibaacclhnaaGreatDoor
open Go.RowKit
set_option maxRecDepth 100000
set_option maxHeartbeats 16000000
def ev (n:Nat):Bool:=decide ((manE n).1 % 2=0)
def Prior (n:Nat) (pw:Int):Prop:=∃dg R L H U,Inv n dg (pw+1) R L H U∧(pickF dg R L H U (ev n)).2=false
def Short (n D:Nat) (pw:Int):Prop:=∃dg R L H U,Inv n dg pw R L H U∧pickF dg R L H U (ev n)=(D,true)∧(dg=0∨Prior n pw)
theorem pick_false {dg R L H U:Nat} {ends:Bool} (h:(pickF dg R L H U ends).2=false):L≤R∧H≤U-R:=by
 unfold pickF at h;cases h1:wi R L ends<;>cases h2:wi (U-R) H ends<;>rw[h1,h2]at h<;>simp only at h
 ·unfold wi at h1 h2
  simp at h1 h2;omega
 ·cases h
 ·cases h
 ·split at h<;>cases h
theorem Inv.hpos {n dg:Nat} {pw:Int} {R L H U:Nat} (h:Inv n dg pw R L H U):0<H:=by
 rcases Nat.eq_zero_or_pos H with rfl|h0
 ·exfalso
  have:=h.c;rw[Nat.mul_zero,Nat.zero_mul,gapH_eq]at this;have hq:0<pQ pw U:=Nat.mul_pos (by have:=h.r;omega) (p10_pos _);have:=Nat.mul_pos (p2_pos (manE n).2) hq;omega
 ·exact h0
theorem Inv.dg_le {n dg:Nat} {pw:Int} {R L H U:Nat} (h:Inv n dg pw R L H U) (hn:n≠0) (hl:L+H≤U):dg≤9007199254740991:=by
 have hq:0<pQ pw U:=Nat.mul_pos (by have:=h.r;omega) (p10_pos _);obtain⟨_,hm⟩:=manE_eq n
 have h1:dg*(L+H)*pP pw≤V n*pQ pw U:=by
  rw[←h.a];exact Nat.mul_le_mul_right _ (Nat.le_trans (Nat.mul_le_mul_left dg hl) (Nat.le_add_right _ _))
 have e1:2*(L+H)*pP pw=(gapL n+gapH n)*pQ pw U:=by rw[Nat.mul_add,Nat.add_mul,h.b,h.c,Nat.add_mul]
 have h2:dg*(gapL n+gapH n)*pQ pw U≤2*V n*pQ pw U:=by
  rw[Nat.mul_assoc,←e1,Nat.mul_assoc 2 (L+H),Nat.mul_left_comm dg 2,←Nat.mul_assoc dg,Nat.mul_assoc 2 (V n)];exact Nat.mul_le_mul_left 2 h1
 have h3:=Nat.le_of_mul_le_mul_right h2 hq;have hL:=gapL_eq n hn;have hH:=gapH_eq n
 have h4:dg*((lowQ n+2)*p2 (manE n).2)≤4*V n:=by
  rw[Nat.add_mul,←hL,←hH,←Nat.mul_add,Nat.mul_left_comm];omega
 rw[manE_V,←Nat.mul_assoc,←Nat.mul_assoc]at h4;have h5:=Nat.le_of_mul_le_mul_right h4 (p2_pos _);unfold lowQ at h5;split at h5<;>omega
theorem pick_true {dg R L H U D:Nat} {ends:Bool} (h:pickF dg R L H U ends=(D,true)):D=dg∨D=dg+1:=by
 unfold pickF at h;cases h1:wi R L ends<;>cases h2:wi (U-R) H ends<;>rw[h1,h2]at h<;>simp only at h
 ·simp at h
 ·simp at h;omega
 ·simp at h;omega
 ·split at h<;>simp at h<;>omega
theorem Inv.start_le {n:Nat} {pw:Int} {R L H U:Nat} (h:Inv n 0 pw R L H U) (hn:n≠0):L≤U∧H≤U:=by
 have hp:=pP_pos pw;have ha:=h.a;rw[Nat.zero_mul,Nat.zero_add]at ha;obtain⟨h1,h2⟩:=manE_eq n;have hr:=h.r;have g1:gapL n≤V n:=Nat.sub_le _ _;have g2:gapH n≤V n:=by rw[gapH_eq,manE_V];exact Nat.le_mul_of_pos_left _ (by omega)
 have l1:2*L*pP pw≤R*pP pw:=by rw[h.b,ha];exact Nat.mul_le_mul_right _ g1
 have l2:2*H*pP pw≤R*pP pw:=by rw[h.c,ha];exact Nat.mul_le_mul_right _ g2
 have l3:=Nat.le_of_mul_le_mul_right l1 hp;have l4:=Nat.le_of_mul_le_mul_right l2 hp;omega
theorem p10_1700:p2 5000*10≤p10 1700:=by
 have a:p2 5004≤p10 1668:=Nat.le_trans (p2_le (by omega)) (p2_p10 1668);have e:p2 5004=16*p2 5000:=by rw[show 5004=4+5000 from rfl,p2_add,show p2 4=16 from rfl]
 have b:=p10_le 1668 1700 (by omega);omega
theorem newSearch_any (n:Nat) (w:World) (hn0:n≠0) (hn:n<9218868437227405312):
 Calls Tryz.prog 66 #[.int .u64 n] w fun e w'=>∃B br bl bh bu,e=.returned (.pointer (some ⟨B,0,none⟩))∧∃(pw:Int) (R L H U:Nat),-332≤pw∧pw≤2332∧U<p2 5000*10∧Inv n 0 pw R L H U∧St (fun i=>i=B) w w' B 0 pw R L H U br bl bh bu (ev n):=by
 have hb: -332≤(((nlen (manE n).1:Int)+((manE n).2-1074))*30103).tdiv 100000∧(((nlen (manE n).1:Int)+((manE n).2-1074))*30103).tdiv 100000≤332:=by
  obtain⟨h1,h2⟩:=manE_eq n;have h3:nlen (manE n).1≤53:=nlen_le _ 53 (by omega);exact tdiv_bd _ (by omega) (by omega)
 have fin:∀(e:Ending) (w':World),(∃B br bl bh bu,e=.returned (.pointer (some ⟨B,0,none⟩))∧∃k:Nat,k≤2000∧setR ((((nlen (manE n).1:Int)+((manE n).2-1074))*30103).tdiv 100000) (upF (manE n).2*(4*(manE n).1))<setU ((((nlen (manE n).1:Int)+((manE n).2-1074))*30103).tdiv 100000) k (dnF (manE n).2*4)∧setU ((((nlen (manE n).1:Int)+((manE n).2-1074))*30103).tdiv 100000) k (dnF (manE n).2*4)<p2 5000*10∧
  St (fun i=>i=B) w w' B 0 ((((nlen (manE n).1:Int)+((manE n).2-1074))*30103).tdiv 100000+k) (setR ((((nlen (manE n).1:Int)+((manE n).2-1074))*30103).tdiv 100000) (upF (manE n).2*(4*(manE n).1))) (setR ((((nlen (manE n).1:Int)+((manE n).2-1074))*30103).tdiv 100000) (upF (manE n).2*lowQ n)) (setR ((((nlen (manE n).1:Int)+((manE n).2-1074))*30103).tdiv 100000) (upF (manE n).2*2)) (setU ((((nlen (manE n).1:Int)+((manE n).2-1074))*30103).tdiv 100000) k (dnF (manE n).2*4)) br bl bh bu (decide ((manE n).1 % 2=0)))→
  ∃B br bl bh bu,e=.returned (.pointer (some ⟨B,0,none⟩))∧∃(pw:Int) (R L H U:Nat),-332≤pw∧pw≤2332∧U<p2 5000*10∧Inv n 0 pw R L H U∧St (fun i=>i=B) w w' B 0 pw R L H U br bl bh bu (ev n):=by
  rintro e w' ⟨B,br,bl,bh,bu,rfl,k,hk,h1,h2,h3⟩;exact⟨B,br,bl,bh,bu,rfl,_,_,_,_,_,by omega,by omega,h2,Inv.init n k _ hn0 h1,h3⟩
 by_cases hE:n/4503599627370496=0
 ·exact(newSearch_a n w hn hE _ rfl).mono fin
 ·by_cases hz:n % 4503599627370496=0
  ·exact(newSearch_c n w hn hE hz _ rfl).mono fin
  ·exact(newSearch_b n w hn hE hz _ rfl).mono fin
theorem shortest_any (n:Nat) (w:World) (hn0:n≠0) (hn:n<9218868437227405312):
 Calls Tryz.prog 40 #[.int .u64 n] w fun e w'=>∃(D:Nat) (pw:Int),e=.returned (.tuple #[.int .u64 D,.int .i64 pw])∧Short n D pw∧D≤90071992547409920∧ -5000≤pw∧pw≤5000∧Fr (fun _=>False) w w':=by
 have H0:=hid hn0;have HN:=hid hn;clear hn0 hn;go_enter Tryz.func40,Tryz.ntmps40
 go_wp2_with fail
 refine(newSearch_any n w H0.out HN.out).mono ?_;rintro e w1 ⟨B,br,bl,bh,bu,rfl,pw0,R0,L0,H0',U0,hp1,hp2,hU0,hInv,hst⟩;have HInv:=hid hInv;have HST:=hid hst;have HU0:=hid hU0;clear hInv hst hU0
 go_wp2_with fail
 go_loopg [] 2000 (fun g wr=>∃(j dg:Nat) (pw:Int) (R L H U:Nat),j+g=2000∧ -332-(j:Int)≤pw∧pw≤2332∧Hid (U<p2 5000*10)∧Hid (p10 j≤H)∧Hid (dg=0∨Prior n pw)∧Hid (dg≤90071992547409919)∧Hid (L≤10*U∧H≤10*U)∧Hid (Inv n dg pw R L H U)∧St (fun i=>i=B) w wr B dg pw R L H U br bl bh bu (ev n))
 case atStart=>exact⟨0,0,pw0,R0,L0,H0',U0,by omega,by omega,hp2,HU0.out,HInv.out.hpos,.inl rfl,by show _≤_;omega,by have:=Inv.start_le HInv.out H0.out;show _∧_;omega,HInv.out,HST.out⟩
 case round=>
  obtain⟨j,dg,pw,R,L,H,U,hjg,hpw1,hpw2,hU,hpj,hpr,hdg,hLH,hiv,hs⟩:=hrel;have hR:=Inv.r hiv.out
  have hSU:Hid (Sm (10*U)):=Sm_p2 (k:=5008) (by
   have e:p2 5008=256*p2 5000:=by rw[show 5008=8+5000 from rfl,p2_add,show p2 8=256 from rfl]
   have:=hU.out
   omega) (by omega)
  have hS1:Hid (Sm U):=Sm.mono hSU.out (by omega);have hS2:Hid (Sm L):=Sm.mono hSU.out hLH.out.1;have hS3:Hid (Sm H):=Sm.mono hSU.out hLH.out.2;have HS:=hid hs;clear hs;have hdg':dg≤1000000000000000000:=by have:=hdg.out;omega
  go_wp2_with fail
  refine(pick_any hR hS2.out hS3.out hS1.out hdg' HS.out).mono ?_;rintro e w2 ⟨rfl,hs2⟩;have HS2:=hid hs2;have hc1:=hs2.sv.cells.2.1;clear hs2;cases hb:(pickF dg R L H U (ev n)).2
  ·obtain⟨hf1,hf2⟩:=pick_false hb
   have hsum:L+H≤U:=by omega
   have hdl:=Inv.dg_le hiv.out H0.out hsum
   have hjb:Hid (j≤1700):=by
    show _≤_
    rcases Nat.lt_or_ge 1700 j with h|h
    ·exfalso
     have a:=p10_le 1700 j (by omega);have b:=p10_1700;have c:=hU.out;have d:=hpj.out;omega
    ·exact h
   have hjb':=hjb.out;have hT2:Hid (Sm (10*L)):=Sm.mono hSU.out (by omega);have hT3:Hid (Sm (10*H)):=Sm.mono hSU.out (by omega);have HPr:Hid (Prior n (pw-1)):=⟨dg,R,L,H,U,by rw[show pw-1+1=pw from by omega];exact hiv.out,hb⟩;have HIn:=hid (Inv.next hiv.out);have hpj2:Hid (p10 (j+1)≤10*H):=by show _≤_;rw[p10_succ];have:=hpj.out;omega
   have hLH2:Hid (10*L≤10*U∧10*H≤10*U):=by show _∧_;omega
   have hdd:Hid (dg*10+10*R/U≤90071992547409919):=by
    show _≤_
    have:10*R/U<10:=by rw[Nat.div_lt_iff_lt_mul (by omega)];omega
    omega
   clear hf1 hf2 hsum
   go_wp2_with fail
   refine(next_any hR hT2.out hT3.out hSU.out (by omega) (by omega) (by omega) HS2.out).mono ?_;rintro e w3 ⟨rfl,hs3⟩;have HS3:=hid hs3;clear hs3;go_wp2
   go_roundg (gk-1)
   case measure=>omega
   case rel=>exact⟨j+1,_,pw-1,_,_,_,U,by omega,by omega,by omega,hU.out,hpj2.out,.inr HPr.out,hdd.out,hLH2.out,HIn.out,HS3.out⟩
  ·have HF:Hid (pickF dg R L H U (ev n)=((pickF dg R L H U (ev n)).1,true)):=by rw[Hid,←hb]
   have hjj:j≤2000:=by omega
   have hSh:=hid (show Short n (pickF dg R L H U (ev n)).1 pw from⟨dg,R,L,H,U,hiv.out,HF.out,hpr.out⟩);have hDl:Hid ((pickF dg R L H U (ev n)).1≤90071992547409920):=by show _≤_;have:=pick_true HF.out;have:=hdg.out;omega
   clear HF;generalize (pickF dg R L H U (ev n)).1=D at*
   go_wp2_with fail
   go_region
   all_goals
    go_wp2;go_ret2;exact⟨D,pw,rfl,hSh.out,hDl.out,by omega,by omega,Fr.drew HS2.out.sx.fr⟩
theorem core_low {x c L P U Y v gl M:Nat} (hP:0<P) (hU:0<U) (h1:(c*U+x)*P=v*(U*Y)) (h2:2*L*P=gl*(U*Y)) (h3:M+gl=2*v):
 (x<L↔M*Y<2*(c*P))∧(x=L↔M*Y=2*(c*P)):=by
 have k:2*(c*P)*U+2*(x*P)=M*Y*U+2*(L*P):=by
  have e1:2*((c*U+x)*P)=(M+gl)*(U*Y):=by rw[h1,h3,Nat.mul_assoc]
  rw[Nat.add_mul,Nat.add_mul,←h2,Nat.mul_right_comm c U P,Nat.mul_comm U Y,←Nat.mul_assoc M Y U,Nat.mul_assoc 2 L P]at e1;rw[Nat.mul_assoc 2 (c*P) U];omega
 have a1:x<L↔x*P<L*P:=(Nat.mul_lt_mul_right hP).symm;have a2:x=L↔x*P=L*P:=(Nat.mul_left_inj (by omega)).symm;have a3:M*Y<2*(c*P)↔M*Y*U<2*(c*P)*U:=(Nat.mul_lt_mul_right hU).symm;have a4:M*Y=2*(c*P)↔M*Y*U=2*(c*P)*U:=(Nat.mul_left_inj (by omega)).symm;rw[a1,a2,a3,a4];generalize x*P=A at*;generalize L*P=B at*;generalize M*Y*U=C at*;generalize 2*(c*P)*U=D at*;omega
theorem core_high {x c H P U Y v gh M:Nat} (hP:0<P) (hU:0<U) (h1:c*U*P=v*(U*Y)+x*P) (h2:2*H*P=gh*(U*Y)) (h3:M=2*v+gh):
 (x<H↔2*(c*P)<M*Y)∧(x=H↔2*(c*P)=M*Y):=by
 have k:2*(c*P)*U+2*(H*P)=M*Y*U+2*(x*P):=by
  have e1:2*(c*U*P)=2*v*(U*Y)+2*(x*P):=by rw[h1,Nat.mul_add,Nat.mul_assoc]
  have e2:M*(U*Y)=2*v*(U*Y)+2*H*P:=by rw[h3,Nat.add_mul,h2]
  rw[Nat.mul_right_comm c U P]at e1;rw[Nat.mul_comm U Y,←Nat.mul_assoc M Y U,Nat.mul_assoc 2 H P]at e2;rw[Nat.mul_comm U Y]at e1;rw[Nat.mul_assoc 2 (c*P) U];omega
 have a1:x<H↔x*P<H*P:=(Nat.mul_lt_mul_right hP).symm;have a2:x=H↔x*P=H*P:=(Nat.mul_left_inj (by omega)).symm;have a3:2*(c*P)<M*Y↔2*(c*P)*U<M*Y*U:=(Nat.mul_lt_mul_right hU).symm;have a4:2*(c*P)=M*Y↔2*(c*P)*U=M*Y*U:=(Nat.mul_left_inj (by omega)).symm;rw[a1,a2,a3,a4];generalize x*P=A at*;generalize H*P=B at*;generalize M*Y*U=C at*;generalize 2*(c*P)*U=D at*;omega
theorem ev_iff (n:Nat):ev n=true↔n % 2=0:=by
 unfold ev;rw[decide_eq_true_iff];have:=(manE_eq n).1;omega
theorem mid_low (n:Nat) (hn:n≠0):mid (n-1)+gapL n=2*V n:=by
 unfold mid gapL;have:=V_lt (show n-1<n by omega);rw[show n-1+1=n by omega];omega
theorem mid_high (n:Nat):mid n=2*V n+gapH n:=by
 unfold mid gapH;have:=V_succ n;omega
def RndAt (c:Nat) (pw:Int) (n:Nat):Prop:=Rnd (c*pP pw) (p10 (-pw).toNat) n
theorem Inv.upos {n dg:Nat} {pw:Int} {R L H U:Nat} (h:Inv n dg pw R L H U):0<U:=by have:=h.r;omega
theorem Inv.low {n dg:Nat} {pw:Int} {R L H U:Nat} (h:Inv n dg pw R L H U) (hn:n≠0) {c:Nat} (hc:c≤dg):RndAt c pw n↔wi (R+(dg-c)*U) L (ev n)=true:=by
 have e:c*U+(R+(dg-c)*U)=dg*U+R:=by
  obtain⟨k,rfl⟩:∃k,dg=c+k:=⟨dg-c,by omega⟩;rw[Nat.add_sub_cancel_left,Nat.add_mul];omega
 have hk:=core_low (x:=R+(dg-c)*U) (c:=c) (pP_pos pw) h.upos (by rw[e];exact h.a) h.b (mid_low n hn)
 have hup:2*(c*pP pw)<mid n*p10 (-pw).toNat:=by
  have h1:c*U*pP pw≤V n*p10 (-pw).toNat*U:=by
   have:=h.a;rw[←e,Nat.add_mul]at this;have h2:V n*pQ pw U=V n*p10 (-pw).toNat*U:=by rw[pQ,Nat.mul_comm U,Nat.mul_assoc]
   omega
  rw[Nat.mul_right_comm]at h1;have h3:=Nat.le_of_mul_le_mul_right h1 h.upos;rw[mid_high,Nat.add_mul];have h4:0<gapH n*p10 (-pw).toNat:=Nat.mul_pos (by rw[gapH_eq];exact p2_pos _) (p10_pos _);have h5:2*V n*p10 (-pw).toNat=2*(V n*p10 (-pw).toNat):=Nat.mul_assoc ..;omega
 unfold RndAt Rnd wi;have he:=ev_iff n;simp only[Bool.or_eq_true,Bool.and_eq_true,decide_eq_true_eq,hk.1,hk.2,he,hn,false_or];constructor
 ·rintro⟨h1,_⟩;exact h1
 ·intro h1;exact⟨h1,.inl hup⟩
theorem Inv.high {n dg:Nat} {pw:Int} {R L H U:Nat} (h:Inv n dg pw R L H U) (hn:n≠0) {c:Nat} (hc:dg<c):RndAt c pw n↔wi ((c-dg)*U-R) H (ev n)=true:=by
 have e:c*U=dg*U+R+((c-dg)*U-R):=by
  obtain⟨k,rfl⟩:∃k,c=dg+(k+1):=⟨c-dg-1,by omega⟩;have:=h.r;rw[Nat.add_sub_cancel_left,Nat.add_mul,Nat.add_mul];omega
 have hk:=core_high (x:=(c-dg)*U-R) (c:=c) (pP_pos pw) h.upos (by rw[e,Nat.add_mul,h.a,pQ]) h.c (mid_high n)
 have hlo:mid (n-1)*p10 (-pw).toNat<2*(c*pP pw):=by
  have h1:V n*p10 (-pw).toNat*U≤c*U*pP pw:=by
   have h2:V n*pQ pw U=V n*p10 (-pw).toNat*U:=by rw[pQ,Nat.mul_comm U,Nat.mul_assoc]
   rw[e,Nat.add_mul,h.a,h2];exact Nat.le_add_right _ _
  rw[Nat.mul_right_comm c U]at h1;have h3:=Nat.le_of_mul_le_mul_right h1 h.upos;have h6:=mid_low n hn;have h4:0<gapL n*p10 (-pw).toNat:=Nat.mul_pos (by unfold gapL;have:=V_lt (show n-1<n by omega);omega) (p10_pos _);have h5:mid (n-1)*p10 (-pw).toNat+gapL n*p10 (-pw).toNat=2*(V n*p10 (-pw).toNat):=by rw[←Nat.add_mul,h6,Nat.mul_assoc]
  omega
 unfold RndAt Rnd wi;have he:=ev_iff n;simp only[Bool.or_eq_true,Bool.and_eq_true,decide_eq_true_eq,hk.1,hk.2,he];constructor
 ·rintro⟨_,h1⟩;exact h1
 ·intro h1;exact⟨.inr (.inl hlo),h1⟩
theorem wi_mono {a b L:Nat} {e:Bool} (h:a≤b) (hb:wi b L e=true):wi a L e=true:=by
 unfold wi at*;simp only[Bool.or_eq_true,Bool.and_eq_true,decide_eq_true_eq]at*;rcases hb with hb|⟨rfl,he⟩
 ·left;omega
 ·rcases Nat.lt_or_ge a b with h1|h1
  ·exact .inl h1
  ·exact .inr ⟨by omega,he⟩
theorem Prior.none {n:Nat} {pw:Int} (h:Prior n pw) (hn:n≠0) (c:Nat):¬RndAt c (pw+1) n:=by
 obtain⟨dg,R,L,H,U,hI,hp⟩:=h
 have hw:wi R L (ev n)=false∧wi (U-R) H (ev n)=false:=by
  unfold pickF at hp;cases h1:wi R L (ev n)<;>cases h2:wi (U-R) H (ev n)<;>rw[h1,h2]at hp<;>simp only at hp
  ·exact⟨rfl,rfl⟩
  ·cases hp
  ·cases hp
  ·split at hp<;>cases hp
 intro hr;rcases Nat.lt_or_ge dg c with hc|hc
 ·have:=wi_mono (a:=U-R) (by
   have h1:1*U≤(c-dg)*U:=Nat.mul_le_mul_right _ (by omega)
   omega) ((hI.high hn hc).1 hr)
  rw[hw.2]at this;cases this
 ·have:=wi_mono (a:=R) (by omega) ((hI.low hn hc).1 hr)
  rw[hw.1]at this;cases this
theorem Short.rnd {n D:Nat} {pw:Int} (h:Short n D pw) (hn:n≠0):RndAt D pw n:=by
 obtain⟨dg,R,L,H,U,hI,hp,_⟩:=h;have lo:wi R L (ev n)=true→RndAt dg pw n:=fun hw=>(hI.low hn (Nat.le_refl _)).2 (by rw[Nat.sub_self,Nat.zero_mul];exact hw)
 have hi:wi (U-R) H (ev n)=true→RndAt (dg+1) pw n:=fun hw=>(hI.high hn (by omega)).2 (by rw[Nat.add_sub_cancel_left,Nat.one_mul];exact hw)
 unfold pickF at hp;cases h1:wi R L (ev n)<;>cases h2:wi (U-R) H (ev n)<;>rw[h1,h2]at hp<;>simp only at hp
 ·simp at hp
 ·simp at hp;rw[←hp];exact hi h2
 ·simp at hp;rw[←hp];exact lo h1
 ·split at hp<;>simp at hp<;>rw[←hp]
  ·exact lo h1
  ·exact hi h2
theorem hasPrefix_any (l:List UInt8) (c:UInt8) (w:World) (hl:l.length≤9000000000000000000):
 Calls Tryz.prog 199 #[.string (ofL l),.string ⟨#[c]⟩] w fun e w'=>e=.returned (.bool (l.head? ==some c))∧w'=w:=by
 cases l with
 |nil=>
  go_enter Tryz.func199,Tryz.ntmps199;go_wp2;go_ret;exact⟨rfl,rfl⟩
 |cons x r=>
  have hsz:=ofL_size (x::r);have hx:=ofL_extract (x::r) 0 1;have hlen:(x::r).length=r.length+1:=rfl;rw[hlen]at hsz hl;clear hlen;go_enter Tryz.func199,Tryz.ntmps199;go_wp2;go_ret;refine⟨?_,rfl⟩
  show Ending.returned (.bool ((ofL [x]).toList==[c]))=_
  rw[ofL_toList];simp
theorem mul_one_any (n:Nat) (w:World) (hn:n≤64):
 Calls Tryz.prog 163 #[.int .u64 1,.int .u64 n] w fun e w'=>e=.returned (.tuple #[.int .u64 0,.int .u64 n])∧w'=w:=by
 have hb:bits BinOp.and IntKind.u64 (n:Int) 4294967295=(n:Int):=by
  rw[show(4294967295:Int)=((4294967295:Nat):Int)from rfl,u64_and_nat n _ (by omega) (by omega)];have:n&&&4294967295=n % 4294967296:=Nat.and_two_pow_sub_one_eq_mod n 32;rw[this];omega
 have hb1:bits BinOp.and IntKind.u64 1 4294967295=1:=by decide
 have hb0:bits BinOp.and IntKind.u64 0 4294967295=0:=by decide
 have hd:(n:Int)/4294967296=0:=by omega
 go_enter Tryz.func163,Tryz.ntmps163;go_wp2;go_ret2;exact⟨rfl,rfl⟩
def zeros64:ByteArray:=⟨#[48,48,48,48,48,48,48,48,48,48,48,48,48,48,48,48,48,48,48,48,48,48,48,48,48,48,48,48,48,48,48,48,48,48,48,48,48,48,48,48,48,48,48,48,48,48,48,48,48,48,48,48,48,48,48,48,48,48,48,48,48,48,48,48]⟩
theorem zeros64_eq:zeros64=ofL (List.replicate 64 48):=rfl
theorem hasPre_any (l:List UInt8) (c:UInt8) (w:World) (hl:l.length≤9000000000000000000):Calls Tryz.prog 164 #[.string (ofL l),.string ⟨#[c]⟩] w fun e w'=>e=.returned (.bool (l.head? ==some c))∧w'=w:=by
 go_enter Tryz.func164,Tryz.ntmps164
 go_wp2_with fail
 refine(hasPrefix_any l c _ hl).mono ?_;rintro e w' ⟨rfl,rfl⟩;go_wp2;go_ret;exact⟨rfl,rfl⟩
theorem repeat_any (n:Nat) (w:World) (hn:n≤30):
 Calls Tryz.prog 110 #[.string ⟨#[48]⟩,.int .i64 n] w fun e w'=>e=.returned (.string (ofL (List.replicate n 48)))∧w'=w:=by
 rcases Nat.lt_or_ge n 2 with h2|h2
 ·rcases Nat.lt_or_ge n 1 with h1|h1
  ·obtain rfl:n=0:=by omega
   go_enter Tryz.func110,Tryz.ntmps110;go_wp2;go_ret;exact⟨rfl,rfl⟩
  ·obtain rfl:n=1:=by omega
   go_enter Tryz.func110,Tryz.ntmps110;go_wp2;go_ret;exact⟨rfl,rfl⟩
 ·have he0:((n:Int)==0)=false:=beq_eq_false_iff_ne.2 (by omega)
  have he1:((n:Int)==1)=false:=beq_eq_false_iff_ne.2 (by omega);have hneg:decide ((n:Int)<0)=false:=decide_eq_false (by omega);go_enter Tryz.func110,Tryz.ntmps110
  go_wp2_with (go_at_call 163;refine(mul_one_any n _ (by omega)).mono ?_;rintro e w' ⟨rfl,rfl⟩)
  refine(hasPre_any _ 48 _ ?_).mono ?_
  rotate_left
  rintro e w2 ⟨rfl,rfl⟩
  go_wp2_with fail
  refine(hasPre_any _ 48 _ ?_).mono ?_
  rotate_left
  rintro e w3 ⟨rfl,rfl⟩
  go_wp2_with fail
  refine(hasPre_any _ 48 _ ?_).mono ?_
  rotate_left
  rintro e w4 ⟨rfl,rfl⟩;go_wp2;go_ret;refine⟨?_,rfl⟩
  rotate_left
  ·decide
  ·decide
  ·decide
  show Ending.returned (Value.string (zeros64.extract 0 n))=_
  rw[zeros64_eq,ofL_extract,List.drop_zero,List.take_replicate,Nat.min_eq_left (by omega)]
theorem noughts_any (n:Nat) (w:World) (hn:n≤30):
 Calls Tryz.prog 65 #[.int .i64 n] w fun e w'=>e=.returned (.string (ofL (List.replicate n 48)))∧w'=w:=by
 go_enter Tryz.func65,Tryz.ntmps65
 go_wp2_with fail
 refine(repeat_any n _ hn).mono ?_;rintro e w1 ⟨rfl,rfl⟩;go_wp2;go_ret;exact⟨rfl,rfl⟩
end Go.Proofs.YtmkkibaacclhnaaGreatDoor
