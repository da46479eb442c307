/-
  A step of the walk, the part named Pkn. No theorem of the row.
-/
import Derived.Test.YtmkkibaacclhnaaGreatDoorSrb
import Derived.Deep.LoopGhost
namespace Go.Proofs.YtmkkibaacclhnaaGreatDoor
open Go.RowKit
set_option maxRecDepth 100000
set_option maxHeartbeats 16000000
theorem p2_p10 (k:Nat):p2 (3*k)≤p10 k:=by
 unfold p2 p10;rw[Nat.pow_mul];exact Nat.pow_le_pow_left (by omega) k
theorem lt5 {x:Nat} (h:x≤10*p2 3000):x<p2 5000*10:=by
 have e:p2 5000=p2 2000*p2 3000:=by rw[←p2_add]
 have h9:2≤p2 2000:=Nat.le_trans (by decide:2≤p2 1) (p2_le (by omega));have h1:=Nat.mul_le_mul_right (p2 3000) h9;have h2:=p2_pos 3000;omega
def setR (p:Int) (X:Nat):Nat:=X*p10 (-p).toNat
def setU (p:Int) (k U:Nat):Nat:=U*p10 p.toNat*p10 k
theorem St.alloc {A:Nat→Prop} {w0 w:World} {B dg:Nat} {pw:Int} {R L H U br bl bh bu:Nat} {ends:Bool} (h:St A w0 w B dg pw R L H U br bl bh bu ends) (o:Obj):St (fun i=>A i∨i=w.heap.size) w0 (w.alloc o) B dg pw R L H U br bl bh bu ends:=
 ⟨(Below.heap_alloc w o B (lt_of_block h.sv)).trans h.sv,h.sx.alloc o,.inl h.inA,h.new⟩
theorem St.weaken {A A':Nat→Prop} {w0 w:World} {B dg:Nat} {pw:Int} {R L H U br bl bh bu:Nat} {ends:Bool} (h:St A w0 w B dg pw R L H U br bl bh bu ends) (hA:∀i,A' i→A i) (hB:A' B):St A' w0 w B dg pw R L H U br bl bh bu ends:=
 ⟨h.sv,h.sx.weaken hA,hB,h.new⟩
theorem tdiv_bd (a:Int) (h1: -33200000≤a) (h2:a≤33200000): -332≤a.tdiv 100000∧a.tdiv 100000≤332:=by
 by_cases h:0≤a
 ·rw[Int.tdiv_eq_ediv_of_nonneg h];omega
 ·have e:a= -(-a):=by omega
  rw[e,Int.neg_tdiv,Int.tdiv_eq_ediv_of_nonneg (by omega)];omega
theorem setPower_any {w0 w:World} {B dg:Nat} {pw:Int} {R L H U br bl bh bu:Nat} {ends:Bool} (len:Int) (hl1: -1100≤len) (hl2:len≤1100) (hU:0<U) (hR:R<p2 1400) (hL:L<p2 1400) (hH:H<p2 1400) (hUs:U<p2 1400) (h:St (fun i=>i=B) w0 w B dg pw R L H U br bl bh bu ends) (p:Int) (hp:p=(len*30103).tdiv 100000):
 Calls Tryz.prog 115 #[.pointer (some ⟨B,0,none⟩),.int .i64 len] w fun e w'=>e=.returned (.tuple #[])∧∃k:Nat,k≤2000∧setR p R<setU p k U∧setU p k U<p2 5000*10∧St (fun i=>i=B) w0 w' B dg (p+k) (setR p R) (setR p L) (setR p H) (setU p k U) br bl bh bu ends:=by
 have hpb:=tdiv_bd (len*30103) (by omega) (by omega);rw[←hp]at hpb;obtain⟨hp1,hp2⟩:=hpb
 have hSm:∀X,X<p2 1400→∀q:Nat,q≤332→X*p10 q<p2 3000:=by
  intro X hX q hq;have a:X*p10 q<p2 1400*p10 q:=Nat.mul_lt_mul_of_pos_right hX (p10_pos _);have b:p2 1400*p10 q≤p2 1400*p2 (4*q):=Nat.mul_le_mul_left _ (p10_p2 q);rw[←p2_add]at b;exact Nat.lt_of_lt_of_le a (Nat.le_trans b (p2_le (by omega)))
 have hst1:St (fun i=>i=B∨i=w.heap.size) w0 ((w.setCell ⟨B,1,none⟩ (.int .i64 p)).alloc (.cells #[.pointer (some ⟨B,0,none⟩)] 137)) B dg p R L H U br bl bh bu ends:=by
  have:=(h.set1 p).alloc (.cells #[.pointer (some ⟨B,0,none⟩)] 137);simpa[World.setCell]using this
 have hbox:((w.setCell ⟨B,1,none⟩ (.int .i64 p)).alloc (.cells #[.pointer (some ⟨B,0,none⟩)] 137)).heap[w.heap.size]? =some (.cells #[.pointer (some ⟨B,0,none⟩)] 137 (0,0)):=by
  have:=heap_alloc_new (w.setCell ⟨B,1,none⟩ (.int .i64 p)) (.cells #[.pointer (some ⟨B,0,none⟩)] 137);simpa[World.setCell]using this
 have HP:=hid hp;have HSm:=hid hSm;have HR:=hid hR;have HL:=hid hL;have HH:=hid hH;have HU:=hid hUs;have HS1:=hid hst1;have hBl:=lt_of_block h.sv;have hc1:=h.sv.cells.2.1;have hf1:=h.sv.cells.2.2.2.2.2.2.2 1;have HBox:=hid hbox;clear hSm hst1 h hR hL hH hUs hp hbox;go_enter Tryz.func115,Tryz.ntmps115;have hbxB:w.heap.size≠B:=by omega
 by_cases hpn:0≤p
 ·have htd:decide ((0:Int)≤(len*30103).tdiv 100000)=true:=by rw[←HP.out];simpa using hpn
  go_wp2_with fail
  rw[←HP.out];generalize (w.setCell ⟨B,1,none⟩ (.int .i64 p)).alloc (.cells #[.pointer (some ⟨B,0,none⟩)] 137)=w1 at*;generalize w.heap.size=bx at*;clear hc1 hf1 htd HP;obtain⟨n,rfl⟩:=Int.eq_ofNat_of_zero_le hpn;have hcb:=cell_of_one HBox.out;have hc1:=HS1.out.sv.cells.2.1;have hc5:=HS1.out.sv.cells.2.2.2.2.2.1;have hU3:=HSm.out U HU.out n (by omega);have HSU:Hid (Sm (U*p10 n)):=Sm_p2 hU3 (by omega);have HU3:=hid hU3;have HR3:Hid (R<p2 3000):=Nat.lt_of_lt_of_le HR.out (p2_le (by omega));have HU0:Hid (0<U*p10 n):=Nat.mul_pos hU (p10_pos n);clear hU3
  go_region_with (go_at_call 161;refine(timesPowerOfTen_sa bu U n HSU.out (by omega) (Sx.drewN (sx_u HS1.out.sx) 1)).mono ?_;rintro e w2 ⟨rfl,hx2,hk2⟩)
  all_goals
   have hsv2:=Seven.keep (w:=w1.drewN 1) HS1.out.sv hk2 (.inl rfl);have HS2:=hid (show St (fun i=>i=B∨i=bx) w0 w2 B dg n R L H (U*p10 n) br bl bh bu ends from⟨hsv2,sx_u' hx2,.inl rfl,HS1.out.new⟩);have HBox2:=hid ((hk2 bx (.inr rfl)).trans HBox.out);have HRe:Hid (setR (n:Int) R=R):=by rw[Hid,setR,show(-(n:Int)).toNat=0 from by omega,show p10 0=1 from rfl,Nat.mul_one]
   have HLe:Hid (setR (n:Int) L=L):=by rw[Hid,setR,show(-(n:Int)).toNat=0 from by omega,show p10 0=1 from rfl,Nat.mul_one]
   have HHe:Hid (setR (n:Int) H=H):=by rw[Hid,setR,show(-(n:Int)).toNat=0 from by omega,show p10 0=1 from rfl,Nat.mul_one]
   have e4:Hid (∀k,U*p10 n*p10 k=setU (n:Int) k U):=by intro k;rw[setU];rfl
   clear hsv2 hx2 hk2 HSm HS1 HBox HR HL HH HU HSU hcb hc1 hc5 hU;generalize U*p10 n=U' at*;have hSmR:Hid (Sm R):=Sm_p2 HR3.out (by omega)
   go_wp2_with fail
   go_loopg [] 1000 (fun g wr=>∃k:Nat,k+g=1000∧Hid (U'*p10 k≤10*p2 3000)∧Hid (R<U'*p10 k*p10 g)∧wr.heap[bx]? =some (.cells #[.pointer (some ⟨B,0,none⟩)] 137 (0,0))∧St (fun i=>i=B∨i=bx) w0 wr B dg ((n:Int)+k) R L H (U'*p10 k) br bl bh bu ends)
   case atStart=>
    refine⟨0,by omega,?_,?_,HBox2.out,?_⟩
    ·show _≤_
     rw[show p10 0=1 from rfl,Nat.mul_one];have:=HU3.out;omega
    ·show _<_
     rw[show p10 0=1 from rfl,Nat.mul_one];have a:R<p10 1000:=Nat.lt_of_lt_of_le HR3.out (Nat.le_trans (p2_le (show 3000≤3*1000 by omega)) (p2_p10 1000));exact Nat.lt_of_lt_of_le a (Nat.le_mul_of_pos_left _ HU0.out)
    ·have:=HS2.out
     rw[show p10 0=1 from rfl,Nat.mul_one];simpa using this
   case round=>
    obtain⟨k,hkg,hUk,hRk,hbx,hst⟩:=hrel;have hcb:=cell_of_one hbx;have hc2:=hst.sv.cells.2.2.1;have hc5:=hst.sv.cells.2.2.2.2.2.1
    have hSmU:Hid (Sm (U'*p10 k)):=Sm_p2 (k:=3004) (Nat.lt_of_le_of_lt hUk.out (by
     have e:p2 3004=16*p2 3000:=by rw[show 3004=4+3000 from rfl,p2_add,show p2 4=16 from rfl]
     have:=p2_pos 3000
     omega)) (by omega)
    obtain⟨r,hr1,hr2,hr3,hr4,hcq⟩:=compare_q br R bu _ hSmR.out hSmU.out hst.sx (sx_u hst.sx);have HCQ:=hid hcq;have HST:=hid hst;have HBX:=hid hbx;clear hcq hst hbx
    go_wp2_with fail
    go_quiet ((go_at_call 120;exact Calls.quiet_of (HCQ.out _)));clear HCQ;by_cases hge:U'*p10 k≤R
    ·have hr:0≤r:=by omega
     have hg1:Hid (gk≠0):=by
      rintro rfl;have:=hRk.out;rw[show p10 0=1 from rfl,Nat.mul_one]at this;omega
     have hU2:Hid (U'*p10 (k+1)≤10*p2 3000):=by show _≤_;rw[p10_succ,←Nat.mul_assoc];have:=HR3.out;omega
     have e10:Hid (10*(U'*p10 k)+0=U'*p10 (k+1)):=by show _=_;rw[p10_succ,Nat.mul_comm (p10 k) 10,Nat.mul_left_comm,Nat.add_zero]
     have hR2:Hid (R<U'*p10 (k+1)*p10 (gk-1)):=by
      show _<_
      have h3:p10 gk=p10 (gk-1)*10:=by rw[←p10_succ];congr 1;have:=hg1.out;omega
      have h4:=hRk.out;rw[h3]at h4;rw[p10_succ,←Nat.mul_assoc];have:U'*p10 k*10*p10 (gk-1)=U'*p10 k*(p10 (gk-1)*10):=by rw[Nat.mul_assoc (U'*p10 k),Nat.mul_comm 10]
      omega
     have hst2:=HST.out.drewN nq;have hbx2:(wr.drewN nq).heap[bx]? =some (.cells #[.pointer (some ⟨B,0,none⟩)] 137 (0,0)):=HBX.out;have HST2:=hid hst2;have HBX2:=hid hbx2;clear hr1 hr2 hge hst2 hbx2
     go_wp2_with fail
     refine(timesPlus_sa bu _ 10 0 hSmU.out (by omega) (by omega) (by omega) (sx_u HST2.out.sx)).mono ?_;rintro e w5 ⟨rfl,hx5,hk5⟩;have hsv5:=Seven.keep HST2.out.sv hk5 (.inl rfl);have hbx5:=(hk5 bx (.inr rfl)).trans HBX2.out;rw[e10.out]at hx5;have hst5:St (fun i=>i=B∨i=bx) w0 w5 B dg ((n:Int)+k) R L H (U'*p10 (k+1)) br bl bh bu ends:=⟨hsv5,sx_u' hx5,.inl rfl,HST2.out.new⟩;have hcb5:=cell_of_one hbx5;have hc15:=hst5.sv.cells.2.1;have hf15:=hst5.sv.cells.2.2.2.2.2.2.2 1;have H5:=hid (hst5.set1 ((n:Int)+k+1));have HB5:=hid ((Below.heap_setCell w5 ⟨B,1,none⟩ (.int .i64 ((n:Int)+k+1)) bx hbxB).trans hbx5);clear hx5 hk5 hsv5 hst5 hbx5 HST HBX HST2 HBX2;go_wp2
     go_roundg (gk-1)
     case measure=>have:=hg1.out;omega
     case rel=>
      refine⟨k+1,by have:=hg1.out;omega,hU2.out,hR2.out,HB5.out,?_⟩;rw[show(n:Int)+((k+1:Nat):Int)=(n:Int)+k+1 from by omega];exact H5.out
    ·have hr:r<0:=by omega
     have HLT:=hid (Nat.lt_of_not_le hge);have HFI:=hid (HST.out.drewN nq);clear hr1 hr2 hge;go_wp2;go_end0;refine⟨rfl,k,by omega,by rw[HRe.out,←e4.out k];exact HLT.out,by rw[←e4.out k];exact lt5 hUk.out,by rw[HRe.out,HLe.out,HHe.out,←e4.out k];exact St.weaken HFI.out (fun i hi=>.inl hi) rfl⟩
 ·have htd:decide ((0:Int)≤(len*30103).tdiv 100000)=false:=by rw[←HP.out];simpa using hpn
  go_wp2_with fail
  rw[←HP.out];generalize (w.setCell ⟨B,1,none⟩ (.int .i64 p)).alloc (.cells #[.pointer (some ⟨B,0,none⟩)] 137)=w1 at*;generalize w.heap.size=bx at*;clear hc1 hf1 htd HP;obtain⟨n,hn⟩:=Int.eq_ofNat_of_zero_le (show 0≤ -p by omega);have hpn2:p= -(n:Int):=by omega
  have hq0:=HSm.out R HR.out n (by omega);have hq1:=HSm.out L HL.out n (by omega);have hq2:=HSm.out H HH.out n (by omega);refine(timesAll_tens n bx (by omega) (Sm_p2 hq0 (by omega)) (Sm_p2 hq1 (by omega)) (Sm_p2 hq2 (by omega)) HBox.out (.inr rfl) hpn2 HS1.out).mono ?_;rintro e w2 ⟨rfl,hst2,hk2⟩;have HS2:=hid hst2;have HBox2:=hid ((hk2 bx (.inr rfl)).trans HBox.out);have HR3:=hid hq0;have HU3:Hid (U<p2 3000):=Nat.lt_of_lt_of_le HU.out (p2_le (by omega));have HU0:Hid (0<U):=hU;have e1:Hid (R*p10 n=setR p R):=by rw[Hid,setR,hn];rfl
  have e2:Hid (L*p10 n=setR p L):=by rw[Hid,setR,hn];rfl
  have e3:Hid (H*p10 n=setR p H):=by rw[Hid,setR,hn];rfl
  have e4:Hid (∀k,U*p10 k=setU p k U):=by intro k;rw[setU,show p.toNat=0 from by omega,show p10 0=1 from rfl,Nat.mul_one]
  rw[e1.out]at HR3 HS2;rw[e2.out,e3.out]at HS2;clear hst2 hk2 hq0 hq1 hq2 HR HL HH HU HSm HS1 HBox e1 e2 e3 hn hpn2 hU;generalize hRe:setR p R=R' at*;generalize hLe:setR p L=L' at*;generalize hHe:setR p H=H' at*;have HRe:=hid hRe;have HLe:=hid hLe;have HHe:=hid hHe;clear hRe hLe hHe;have hSmR:Hid (Sm R'):=Sm_p2 HR3.out (by omega)
  go_wp2_with fail
  go_loopg [] 1000 (fun g wr=>∃k:Nat,k+g=1000∧Hid (U*p10 k≤10*p2 3000)∧Hid (R'<U*p10 k*p10 g)∧wr.heap[bx]? =some (.cells #[.pointer (some ⟨B,0,none⟩)] 137 (0,0))∧St (fun i=>i=B∨i=bx) w0 wr B dg (p+k) R' L' H' (U*p10 k) br bl bh bu ends)
  case atStart=>
   refine⟨0,by omega,?_,?_,HBox2.out,?_⟩
   ·show _≤_
    rw[show p10 0=1 from rfl,Nat.mul_one];have:=HU3.out;omega
   ·show _<_
    rw[show p10 0=1 from rfl,Nat.mul_one];have a:R'<p10 1000:=Nat.lt_of_lt_of_le HR3.out (Nat.le_trans (p2_le (show 3000≤3*1000 by omega)) (p2_p10 1000));exact Nat.lt_of_lt_of_le a (Nat.le_mul_of_pos_left _ HU0.out)
   ·have:=HS2.out
    rw[show p10 0=1 from rfl,Nat.mul_one];simpa using this
  case round=>
   obtain⟨k,hkg,hUk,hRk,hbx,hst⟩:=hrel;have hcb:=cell_of_one hbx;have hc2:=hst.sv.cells.2.2.1;have hc5:=hst.sv.cells.2.2.2.2.2.1
   have hSmU:Hid (Sm (U*p10 k)):=Sm_p2 (k:=3004) (Nat.lt_of_le_of_lt hUk.out (by
    have e:p2 3004=16*p2 3000:=by rw[show 3004=4+3000 from rfl,p2_add,show p2 4=16 from rfl]
    have:=p2_pos 3000
    omega)) (by omega)
   obtain⟨r,hr1,hr2,hr3,hr4,hcq⟩:=compare_q br R' bu _ hSmR.out hSmU.out hst.sx (sx_u hst.sx);have HCQ:=hid hcq;have HST:=hid hst;have HBX:=hid hbx;clear hcq hst hbx
   go_wp2_with fail
   go_quiet ((go_at_call 120;exact Calls.quiet_of (HCQ.out _)));clear HCQ;by_cases hge:U*p10 k≤R'
   ·have hr:0≤r:=by omega
    have hg1:Hid (gk≠0):=by
     rintro rfl;have:=hRk.out;rw[show p10 0=1 from rfl,Nat.mul_one]at this;omega
    have hU2:Hid (U*p10 (k+1)≤10*p2 3000):=by show _≤_;rw[p10_succ,←Nat.mul_assoc];have:=HR3.out;omega
    have e10:Hid (10*(U*p10 k)+0=U*p10 (k+1)):=by show _=_;rw[p10_succ,Nat.mul_comm (p10 k) 10,Nat.mul_left_comm,Nat.add_zero]
    have hR2:Hid (R'<U*p10 (k+1)*p10 (gk-1)):=by
     show _<_
     have h3:p10 gk=p10 (gk-1)*10:=by rw[←p10_succ];congr 1;have:=hg1.out;omega
     have h4:=hRk.out;rw[h3]at h4;rw[p10_succ,←Nat.mul_assoc];have:U*p10 k*10*p10 (gk-1)=U*p10 k*(p10 (gk-1)*10):=by rw[Nat.mul_assoc (U*p10 k),Nat.mul_comm 10]
     omega
    have hst2:=HST.out.drewN nq;have hbx2:(wr.drewN nq).heap[bx]? =some (.cells #[.pointer (some ⟨B,0,none⟩)] 137 (0,0)):=HBX.out;have HST2:=hid hst2;have HBX2:=hid hbx2;clear hr1 hr2 hge hst2 hbx2
    go_wp2_with fail
    refine(timesPlus_sa bu _ 10 0 hSmU.out (by omega) (by omega) (by omega) (sx_u HST2.out.sx)).mono ?_;rintro e w5 ⟨rfl,hx5,hk5⟩;have hsv5:=Seven.keep HST2.out.sv hk5 (.inl rfl);have hbx5:=(hk5 bx (.inr rfl)).trans HBX2.out;rw[e10.out]at hx5;have hst5:St (fun i=>i=B∨i=bx) w0 w5 B dg (p+k) R' L' H' (U*p10 (k+1)) br bl bh bu ends:=⟨hsv5,sx_u' hx5,.inl rfl,HST2.out.new⟩;have hcb5:=cell_of_one hbx5;have hc15:=hst5.sv.cells.2.1;have hf15:=hst5.sv.cells.2.2.2.2.2.2.2 1;have H5:=hid (hst5.set1 (p+k+1));have HB5:=hid ((Below.heap_setCell w5 ⟨B,1,none⟩ (.int .i64 (p+k+1)) bx hbxB).trans hbx5);clear hx5 hk5 hsv5 hst5 hbx5 HST HBX HST2 HBX2;go_wp2
    go_roundg (gk-1)
    case measure=>have:=hg1.out;omega
    case rel=>
     refine⟨k+1,by have:=hg1.out;omega,hU2.out,hR2.out,HB5.out,?_⟩;rw[show p+((k+1:Nat):Int)=p+k+1 from by omega];exact H5.out
   ·have hr:r<0:=by omega
    have HLT:=hid (Nat.lt_of_not_le hge);have HFI:=hid (HST.out.drewN nq);clear hr1 hr2 hge;go_wp2;go_end0;refine⟨rfl,k,by omega,by rw[HRe.out,←e4.out k];exact HLT.out,by rw[←e4.out k];exact lt5 hUk.out,by rw[HRe.out,HLe.out,HHe.out,←e4.out k];exact St.weaken HFI.out (fun i hi=>.inl hi) rfl⟩
def manE (n:Nat):Nat×Nat:=if n/4503599627370496=0 then(n,0)else(4503599627370496+n % 4503599627370496,n/4503599627370496-1)
def lowQ (n:Nat):Nat:=if(manE n).1=4503599627370496∧0<(manE n).2 then 1 else 2
def upF (E:Nat):Nat:=p2 (E-1074)
def dnF (E:Nat):Nat:=p2 (1074-E)
theorem newNatural_sa {S A:Nat→Prop} {w0 w:World} {l:List (Nat×Nat)} (n:Nat) (hn:n<18446744073709551616) (h:Sx S A w0 w l):
 Calls Tryz.prog 111 #[.int .u64 n] w fun e w'=>∃b,e=.returned (.pointer (some ⟨b,0,none⟩))∧Sx S A w0 w' ((b,n)::l)∧KeepA A w w':=by
 refine(newNatural_sx n hn h).mono ?_;rintro e w' ⟨b,rfl,hx,hb,hF⟩;exact⟨b,rfl,hx,fun i hi=>hF.block i (h.inA i hi) id⟩
def lowF (dg R U:Nat):Bool:=decide (R<U-R)||(decide (R=U-R)&&decide (dg % 2=0))
def pickF (dg R L H U:Nat) (ends:Bool):Nat×Bool:=
 match wi R L ends,wi (U-R) H ends with
 |true,true=>if lowF dg R U then(dg,true)else(dg+1,true)
 |true,false=>(dg,true)
 |false,true=>(dg+1,true)
 |false,false=>(0,false)
theorem clone_sa {S A:Nat→Prop} {w0 w:World} {l:List (Nat×Nat)} (b N:Nat) (hS:Sm N) (h0:N≠0) (h:Sx S A w0 w ((b,N)::l)):
 Calls Tryz.prog 117 #[.pointer (some ⟨b,0,none⟩)] w fun e w'=>∃b',e=.returned (.pointer (some ⟨b',0,none⟩))∧Sx S A w0 w' ((b',N)::(b,N)::l)∧KeepA A w w':=by
 obtain⟨g,hg⟩:=h.head;refine(clone_nt b g N w hS h0 hg).mono ?_;rintro e w' ⟨b',g',rfl,r1,r2,r3,r4⟩;exact⟨b',rfl,h.more r1 r2 r3 r4,fun i hi=>r2.block i (h.inA i hi) id⟩
theorem within_q {S A:Nat→Prop} {w0 w:World} {l l2:List (Nat×Nat)} (B bg br G R:Nat) (ends:Bool) (hS:Sm G) (hS2:Sm R) (h:Sx S A w0 w ((bg,G)::l)) (h2:Sx S A w0 w ((br,R)::l2)) (hc:w.cell? ⟨B,6,none⟩=some (.bool ends)) (n:Nat):
 Calls Tryz.prog 119 #[.pointer (some ⟨B,0,none⟩),.pointer (some ⟨bg,0,none⟩),.pointer (some ⟨br,0,none⟩)] (w.drewN n) fun e w'=>e=.returned (.bool (wi G R ends))∧∃m,w'=(w.drewN n).drewN m:=
 within_any B bg br G R ends hS hS2 (h.drewN n) (h2.drewN n) hc
theorem pick_any {A:Nat→Prop} {w0 w:World} {B dg:Nat} {pw:Int} {R L H U br bl bh bu:Nat} {ends:Bool} (hR:R<U) (hs2:Sm L) (hs3:Sm H) (hs4:Sm U) (hdg:dg≤1000000000000000000) (h:St A w0 w B dg pw R L H U br bl bh bu ends):
 Calls Tryz.prog 67 #[.pointer (some ⟨B,0,none⟩)] w fun e w'=>e=.returned (.tuple #[.int .u64 ((pickF dg R L H U ends).1:Nat),.bool (pickF dg R L H U ends).2])∧St A w0 w' B dg pw R L H U br bl bh bu ends:=by
 have HSR:=hid (Sm.mono hs4 (show R≤U by omega));have HSK:=hid (Sm.mono hs4 (show U-R≤U by omega));have HSL:=hid hs2;have HSH:=hid hs3;have HSU:=hid hs4;have HH:=hid h;have hc5:=h.sv.cells.2.2.2.2.2.1;clear hs2 hs3 hs4 h;go_enter Tryz.func67,Tryz.ntmps67
 go_wp2_with fail
 refine(clone_sa bu U HSU.out (by omega) (sx_u HH.out.sx)).mono ?_;rintro e w1 ⟨bk,rfl,hx1,hk1⟩;have hsv1:=HH.out.sv.keep hk1 HH.out.inA;have hc2:=hsv1.cells.2.2.1;have hp1:[(bk,U),(bu,U),(br,R),(bl,L),(bh,H)].Perm [(bk,U),(br,R),(bu,U),(bl,L),(bh,H)]:=(List.Perm.swap _ _ _).cons _;have HX1:=hid (hx1.perm hp1);have HSV1:=hid hsv1;clear hx1 hk1 hsv1 hp1 hc5
 go_wp2_with fail
 refine(subtract_sa bk U br R HSU.out HSR.out (by omega) HX1.out).mono ?_;rintro e w2 ⟨rfl,hx2,hk2⟩;have hsv2:=Seven.keep HSV1.out hk2 HH.out.inA;have hcs:=hsv2.cells;have hc0:=hcs.1;have hc2':=hcs.2.2.1;have hc3:=hcs.2.2.2.1;have hc4:=hcs.2.2.2.2.1;have hc6:=hcs.2.2.2.2.2.2.1;have hxr:Sx (fun _=>False) A w0 w2 [(br,R),(bu,U),(bl,L),(bh,H)]:=hx2.tail;have hst2:St A w0 w2 B dg pw R L H U br bl bh bu ends:=⟨hsv2,sx_ru' hxr,HH.out.inA,HH.out.new⟩;have hW1:=within_q B br bl R L ends HSR.out HSL.out hxr (sx_l hst2.sx) hc6;have hW2:=within_q B bk bh (U-R) H ends HSK.out HSH.out hx2 (sx_h hst2.sx) hc6;have W1:=hid hW1;have W2:=hid hW2;have HST:=hid hst2;have HX2:=hid hx2;clear hx2 hk2 hsv2 hcs hxr hst2 hW1 hW2 HSV1 HX1 HH hc2 hc6
 go_wp2_with fail
 go_quiet ((go_at_call 119;first|(with_reducible exact Calls.quiet_of (W1.out _))|(with_reducible exact Calls.quiet_of (W2.out _))))
 have hpf:pickF dg R L H U ends=match wi R L ends,wi (U-R) H ends with
  |true,true=>if lowF dg R U then(dg,true)else(dg+1,true)
  |true,false=>(dg,true)
  |false,true=>(dg+1,true)
  |false,false=>(0,false):=rfl
 have HPF:=hid hpf;clear hpf;generalize wi R L ends=lo at*;generalize wi (U-R) H ends=up at*;clear W1 W2;cases lo
 ·cases up
  ·have HP2:Hid (pickF dg R L H U ends=(0,false)):=HPF.out
   go_wp2;go_ret2;exact⟨by rw[HP2.out];rfl,HST.out.drewN _⟩
  ·have HP2:Hid (pickF dg R L H U ends=(dg+1,true)):=HPF.out
   go_wp2;go_ret2;exact⟨by rw[HP2.out];rfl,HST.out.drewN _⟩
 ·cases up
  ·have HP2:Hid (pickF dg R L H U ends=(dg,true)):=HPF.out
   go_wp2;go_ret2;exact⟨by rw[HP2.out];rfl,HST.out.drewN _⟩
  ·have HP2:Hid (pickF dg R L H U ends=if lowF dg R U then(dg,true)else(dg+1,true)):=HPF.out
   have hxq:=Sx.drewN HX2.out nq;have hxs:=Sx.drewN HST.out.sx nq;have HXQ:=hid hxq;have HXS:=hid hxs;clear HPF hxq hxs
   go_wp2_with fail
   refine(compare_sx br R bk (U-R) HSR.out HSK.out HXS.out HXQ.out).mono ?_;rintro e w4 ⟨r,rfl,hr1,hr2,hr3,hr4,m,rfl⟩;rcases Nat.lt_trichotomy R (U-R)with hc|hc|hc
   ·have hr:r<0:=by omega
    have HP3:Hid (pickF dg R L H U ends=(dg,true)):=by rw[Hid,HP2.out,show lowF dg R U=true from by simp[lowF,hc]];rfl
    clear hr1 hr2 hc HP2;go_wp2;go_ret2;exact⟨by rw[HP3.out];rfl,HST.out.drewN _⟩
   ·have hr:r=0:=by omega
    subst hr;by_cases hpar:dg % 2=0
    ·have HP3:Hid (pickF dg R L H U ends=(dg,true)):=by rw[Hid,HP2.out,show lowF dg R U=true from by unfold lowF;rw[decide_eq_true hc,decide_eq_true hpar];simp];rfl
     have hpb:((dg:Int) % 2==0)=true:=beq_iff_eq.2 (by omega);have HPA:=hid hpar;have HC:=hid hc;clear hr1 hr2 hc HP2 hpar;go_wp2;go_ret2;exact⟨by rw[HP3.out];rfl,HST.out.drewN _⟩
    ·have HP3:Hid (pickF dg R L H U ends=(dg+1,true)):=by rw[Hid,HP2.out,show lowF dg R U=false from by unfold lowF;rw[decide_eq_false hpar,decide_eq_false (by omega)];simp];rfl
     have hpb:((dg:Int) % 2==0)=false:=beq_eq_false_iff_ne.2 (by omega);have HC:=hid hc;clear hr1 hr2 hc HP2 hpar;go_wp2;go_ret2;exact⟨by rw[HP3.out];rfl,HST.out.drewN _⟩
   ·have hr:0<r:=by omega
    have hrz:(r==0)=false:=beq_eq_false_iff_ne.2 (by omega);have hrd:decide (r<0)=false:=by rw[decide_eq_false_iff_not];omega
    have HP3:Hid (pickF dg R L H U ends=(dg+1,true)):=by rw[Hid,HP2.out,show lowF dg R U=false from by unfold lowF;rw[decide_eq_false (by omega),decide_eq_false (by omega)];simp];rfl
    clear hr1 hr2 hc HP2;go_wp2;go_ret2;exact⟨by rw[HP3.out];rfl,HST.out.drewN _⟩
def gapL (n:Nat):Nat:=V n-V (n-1)
def gapH (n:Nat):Nat:=V (n+1)-V n
def pP (pw:Int):Nat:=p10 pw.toNat*p2 1074
def pQ (pw:Int) (U:Nat):Nat:=U*p10 (-pw).toNat
structure Inv (n dg:Nat) (pw:Int) (R L H U:Nat):Prop where
 a:(dg*U+R)*pP pw=V n*pQ pw U
 b:2*L*pP pw=gapL n*pQ pw U
 c:2*H*pP pw=gapH n*pQ pw U
 r:R<U
theorem manE_V (n:Nat):V n=(manE n).1*p2 (manE n).2:=by
 unfold V manE;split<;>simp[p2]
theorem pP_pos (pw:Int):0<pP pw:=Nat.mul_pos (p10_pos _) (p2_pos _)
theorem p_step (pw:Int):p10 pw.toNat*p10 (-(pw-1)).toNat=10*p10 (pw-1).toNat*p10 (-pw).toNat:=by
 by_cases h:1≤pw
 ·rw[show(-(pw-1)).toNat=0 from by omega,show(-pw).toNat=0 from by omega,show pw.toNat=(pw-1).toNat+1 from by omega,p10_succ,show p10 0=1 from rfl];omega
 ·rw[show pw.toNat=0 from by omega,show(pw-1).toNat=0 from by omega,show(-(pw-1)).toNat=(-pw).toNat+1 from by omega,p10_succ,show p10 0=1 from rfl];omega
theorem eq_step {x y U:Nat} {pw:Int} (h:x*pP pw=y*pQ pw U):10*x*pP (pw-1)=y*pQ (pw-1) U:=by
 have hp:=p_step pw;have hpos:0<p10 (-pw).toNat:=p10_pos _;refine Nat.eq_of_mul_eq_mul_right hpos ?_;unfold pP pQ at*
 --x p10 pw p2=y U p10-pw
 have e1:10*x*(p10 (pw-1).toNat*p2 1074)*p10 (-pw).toNat=x*p2 1074*(10*p10 (pw-1).toNat*p10 (-pw).toNat):=by
  simp only[Nat.mul_assoc,Nat.mul_left_comm,Nat.mul_comm]
 have e2:x*p2 1074*(p10 pw.toNat*p10 (-(pw-1)).toNat)=x*(p10 pw.toNat*p2 1074)*p10 (-(pw-1)).toNat:=by
  simp only[Nat.mul_assoc,Nat.mul_left_comm,Nat.mul_comm]
 rw[e1,←hp,e2,h];simp only[Nat.mul_assoc,Nat.mul_left_comm,Nat.mul_comm]
theorem Inv.next {n dg:Nat} {pw:Int} {R L H U:Nat} (h:Inv n dg pw R L H U):Inv n (dg*10+10*R/U) (pw-1) (10*R % U) (10*L) (10*H) U:=by
 refine⟨?_,?_,?_,Nat.mod_lt _ (by have:=h.r;omega)⟩
 ·have e:(dg*10+10*R/U)*U+10*R % U=10*(dg*U+R):=by
   rw[Nat.add_mul];have:=Nat.div_add_mod (10*R) U;rw[Nat.mul_comm U]at this;have e2:dg*10*U=10*(dg*U):=by rw[Nat.mul_right_comm,Nat.mul_comm]
   omega
  rw[e];exact eq_step h.a
 ·have:=eq_step h.b
  rwa[show 10*(2*L)=2*(10*L)from by omega]at this
 ·have:=eq_step h.c
  rwa[show 10*(2*H)=2*(10*H)from by omega]at this
theorem manE_eq (n:Nat):n=(manE n).2*4503599627370496+(manE n).1∧(((manE n).2=0∧(manE n).1<9007199254740992)∨(4503599627370496≤(manE n).1∧(manE n).1<9007199254740992)):=by
 unfold manE;split
 ·exact⟨by show n=0*_+n;omega,.inl ⟨rfl,by show n<_;omega⟩⟩
 ·exact⟨by show n=(n/4503599627370496-1)*4503599627370496+(4503599627370496+n % 4503599627370496);omega,.inr ⟨by show _≤4503599627370496+n % 4503599627370496;omega,by show 4503599627370496+n % 4503599627370496<_;omega⟩⟩
theorem gapH_eq (n:Nat):gapH n=p2 (manE n).2:=by
 obtain⟨h1,h2⟩:=manE_eq n;unfold gapH
 have v1:V (n+1)=((manE n).1+1)*2^(manE n).2:=by
  have:=V_em (manE n).2 ((manE n).1+1) (by omega);rwa[←Nat.add_assoc,←h1]at this
 rw[v1,manE_V,Nat.add_mul];unfold p2;omega
theorem gapL_eq (n:Nat) (hn:n≠0):2*gapL n=lowQ n*p2 (manE n).2:=by
 obtain⟨h1,h2⟩:=manE_eq n;unfold gapL lowQ;by_cases hl:(manE n).1=4503599627370496∧0<(manE n).2
 ·rw[if_pos hl]
  have v1:V (n-1)=9007199254740991*2^((manE n).2-1):=by
   have:=V_em ((manE n).2-1) 9007199254740991 (by omega);rwa[show((manE n).2-1)*4503599627370496+9007199254740991=n-1 from by omega]at this
  rw[v1,manE_V,hl.1,show(manE n).2=(manE n).2-1+1 from by omega,p2_succ];unfold p2;rw[show(manE n).2-1+1-1=(manE n).2-1 from by omega];omega
 ·rw[if_neg hl]
  have v1:V (n-1)=((manE n).1-1)*2^(manE n).2:=by
   have:=V_em (manE n).2 ((manE n).1-1) (by omega);rwa[show(manE n).2*4503599627370496+((manE n).1-1)=n-1 from by omega]at this
  have hm1:1≤(manE n).1:=by omega
  rw[v1,manE_V]
  have e:(manE n).1*p2 (manE n).2=((manE n).1-1)*2^(manE n).2+p2 (manE n).2:=by
   unfold p2;rw[←Nat.succ_mul];congr 1;omega
  rw[e];omega
theorem init_eq (E c k:Nat) (p:Int):setR p (upF E*c)*pP (p+k)*4=c*p2 E*pQ (p+k) (setU p k (dnF E*4)):=by
 unfold setR pP pQ setU upF dnF;have e1:p2 (E-1074)*p2 1074=p2 E*p2 (1074-E):=by rw[←p2_add,←p2_add,show E-1074+1074=E+(1074-E)from by omega]
 have e2:p10 (-p).toNat*p10 (p+k).toNat=p10 p.toNat*p10 k*p10 (-(p+k)).toNat:=by rw[←p10_add,←p10_add,←p10_add,show(-p).toNat+(p+k).toNat=p.toNat+k+(-(p+k)).toNat from by omega]
 have l:p2 (E-1074)*c*p10 (-p).toNat*(p10 (p+k).toNat*p2 1074)*4=(p2 (E-1074)*p2 1074)*(p10 (-p).toNat*p10 (p+k).toNat)*(c*4):=by
  simp only[Nat.mul_assoc,Nat.mul_left_comm,Nat.mul_comm]
 rw[l,e1,e2];simp only[Nat.mul_assoc,Nat.mul_left_comm,Nat.mul_comm]
theorem key4 {x y:Nat} (h:x*4=y*4):x=y:=by omega
theorem key2 {x y:Nat} (h:x*2=y*2):x=y:=by omega
theorem Inv.init (n k:Nat) (p:Int) (hn:n≠0) (hr:setR p (upF (manE n).2*(4*(manE n).1))<setU p k (dnF (manE n).2*4)):
 Inv n 0 (p+k) (setR p (upF (manE n).2*(4*(manE n).1))) (setR p (upF (manE n).2*lowQ n)) (setR p (upF (manE n).2*2)) (setU p k (dnF (manE n).2*4)):=by
 have a:=init_eq (manE n).2 (4*(manE n).1) k p;have b:=init_eq (manE n).2 (lowQ n) k p;have c:=init_eq (manE n).2 2 k p;have hL:=gapL_eq n hn;have hH:=gapH_eq n;have hV:=manE_V n;rw[←hL]at b;rw[←hH]at c;generalize setU p k (dnF (manE n).2*4)=U at*;refine⟨?_,?_,?_,hr⟩
 all_goals
  generalize pQ (p+k) U=Q at*;generalize pP (p+k)=P at*
 ·rw[Nat.zero_mul,Nat.zero_add,hV]
  have e:4*(manE n).1*p2 (manE n).2*Q=(manE n).1*p2 (manE n).2*Q*4:=by simp only[Nat.mul_assoc,Nat.mul_left_comm,Nat.mul_comm]
  rw[e]at a;exact key4 a
 ·have e1:setR p (upF (manE n).2*lowQ n)*P*4=2*setR p (upF (manE n).2*lowQ n)*P*2:=by rw[Nat.mul_assoc 2];omega
  have e2:2*gapL n*Q=gapL n*Q*2:=by rw[Nat.mul_assoc 2];omega
  rw[e1,e2]at b;exact key2 b
 ·have e1:setR p (upF (manE n).2*2)*P*4=2*setR p (upF (manE n).2*2)*P*2:=by rw[Nat.mul_assoc 2];omega
  have e2:2*gapH n*Q=gapH n*Q*2:=by rw[Nat.mul_assoc 2];omega
  rw[e1,e2]at c;exact key2 c
theorem div_step {a u k:Nat} (h1:k*u≤a) (h2:a-k*u<u):k=a/u∧a-k*u=a % u:=by
 have hu:0<u:=by omega
 have e:a/u=k:=by
  rw[Nat.div_eq_iff hu];constructor
  ·exact h1
  ·omega
 refine⟨e.symm,?_⟩;rw[Nat.mod_def,e,Nat.mul_comm]
theorem next_any {A:Nat→Prop} {w0 w:World} {B dg:Nat} {pw:Int} {R L H U br bl bh bu:Nat} {ends:Bool} (hR:R<U) (hs2:Sm (10*L)) (hs3:Sm (10*H)) (hs4:Sm (10*U)) (hdg:dg≤100000000000000000) (hpw: -5000≤pw) (hpw2:pw≤5000) (h:St A w0 w B dg pw R L H U br bl bh bu ends):
 Calls Tryz.prog 68 #[.pointer (some ⟨B,0,none⟩)] w fun e w'=>e=.returned (.tuple #[])∧St A w0 w' B (dg*10+10*R/U) (pw-1) (10*R % U) (10*L) (10*H) U br bl bh bu ends:=by
 have HS4:=hid hs4;have HSR:=hid (Sm.mono hs4 (show R≤10*U by omega));have HSU:=hid (Sm.mono hs4 (show U≤10*U by omega));have HSRT:=hid (Sm.mono hs4 (show 10*R≤10*U by omega));have HSL:=hid (Sm.mono hs2 (show L≤10*L by omega));have HSH:=hid (Sm.mono hs3 (show H≤10*H by omega));have HH:=hid h;clear hs2 hs3 hs4 h;go_enter Tryz.func68,Tryz.ntmps68
 go_wp2_with fail
 refine(timesAll_ten HSR.out HSL.out HSH.out HH.out).mono ?_;rintro e w1 ⟨rfl,h1,hk⟩;have hc:=h1.sv.cells;have hc0:=hc.1;have hc1:=hc.2.1;have hf0:=hc.2.2.2.2.2.2.2 0;have hf1:=hc.2.2.2.2.2.2.2 1;have H1:=hid ((h1.set1 (pw-1)).set0 (dg*10));clear hc h1 hk HH;go_wp2;have hcast:(Value.int .u64 ((dg:Int)*10))=.int .u64 ((dg*10:Nat):Int):=by rw[Int.natCast_mul];rfl
 rw[hcast];generalize (w1.setCell ⟨B,1,none⟩ (.int .i64 (pw-1))).setCell ⟨B,0,none⟩ (.int .u64 ((dg*10:Nat):Int))=w2 at*;clear hc0 hc1 hf0 hf1 hcast
 go_loopg [] 10 (fun g wr=>∃k:Nat,k+g=10∧k*U≤10*R∧St A w0 wr B (dg*10+k) (pw-1) (10*R-k*U) (10*L) (10*H) U br bl bh bu ends)
 case atStart=>exact⟨0,by omega,by omega,by simpa using H1.out⟩
 case round=>
  obtain⟨k,hkg,hkU,hst⟩:=hrel;have hc:=hst.sv.cells;have hc2:=hc.2.2.1;have hc5:=hc.2.2.2.2.2.1;have HST:=hid hst;have HKU:=hid hkU;have hSm1:=hid (Sm.mono HSRT.out (show 10*R-k*U≤10*R by omega));clear hc hst
  have HK9:Hid (U≤10*R-k*U→k≤8):=by
   intro h8;have:(k+1)*U≤10*R:=by rw[Nat.add_mul];omega
   have h9:(k+1)*U<10*U:=by omega
   have:=Nat.lt_of_mul_lt_mul_right h9;omega
  clear hkU
  go_wp2_with fail
  obtain⟨r,hr1,hr2,hr3,hr4,hcq⟩:=compare_q br _ bu _ hSm1.out HSU.out HST.out.sx (sx_u HST.out.sx);have HCQ:=hid hcq;clear hcq;go_quiet ((go_at_call 120;exact Calls.quiet_of (HCQ.out _)));by_cases hge:U≤10*R-k*U
  ·have hr:0≤r:=by omega
   have hk8:=HK9.out hge;have hst2:=HST.out.drewN nq;have hc2':=hst2.sv.cells.2.2.1;have hc5':=hst2.sv.cells.2.2.2.2.2.1;have HST2:=hid hst2;clear hr1 hr2 HCQ hst2
   go_wp2_with fail
   go_region_with (go_at_call 118;refine(subtract_sa br _ bu _ hSm1.out HSU.out hge (Sx.drewN (sx_ru HST.out.sx) _)).mono ?_;rintro e w5 ⟨rfl,hx5,hk5⟩)
   all_goals
    have hst5:St A w0 w5 B (dg*10+k) (pw-1) (10*R-k*U-U) (10*L) (10*H) U br bl bh bu ends:=⟨Seven.keep (w:=wr) HST.out.sv hk5 HST.out.inA,sx_ru' hx5,HST.out.inA,HST.out.new⟩;have hc0:=hst5.sv.cells.1;have hf0:=hst5.sv.cells.2.2.2.2.2.2.2 0;have H5:=hid (hst5.set0 (dg*10+k+1));have hU2:Hid ((k+1)*U≤10*R):=by show _≤_;rw[Nat.add_mul];have:=HKU.out;omega
    have hsub:Hid (10*R-k*U-U=10*R-(k+1)*U):=by show _=_;rw[Nat.add_mul];omega
    have hkb:k≤8:=hk8;clear hst5 hx5 hk5 HST2 HST HKU HK9 hge hc2 hc5 hc2' hc5';go_wp2
    go_roundg (gk-1)
    case measure=>omega
    case rel=>
     refine⟨k+1,by omega,hU2.out,?_⟩;rw[←hsub.out];have:=H5.out;rw[show((dg*10+k+1:Nat):Int)=((dg*10+k:Nat):Int)+1 from by omega]at this;exact this
  ·have hr:r<0:=by omega
   have hst2:=HST.out.drewN nq;have hfin:=div_step HKU.out (by omega:10*R-k*U<U);have HST2:=hid hst2;have HFin:=hid hfin;clear hr1 hr2 HCQ hst2 hfin hge;go_wp2;go_end0;exact⟨rfl,by rw[←HFin.out.1,←HFin.out.2];exact HST2.out⟩
end Go.Proofs.YtmkkibaacclhnaaGreatDoor
