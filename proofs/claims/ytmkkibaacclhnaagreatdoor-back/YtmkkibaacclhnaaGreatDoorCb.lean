/-
  A step of the walk, the part named Cb. No theorem of the row.
-/
import Derived.Test.YtmkkibaacclhnaaGreatDoorBza
namespace Go.Proofs.YtmkkibaacclhnaaGreatDoor
open Go.RowKit
set_option maxRecDepth 100000
set_option maxHeartbeats 16000000
theorem take_slice (l:List UInt8) (i:Nat):(ofL l).extract 0 i=ofL (l.take i):=by
 apply ByteArray.ext;simp[ofL]
def ThreeC (w:World) (b:Nat) (x y z:Value):Prop:=w.heap[b]? =some (.cells #[x,y,z] 194 (0,0))
def TwoC (w:World) (b:Nat) (x y:Value):Prop:=w.heap[b]? =some (.cells #[x,y] 228 (0,0))
theorem ThreeC.fr {w w':World} {b:Nat} {x y z:Value} (h:ThreeC w b x y z) (hF:Fr (fun _=>False) w w'):ThreeC w' b x y z:=hF.heap h id
theorem TwoC.fr {w w':World} {b:Nat} {x y:Value} (h:TwoC w b x y) (hF:Fr (fun _=>False) w w'):TwoC w' b x y:=hF.heap h id
theorem ThreeC.new (w:World) (x y z:Value):ThreeC (w.alloc (.cells #[x,y,z] 194)) w.heap.size x y z:=heap_alloc_new w _
theorem TwoC.new (w:World) (x y:Value):TwoC (w.alloc (.cells #[x,y] 228)) w.heap.size x y:=heap_alloc_new w _
theorem ThreeC.c {w:World} {b:Nat} {x y z:Value} (h:ThreeC w b x y z):w.cell? ⟨b,0,none⟩=some x∧w.cell? ⟨b,1,none⟩=some y∧w.cell? ⟨b,2,none⟩=some z:=⟨three_cell0 h,three_cell1 h,three_cell2 h⟩
theorem TwoC.c {w:World} {b:Nat} {x y:Value} (h:TwoC w b x y):w.cell? ⟨b,0,none⟩=some x∧w.cell? ⟨b,1,none⟩=some y:=⟨two_cell0 h,two_cell1 h⟩
theorem last_par {l:List UInt8} {i c:Nat} (hA:AllD l) (hi:i-1<l.length) (h1:1≤i) (hc:num (dv (l.take i))=c):∃d:Nat,((ofL l)[i-1]'(by rw[ofL_size];exact hi)).toNat=48+d∧d≤9∧d % 2=c % 2:=by
 obtain⟨j,rfl⟩:∃j,i=j+1:=⟨i-1,by omega⟩;rw[Nat.add_sub_cancel]at hi;have hd:=hA l[j] (List.getElem_mem hi);unfold isD at hd;simp at hd;refine⟨l[j].toNat-48,?_,by omega,?_⟩
 ·show l[j].toNat=_
  omega
 ·rw[List.take_succ_eq_append_getElem hi,dv_append]at hc
  have:num (dv (l.take j)++[l[j].toNat-48])=c:=hc;rw[num_snoc]at this;omega
theorem rshort_any (m D:Nat) (pw:Int) (w:World) (hS:Short m D pw) (hm0:m≠0) (hm:m<9218868437227405312) (hpw1: -5000≤pw) (hlo:TenLe m (-342)) (hhi:¬TenLe m 682):
 Calls Tryz.prog 132 #[.int .u64 (m:Int)] w fun e w'=>e=.returned (.tuple #[.string (ofL (dgs D)),.int .i64 pw])∧Fr (fun _=>False) w w':=by
 have HM:=hid hm;have HM0:=hid hm0;have HS:=hid hS;have HFI:=hid (fun w=>first_any m w hm hlo hhi);have HPW:=hid hpw1;clear hm hm0 hS hlo hhi hpw1;go_enter Tryz.func132,Tryz.ntmps132
 go_wp2_with fail
 refine(HFI.out w).mono ?_;rintro e w1 ⟨⟨x,l,hx1,hx2,hT1,hT2,hD,rfl⟩,hF1⟩;have HR:=hid (show RefS m D pw x l from⟨HS.out,HM0.out,HPW.out,hx1,hx2,hT1,hT2,hD⟩);have hlen:l.length=17:=hD.2.1;have hsz:(ofL l).size=17:=by rw[ofL_size];exact hlen
 have HL:=hid hlen;have HF1:=hid hF1;clear HFI hT1 hT2 hD hF1 hlen;go_wp2
 go_loopw [6] (fun nv wr=>∃i:Nat,nv=.int .i64 (i:Int)∧1≤i∧i≤17∧Hid (RNone m x l i)∧Hid (Fr (fun _=>False) w wr)) (fun nv _=>17-(intOf nv).toNat)
 case atStart=>exact⟨1,rfl,by omega,by omega,hid (fun j a b=>absurd b (by omega)),HF1⟩
 case round=>
  clear HF1;obtain⟨i,rfl,hi1,hi2,hN,hF⟩:=hrel;by_cases h17:i<17
  ·have hex:=take_slice l i
   have hdg:=HR.out.dgs i hi1 hi2;rw[hdg]at hex;have hdl:(dgs (cN l i)).length=i:=by rw[←hdg,List.length_take,HL.out];omega
   have hzd:(ofL (dgs (cN l i))).size=i:=by rw[ofL_size];exact hdl
   have hnx:=hid (fun w=>rnext_any (dgs (cN l i)) w (by omega) (allD_dgs _));have HDL:=hid hdl;obtain⟨c,hc⟩:∃c,cN l i=c:=⟨_,rfl⟩;obtain⟨X,hX⟩:∃X:Int,x-16+17-(i:Int)=X:=⟨_,rfl⟩;have hXb: -400≤X∧X≤700:=by omega
   have HX:=hid (show x+1-(i:Int)=X by omega);have HC:=hid hc;rw[hc]at hex hzd hnx HDL;clear hdl hdg hc
   have hcr:c<p10 17:=by
    have:=num_lt _ (HR.out.d.1.take i).digs;rw[dv_length,List.length_take,HL.out]at this;have e:=HC.out;unfold cN at e;rw[e]at this;exact Nat.lt_of_lt_of_le this (p10_le _ _ (by omega))
   rw[p10_17]at hcr
   go_wp2_with fail
   refine(hnx.out _).mono ?_;rintro e w2 ⟨rfl,hF2⟩;rw[up_dgs]at*;have hul:(dgs (c+1)).length≤20:=dgs_len20 _ (by omega);have HUL:=hid hul;have T7:=hid ((ThreeC.new wr (.bool false) (.string (ofL (dgs c))) (.int .i64 X)).fr hF2);have HF2:=hid ((hF.out.alloc _).trans hF2);have b7:wr.heap.size<w2.heap.size:=lt_of_block T7.out;clear hF2 hnx hex hul;have q0:=fun o=>(T7.out.fr ((Fr.refl _ w2).alloc o)).c.1
   have q1:=fun o=>(T7.out.fr ((Fr.refl _ w2).alloc o)).c.2.1
   have q2:=fun o=>(T7.out.fr ((Fr.refl _ w2).alloc o)).c.2.2
   go_wp2_with fail
   refine(of_lim false (dgs c) X 2000 _ (by have:=HDL.out;omega) (allD_dgs c) (by omega) (by omega) (by have:=HDL.out;omega)).mono ?_;rintro e w3 ⟨fv,rfl,hfr,hF3⟩;rw[num_dgs]at hfr;have HFR:=hid hfr;obtain⟨va,vb,xs,ys,rfl,c1,c2,c3⟩:=hfr;obtain⟨pa,qa,rfl⟩:=big_shape c1;obtain⟨pb,qb,rfl⟩:=big_shape c2;generalize xs.length=na at*;generalize ys.length=nb at*;have T7a:=hid ((T7.out.fr ((Fr.refl _ w2).alloc _)).fr hF3);have T8a:=hid ((ThreeC.new w2 (.bool false) (.string (ofL (dgs (c+1)))) (.int .i64 X)).fr hF3);have HF3:=hid ((HF2.out.alloc _).trans hF3);clear hF3 HF2 T7 q0 q1 q2 c1 c2 c3;have q0:=fun o=>(T8a.out.fr ((Fr.refl _ w3).alloc o)).c.1
   have q1:=fun o=>(T8a.out.fr ((Fr.refl _ w3).alloc o)).c.2.1
   have q2:=fun o=>(T8a.out.fr ((Fr.refl _ w3).alloc o)).c.2.2
   go_wp2_with fail
   refine(of_lim false (dgs (c+1)) X 2000 _ (by have:=HUL.out;omega) (allD_dgs (c+1)) (by omega) (by omega) (by have:=HUL.out;omega)).mono ?_;rintro e w4 ⟨fv,rfl,hgr,hF4⟩;rw[num_dgs]at hgr;have HGR:=hid hgr;obtain⟨va,vb,xs,ys,rfl,c1,c2,c3⟩:=hgr;obtain⟨pc,qc,rfl⟩:=big_shape c1;obtain⟨pd,qd,rfl⟩:=big_shape c2;generalize xs.length=nc at*;generalize ys.length=nd at*;have T7b:=hid ((T7a.out.fr ((Fr.refl _ w3).alloc _)).fr hF4);have T8b:=hid ((T8a.out.fr ((Fr.refl _ w3).alloc _)).fr hF4);have T9b:=hid ((TwoC.new w3 (.slice pa na qa) (.slice pb nb qb)).fr hF4);have HFRb:=hid ((HFR.out.fr ((Fr.refl _ w3).alloc (.cells #[.slice pa na qa,.slice pb nb qb] 228))).fr hF4);have HF4:=hid ((HF3.out.alloc _).trans hF4);clear hF4 HF3 T7a T8a q0 q1 q2 HFR c1 c2 c3;have q0:=fun o=>(T9b.out.fr ((Fr.refl _ w4).alloc o)).c.1
   have q1:=fun o=>(T9b.out.fr ((Fr.refl _ w4).alloc o)).c.2
   go_wp2_with fail
   refine(inside_any _ _ _ 2000 m _ (by omega) HM0.out HM.out (HFRb.out.fr ((Fr.refl _ w4).alloc _))).mono ?_;rintro e w5 ⟨rfl,hF5⟩;have T7c:=hid ((T7b.out.fr ((Fr.refl _ w4).alloc _)).fr hF5);have T8c:=hid ((T8b.out.fr ((Fr.refl _ w4).alloc _)).fr hF5);have T9c:=hid ((T9b.out.fr ((Fr.refl _ w4).alloc _)).fr hF5);have T10c:=hid ((TwoC.new w4 (.slice pc nc qc) (.slice pd nd qd)).fr hF5);have HFRc:=hid ((HFRb.out.fr ((Fr.refl _ w4).alloc (.cells #[.slice pc nc qc,.slice pd nd qd] 228))).fr hF5);have HGRc:=hid ((HGR.out.fr ((Fr.refl _ w4).alloc (.cells #[.slice pc nc qc,.slice pd nd qd] 228))).fr hF5);have HF5:=hid ((HF4.out.alloc _).trans hF5);have IA:=hid (ins_iff 6000 m c X HM0.out (by omega));have IB:=hid (ins_iff 6000 m (c+1) X HM0.out (by omega));have NL:=hid (nearN_low 6000 m c X (by omega));clear hF5 HF4 T7b T8b T9b HFRb HGR q0 q1;have q0:=T10c.out.c.1;have q1:=T10c.out.c.2;generalize insV (c*p10 X.toNat) (p10 (-X).toNat) m=ia at*
   go_wp2_with fail
   refine(inside_any _ _ _ 2000 m _ (by omega) HM0.out HM.out HGRc.out).mono ?_;rintro e w6 ⟨rfl,hF6⟩;have T7d:=hid (T7c.out.fr hF6);have T8d:=hid (T8c.out.fr hF6);have T9d:=hid (T9c.out.fr hF6);have T10d:=hid (T10c.out.fr hF6);have HFRd:=hid (HFRc.out.fr hF6);have HGRd:=hid (HGRc.out.fr hF6);have HF6:=hid (HF5.out.trans hF6);clear hF6 HF5 T7c T8c T9c T10c HFRc HGRc q0 q1;have q0:=T10d.out.c.1;have q1:=T10d.out.c.2;have q2:=T9d.out.c.1;have q3:=T9d.out.c.2;generalize insV ((c+1)*p10 X.toNat) (p10 (-X).toNat) m=ib at*
   go_wp2_with fail
   refine(nearer_any _ _ _ _ _ _ 2000 m _ (by omega) HM.out HFRd.out HGRd.out).mono ?_;rintro e w7 ⟨rfl,hF7⟩;have T7e:=hid (T7d.out.fr hF7);have T8e:=hid (T8d.out.fr hF7);have HF7:=hid (HF6.out.trans hF7);clear hF7 HF6 T7d T8d T9d T10d HFRd HGRd q0 q1 q2 q3
   change Hid ((nearN m c X<0∨(nearN m c X=0∧c % 2=0))↔_)at NL
   obtain⟨nn,hnn⟩:∃nn,nearN m c X=nn:=⟨_,rfl⟩;have hnn':=hnn;unfold nearN at hnn';rw[hnn'];rw[hnn]at NL;clear hnn hnn';have hls:=last_par HR.out.d.1 (by rw[HL.out];omega) hi1 (by have:=HC.out;unfold cN at this;exact this)
   go_upto_region 13 with fail
   generalize (ofL l)[i-1].toNat=la at*;have hlp:((la:Int)-48) % 2=((c % 2:Nat):Int):=by obtain⟨d,h1,h2,h3⟩:=hls;omega
   generalize ((la:Int)-48) % 2=lp at*;have HLP:=hid hlp;clear hlp hls
   go_cut [84] (fun b wc=>b=.bool (ia&&(!ib||decide (nn<0∨(nn=0∧c % 2=0))))∧wc=w7)
   case first=>
    have hc2:c % 2=0∨c % 2=1:=by omega
    cases ia
    ·go_wp2
     go_meet;exact⟨by rw[Bool.false_and],rfl⟩
    ·cases ib
     ·go_wp2
      go_meet;exact⟨by rw[Bool.not_false,Bool.true_or,Bool.true_and],rfl⟩
     ·by_cases hn1:nn<0
      ·go_wp2
       go_meet;exact⟨by rw[decide_eq_true (.inl hn1)];rfl,rfl⟩
      ·by_cases hn0:nn=0
       ·subst hn0
        rcases hc2 with h2|h2
        ·have hq:(lp==0)=true:=by have:=HLP.out;rw[beq_iff_eq];omega
         have H2:=hid h2;clear h2;go_wp2;go_meet;exact⟨by simp[H2.out],rfl⟩
        ·have hq:(lp==0)=false:=by have:=HLP.out;rw[beq_eq_false_iff_ne];omega
         have H2:=hid h2;clear h2;go_wp2;go_meet;exact⟨by have:=H2.out;rw[decide_eq_false (by omega)];rfl,rfl⟩
       ·go_wp2
        go_meet;exact⟨by rw[decide_eq_false (by omega)];rfl,rfl⟩
   case rest=>
    obtain⟨rfl,rfl⟩:=hcut;have HE:=hid (HR.out.end i hi1 hi2 hN.out);rw[HC.out,HX.out]at HE;unfold RIn at HE;have ha:=IA.out;have hb:=IB.out;have hl:=NL.out;obtain⟨E1,E2,_⟩:=HE.out
    have HDN:=hid (show(ia&&(!ib||decide (nn<0∨(nn=0∧c % 2=0))))=true→c=D∧X=pw by
     intro hd;rw[Bool.and_eq_true,Bool.or_eq_true,Bool.not_eq_true',decide_eq_true_eq,hl]at hd;refine E1 (ha.1 hd.1) ?_;rcases hd.2 with h|h
     ·left;rw[←hb,h];exact Bool.false_ne_true
     ·exact .inr h)
    have HUP:=hid (show(ia&&(!ib||decide (nn<0∨(nn=0∧c % 2=0))))=false→ib=true→(c+1=D∧X=pw)∨(c=9∧D=1∧pw=X+1) by
     intro hd hbt
     have hh:¬InV (p10 6000*V m) (p10 6000*gapL m) (p10 6000*gapH m) (m % 2=0) (c*TK 6000 X)∨¬LowV (p10 6000*V m) c (TK 6000 X):=by
      rw[hbt,Bool.and_eq_false_iff]at hd;rcases hd with h|h
      ·left;rw[←ha,h];exact Bool.false_ne_true
      ·right
       rw[Bool.not_true,Bool.false_or,decide_eq_false_iff_not,hl]at h;exact h
     rcases E2 (hb.1 hbt) hh with h|⟨h1,h2,h3,h4⟩
     ·exact .inl h
     ·right
      refine⟨h2,h3,?_⟩;have:=HX.out
      omega)
    have HNO:=hid (show ia=false→ib=false→RNone m x l (i+1) by
     intro h1 h2 j hj1 hj2;by_cases e:j=i
     ·subst e
      rw[HC.out,HX.out];unfold RIn;rw[←ha,←hb,h1,h2];exact⟨Bool.false_ne_true,Bool.false_ne_true⟩
     ·exact hN.out j hj1 (by omega))
    have HIA:=hid (show(ia&&(!ib||decide (nn<0∨(nn=0∧c % 2=0))))=false→ib=false→ia=false by
     intro h1 h2;rw[h2]at h1
     simpa using h1)
    clear ha hb hl E1 E2 IA IB NL HE HLP;have q0:=T7e.out.c.1;have q1:=T7e.out.c.2.1;have q2:=T7e.out.c.2.2;have r0:=T8e.out.c.1;have r1:=T8e.out.c.2.1;have r2:=T8e.out.c.2.2;generalize (ia&&(!ib||decide (nn<0∨(nn=0∧c % 2=0))))=dn at*;cases dn
    ·cases ib
     ·have HZ:=hid (HNO.out (HIA.out rfl rfl) rfl)
      go_wp2;go_roundw
      case rel=>exact⟨i+1,by go_num,by omega,by omega,HZ,HF7⟩
      case measure=>simp[intOf];omega
     ·have HU:=hid (HUP.out rfl rfl)
      clear HUP HDN HNO HIA
      go_wp2_with fail
      refine(lean_any false (dgs (c+1)) X _ (by have:=HUL.out;omega) (by omega) (by omega)).mono ?_;rintro e w8 ⟨rfl,hF8⟩;have HF8:=hid ((HF7.out.trans hF8).alloc (.cells #[.bool false,.string (ofL (strip (drop0 (dgs (c+1))))),.int .i64 (X+((drop0 (dgs (c+1))).length:Int)-((strip (drop0 (dgs (c+1)))).length:Int))] 194))
      have hres:strip (drop0 (dgs (c+1)))=dgs D∧X+((drop0 (dgs (c+1))).length:Int)-((strip (drop0 (dgs (c+1)))).length:Int)=pw:=by
       rcases HU.out with⟨h1,h2⟩|⟨h1,h2,h3⟩
       ·obtain⟨a1,a2⟩:=lean_dgs (HR.out.s.last HM0.out)
        rw[h1,a1,a2];exact⟨rfl,by omega⟩
       ·obtain⟨a1,a2⟩:=lean_ten
        rw[h1,h2,a1,a2,show(dgs 1).length=1 from dgs_len1 1 (by omega)];exact⟨rfl,by omega⟩
      rw[hres.1]at HF8 ⊢;rw[hres.1]at hres;rw[hres.2]at HF8 ⊢;clear hF8 hres q0 q1 q2 r0 r1 r2;go_wp2;go_region
      all_goals
       go_wp2;go_ret2;exact⟨rfl,by first|exact HF8.out|exact HF8.out.drew⟩
    ·have HU:=hid (HDN.out rfl)
     clear HUP HDN HNO HIA
     go_wp2_with fail
     refine(lean_any false (dgs c) X _ (by have:=HDL.out;omega) (by omega) (by omega)).mono ?_;rintro e w8 ⟨rfl,hF8⟩;have HF8:=hid ((HF7.out.trans hF8).alloc (.cells #[.bool false,.string (ofL (strip (drop0 (dgs c)))),.int .i64 (X+((drop0 (dgs c)).length:Int)-((strip (drop0 (dgs c))).length:Int))] 194))
     have hres:strip (drop0 (dgs c))=dgs D∧X+((drop0 (dgs c)).length:Int)-((strip (drop0 (dgs c))).length:Int)=pw:=by
      obtain⟨h1,h2⟩:=HU.out;obtain⟨a1,a2⟩:=lean_dgs (HR.out.s.last HM0.out);rw[h1,a1,a2];exact⟨rfl,by omega⟩
     rw[hres.1]at HF8 ⊢;rw[hres.1]at hres;rw[hres.2]at HF8 ⊢;clear hF8 hres q0 q1 q2 r0 r1 r2;go_wp2;go_region
     all_goals
      go_wp2;go_ret2;exact⟨rfl,by first|exact HF8.out|exact HF8.out.drew⟩
  ·obtain rfl:i=17:=by omega
   obtain⟨c,hc⟩:∃c,cN l 17=c:=⟨_,rfl⟩;have hdg:=HR.out.dgs 17 (by omega) (by omega);have ht:l.take 17=l:=List.take_of_length_le (by rw[HL.out];omega);rw[ht,hc]at hdg;have HE:=hid ((HR.out.end 17 (by omega) (by omega) hN.out).2.2 rfl);rw[hc]at HE;have hls:=last_par HR.out.d.1 (i:=17) (by rw[HL.out];omega) (by omega) (show _=c from hc)
   have hcr:c<p10 17:=by
    have:=num_lt _ HR.out.d.1.digs;rw[dv_length,HL.out]at this;rw[←hc,cN,ht];exact this
   rw[p10_17]at hcr;have hul:(dgs (c+1)).length≤20:=dgs_len20 _ (by omega);obtain⟨Y,hY⟩:∃Y:Int,x-16=Y:=⟨_,rfl⟩;have hYb: -400≤Y∧Y≤700:=by omega
   have hnx:=hid (fun w=>rnext_any (dgs c) w (by rw[←hdg,HL.out];omega) (allD_dgs _));have HDL:=hid (show(dgs c).length=17 by rw[←hdg];exact HL.out);have HUL:=hid hul;rw[hY]at HE ⊢;clear hY ht hc hul h17;subst hdg
   go_wp2_with fail
   refine(hnx.out _).mono ?_;rintro e w2 ⟨rfl,hF2⟩;rw[up_dgs]at*;have T7:=hid ((ThreeC.new wr (.bool false) (.string (ofL (dgs c))) (.int .i64 Y)).fr hF2);have HF2:=hid ((hF.out.alloc _).trans hF2);clear hF2 hnx
   go_wp2_with fail
   have N7:=hid (T7.out.fr ((Fr.refl _ w2).alloc (.cells #[.bool false,.string (ofL (dgs (c+1))),.int .i64 Y] 194)));have N8:=hid (ThreeC.new w2 (.bool false) (.string (ofL (dgs (c+1)))) (.int .i64 Y));have NF:=hid (HF2.out.alloc (.cells #[.bool false,.string (ofL (dgs (c+1))),.int .i64 Y] 194));clear T7 HF2;generalize w2.alloc (.cells #[.bool false,.string (ofL (dgs (c+1))),.int .i64 Y] 194)=W0 at*;have HX:=hid (fun wx=>of_lim false (dgs c) Y 2000 wx (by have:=HDL.out;omega) (allD_dgs c) (by omega) (by omega) (by have:=HDL.out;omega));have HY:=hid (fun wx=>of_lim false (dgs (c+1)) Y 2000 wx (by have:=HUL.out;omega) (allD_dgs (c+1)) (by omega) (by omega) (by have:=HUL.out;omega));have c70:=N7.out.c.1;have c71:=N7.out.c.2.1;have c72:=N7.out.c.2.2;have c80:=N8.out.c.1;have c81:=N8.out.c.2.1;have c82:=N8.out.c.2.2
   go_cut [19] (fun nv wc=>nv=.int .i64 (nearN m c Y)∧Hid (ThreeC wc wr.heap.size (.bool false) (.string (ofL (dgs c))) (.int .i64 Y))∧Hid (ThreeC wc w2.heap.size (.bool false) (.string (ofL (dgs (c+1)))) (.int .i64 Y))∧Hid (Fr (fun _=>False) w wc))
   case first=>
    have N7c:=hid (N7.out.fr ((Fr.refl (fun _=>False) W0).drew));have N8c:=hid (N8.out.fr ((Fr.refl (fun _=>False) W0).drew));have NFc:=hid (NF.out.trans ((Fr.refl (fun _=>False) W0).drew))
    go_region_held3 (fun w'=>w'.cell? ⟨wr.heap.size,0,none⟩=some (.bool false)∧w'.cell? ⟨wr.heap.size,1,none⟩=some (.string (ofL (dgs c)))∧w'.cell? ⟨wr.heap.size,2,none⟩=some (.int .i64 Y)∧w'.cell? ⟨w2.heap.size,0,none⟩=some (.bool false)∧w'.cell? ⟨w2.heap.size,1,none⟩=some (.string (ofL (dgs (c+1))))∧w'.cell? ⟨w2.heap.size,2,none⟩=some (.int .i64 Y)) (first|go_keep|exact⟨N7c.out.c.1,N7c.out.c.2.1,N7c.out.c.2.2,N8c.out.c.1,N8c.out.c.2.1,N8c.out.c.2.2⟩) (first
     |(go_at_call_of 178 (Value.agg #[.bool false,.string (ofL (dgs c)),.int .i64 Y]);refine Calls.mono (HX.out _) ?_;rintro r wX ⟨vX,rfl,x1,x4⟩;rw[num_dgs]at x1;have X1:=hid x1;have M7:=hid (N7c.out.fr x4);have M8:=hid (N8c.out.fr x4);have MF:=hid (NFc.out.trans x4);clear N7c N8c NFc;have N7c:=M7;have N8c:=M8;have NFc:=MF;clear M7 M8 MF;have nxa:=N7c.out.c.1;have nxb:=N7c.out.c.2.1;have nxc:=N7c.out.c.2.2;have nxd:=N8c.out.c.1;have nxe:=N8c.out.c.2.1;have nxf:=N8c.out.c.2.2;clear x1 x4)
     |(go_at_call 178;refine Calls.mono (HY.out _) ?_;rintro r wY ⟨vY,rfl,y1,y4⟩;rw[num_dgs]at y1;have Y1:=hid y1;have X2:=hid (X1.out.fr y4);have M7:=hid (N7c.out.fr y4);have M8:=hid (N8c.out.fr y4);have MF:=hid (NFc.out.trans y4);clear N7c N8c NFc;have N7c:=M7;have N8c:=M8;have NFc:=MF;clear M7 M8 MF;have nya:=N7c.out.c.1;have nyb:=N7c.out.c.2.1;have nyc:=N7c.out.c.2.2;have nyd:=N8c.out.c.1;have nye:=N8c.out.c.2.1;have nyf:=N8c.out.c.2.2;clear y1 y4)
     |(go_at_call 180;refine Calls.mono (nearer_any _ _ _ _ _ _ 2000 m _ (by omega) HM.out X2.out Y1.out) ?_;rintro r wZ ⟨rfl,z4⟩;have M7:=hid (N7c.out.fr z4);have M8:=hid (N8c.out.fr z4);have MF:=hid (NFc.out.trans z4);clear N7c N8c NFc;have N7c:=M7;have N8c:=M8;have NFc:=MF;clear M7 M8 MF;have nza:=N7c.out.c.1;have nzb:=N7c.out.c.2.1;have nzc:=N7c.out.c.2.2;have nzd:=N8c.out.c.1;have nze:=N8c.out.c.2.1;have nzf:=N8c.out.c.2.2;clear z4))
    all_goals
     go_wp2;go_meet;exact⟨rfl,N7c,N8c,NFc⟩
   case rest=>
    obtain⟨rfl,hN7,hN8,hNF⟩:=hcut;clear N7 N8 NF HX HY c70 c71 c72 c80 c81 c82;have NL:=hid (nearN_low 6000 m c Y (by omega));generalize nearN m c Y=nn at*;have q0:=hN7.out.c.1;have q1:=hN7.out.c.2.1;have q2:=hN7.out.c.2.2;have r0:=hN8.out.c.1;have r1:=hN8.out.c.2.1;have r2:=hN8.out.c.2.2
    go_upto_region 24 with fail
    generalize (ofL (dgs c))[16].toNat=la at*;have hlp:((la:Int)-48) % 256 % 2=((c % 2:Nat):Int):=by obtain⟨d,h1,h2,h3⟩:=hls;omega
    generalize ((la:Int)-48) % 256 % 2=lp at*;have HLP:=hid hlp;clear hlp hls;have B7:wr.heap.size<wc.heap.size:=lt_of_block hN7.out;have B21w:w.heap.size≤wc.heap.size:=hNF.out.size;have B8:w2.heap.size<wc.heap.size:=lt_of_block hN8.out;have P7:=hid (hN7.out.fr ((Fr.refl _ wc).alloc (.cells #[.bool false,.string (ofL (dgs (c+1))),.int .i64 Y] 194)));have P21:=hid (ThreeC.new wc (.bool false) (.string (ofL (dgs (c+1)))) (.int .i64 Y));have PF:=hid (hNF.out.alloc (.cells #[.bool false,.string (ofL (dgs (c+1))),.int .i64 Y] 194));clear hN7 hN8 hNF q0 q1 q2 r0 r1 r2;generalize wc.alloc (.cells #[.bool false,.string (ofL (dgs (c+1))),.int .i64 Y] 194)=W1 at*;generalize wc.heap.size=B21 at*
    go_cut [125] (fun b wd=>b=.bool (decide (nn<0∨(nn=0∧c % 2=0)))∧wd=W1)
    case first=>
     have hc2:c % 2=0∨c % 2=1:=by omega
     by_cases hn1:nn<0
     ·go_wp2
      go_meet;exact⟨by rw[decide_eq_true (.inl hn1)],rfl⟩
     ·by_cases hn0:nn=0
      ·subst hn0
       rcases hc2 with h2|h2
       ·have hq:(lp==0)=true:=by have:=HLP.out;rw[beq_iff_eq];omega
        have H2:=hid h2;clear h2;go_wp2;go_meet;exact⟨by simp[H2.out],rfl⟩
       ·have hq:(lp==0)=false:=by have:=HLP.out;rw[beq_eq_false_iff_ne];omega
        have H2:=hid h2;clear h2;go_wp2;go_meet;exact⟨by have:=H2.out;rw[decide_eq_false (by omega)],rfl⟩
      ·go_wp2
       go_meet;exact⟨by rw[decide_eq_false (by omega)],rfl⟩
    case rest=>
     obtain⟨rfl,rfl⟩:=hcut
     have HDN:=hid (show decide (nn<0∨(nn=0∧c % 2=0))=true→c=D∧Y=pw by
      rw[decide_eq_true_eq,NL.out];exact HE.out.1)
     have HUP:=hid (show decide (nn<0∨(nn=0∧c % 2=0))=false→c+1=D∧Y=pw by
      rw[decide_eq_false_iff_not,NL.out];exact HE.out.2)
     generalize decide (nn<0∨(nn=0∧c % 2=0))=dn at*;clear HE NL HLP;have q0:=P7.out.c.1;have q1:=P7.out.c.2.1;have q2:=P7.out.c.2.2;have r0:=P21.out.c.1;have r1:=P21.out.c.2.1;have r2:=P21.out.c.2.2;have f0:=three_free (j:=0) P21.out;have f1:=three_free (j:=1) P21.out;have f2:=three_free (j:=2) P21.out;cases dn
     ·have HU:=hid (HUP.out rfl)
      clear HUP HDN
      go_wp2_with fail
      refine(lean_any false (dgs (c+1)) Y _ (by have:=HUL.out;omega) (by omega) (by omega)).mono ?_;rintro e w8 ⟨rfl,hF8⟩
      have hres:strip (drop0 (dgs (c+1)))=dgs D∧Y+((drop0 (dgs (c+1))).length:Int)-((strip (drop0 (dgs (c+1)))).length:Int)=pw:=by
       obtain⟨h1,h2⟩:=HU.out;obtain⟨a1,a2⟩:=lean_dgs (HR.out.s.last HM0.out);rw[h1,a1,a2];exact⟨rfl,by omega⟩
      rw[hres.2,hres.1];have R21:=hid (P21.out.fr hF8);have RF:=hid (PF.out.trans hF8);clear hF8 hres q0 q1 q2 r0 r1 r2 f0 f1 f2;have r0:=R21.out.c.1;have r1:=R21.out.c.2.1;have r2:=R21.out.c.2.2;have f0:=three_free (j:=0) R21.out;have f1:=three_free (j:=1) R21.out;have f2:=three_free (j:=2) R21.out;go_wp2;go_region
      all_goals
       go_wp2;go_ret2;refine⟨rfl,?_⟩
       first
        |exact(((RF.out.setCell (p:=⟨B21,0,none⟩) (.inr B21w) _).setCell (p:=⟨B21,1,none⟩) (.inr B21w) _).setCell (p:=⟨B21,2,none⟩) (.inr B21w) _).drew
        |exact((RF.out.setCell (p:=⟨B21,0,none⟩) (.inr B21w) _).setCell (p:=⟨B21,1,none⟩) (.inr B21w) _).setCell (p:=⟨B21,2,none⟩) (.inr B21w) _
     ·have HU:=hid (HDN.out rfl)
      clear HUP HDN;have S21:=hid (show ThreeC (((wc.setCell ⟨B21,0,none⟩ (.bool false)).setCell ⟨B21,1,none⟩ (.string (ofL (dgs c)))).setCell ⟨B21,2,none⟩ (.int .i64 Y)) B21 (.bool false) (.string (ofL (dgs c))) (.int .i64 Y)from three_set2 (three_set1 (three_set0 P21.out)));have SF:=hid (((PF.out.setCell (p:=⟨B21,0,none⟩) (.inr B21w) (.bool false)).setCell (p:=⟨B21,1,none⟩) (.inr B21w) (.string (ofL (dgs c)))).setCell (p:=⟨B21,2,none⟩) (.inr B21w) (.int .i64 Y))
      go_wp2_with fail
      refine(lean_any false (dgs c) Y _ (by have:=HDL.out;omega) (by omega) (by omega)).mono ?_;rintro e w8 ⟨rfl,hF8⟩
      have hres:strip (drop0 (dgs c))=dgs D∧Y+((drop0 (dgs c)).length:Int)-((strip (drop0 (dgs c))).length:Int)=pw:=by
       obtain⟨h1,h2⟩:=HU.out;obtain⟨a1,a2⟩:=lean_dgs (HR.out.s.last HM0.out);rw[h1,a1,a2];exact⟨rfl,by omega⟩
      rw[hres.2,hres.1];have R21:=hid (S21.out.fr hF8);have RF:=hid (SF.out.trans hF8);clear hF8 hres q0 q1 q2 r0 r1 r2 f0 f1 f2;have r0:=R21.out.c.1;have r1:=R21.out.c.2.1;have r2:=R21.out.c.2.2;have f0:=three_free (j:=0) R21.out;have f1:=three_free (j:=1) R21.out;have f2:=three_free (j:=2) R21.out;go_wp2;go_region
      all_goals
       go_wp2;go_ret2;refine⟨rfl,?_⟩
       first
        |exact(((RF.out.setCell (p:=⟨B21,0,none⟩) (.inr B21w) _).setCell (p:=⟨B21,1,none⟩) (.inr B21w) _).setCell (p:=⟨B21,2,none⟩) (.inr B21w) _).drew
        |exact((RF.out.setCell (p:=⟨B21,0,none⟩) (.inr B21w) _).setCell (p:=⟨B21,1,none⟩) (.inr B21w) _).setCell (p:=⟨B21,2,none⟩) (.inr B21w) _
end Go.Proofs.YtmkkibaacclhnaaGreatDoor
