/-
  A step of the walk, the part named Vr. No theorem of the row.
-/
import Derived.Test.YtmkkibaacclhnaaGreatDoorVq
import Derived.Test.YtmkkibaacclhnaaGreatDoorWy
namespace Go.Proofs.YtmkkibaacclhnaaGreatDoor
open Go.RowKit
set_option maxRecDepth 100000
set_option maxHeartbeats 16000000
theorem WPost.keepR {B:Nat} {w w':World} {vi vb:Value} {nx ind:Int} {so:Bool} {op:Nat} {ad vo V:Value} {bs bs':List UInt8} {n:Nat} {xs:List Value} (h:WPost B w vi vb nx ind so op vo bs' w') (hW:WAt B w vi vb nx ind so op ad vo bs) (hI:w.ownsRow 0 3 1 V n xs):w'.ownsRow 0 3 1 V n xs:=by
 obtain⟨vo',h1,h2,h3⟩:=h;refine rowFr hI h2 (fun i hi=>?_);rintro(h|h)
 ·subst h
  exact rowT hI hW.blk (by decide) hi
 ·rcases hI.2 with⟨q,_⟩|⟨g,cap,cur,hv,_,hg,_⟩
  ·rw[q]at hi;cases hi
  ·rw[hv]at hi
   have hgi:g=i:=by simpa[Value.ownBlock]using hi
   subst hgi;exact rowT hW.row hg (by decide) h
structure WS (w wr:World) (B g ig cap:Nat) (its:List Im) (beh:List Nat) (nx ind:Int) (so:Bool) (op:Nat) (vo0 vo:Value) (bs:List UInt8):Prop where
 pin:PIn wr B g ig cap its beh nx ind so op (.pointer (some ⟨B,6,none⟩)) vo bs
 fr:Fr (fun i=>i=B∨vo0.ownBlock=some i) w wr
 nw:∀k,vo.ownBlock=some k→vo0.ownBlock=some k∨w.heap.size≤k
section
variable {w wr w2:World} {B g ig cap:Nat} {its:List Im} {beh:List Nat} {nx ind:Int} {so:Bool} {op:Nat} {ad vo0 vo:Value} {bs bs2:List UInt8}
theorem WS.post (h:WS w wr B g ig cap its beh nx ind so op vo0 vo bs):WPost B w (.slice (some ⟨ig,0,none⟩) its.length cap) (.slice (some ⟨g,0,none⟩) its.length its.length) nx ind so op vo0 bs wr:=⟨vo,h.pin.wat,h.fr,h.nw⟩
theorem PIn.step (h:PIn w B g ig cap its beh nx ind so op ad vo bs) (k:WPost B w (.slice (some ⟨ig,0,none⟩) its.length cap) (.slice (some ⟨g,0,none⟩) its.length its.length) nx ind so op vo bs2 w2):∃vo2,WS w w2 B g ig cap its beh nx ind so op vo vo2 bs2:=by
 have hI:=k.keepI h.wat h.items;have hR:=k.keepR h.wat h.row;obtain⟨vo2,h1,h2,h3⟩:=k;exact⟨vo2,⟨h1,hI,hR,h.beh⟩,h2,h3⟩
theorem WS.step (h:WS w wr B g ig cap its beh nx ind so op vo0 vo bs) (k:WPost B wr (.slice (some ⟨ig,0,none⟩) its.length cap) (.slice (some ⟨g,0,none⟩) its.length its.length) nx ind so op vo bs2 w2):∃vo2,WS w w2 B g ig cap its beh nx ind so op vo0 vo2 bs2:=by
 have hI:=k.keepI h.pin.wat h.pin.items;have hR:=k.keepR h.pin.wat h.pin.row;obtain⟨vo2,h1,h2,h3⟩:=WPost.trans h.fr h.nw k;exact⟨vo2,⟨h1,hI,hR,h.pin.beh⟩,h2,h3⟩
theorem WS.same (h:WS w wr B g ig cap its beh nx ind so op vo0 vo bs) (hf:Fr (fun _=>False) wr w2):WS w w2 B g ig cap its beh nx ind so op vo0 vo bs:=⟨h.pin.fr hf,h.fr.trans (hf.mono (fun _=>False.elim)),h.nw⟩
theorem PIn.ws (h:PIn w B g ig cap its beh nx ind so op (.pointer (some ⟨B,6,none⟩)) vo bs):WS w w B g ig cap its beh nx ind so op vo vo bs:=⟨h,Fr.refl _ _,fun _ hk=>.inl hk⟩
theorem PIn.setOp (h:PIn wr B g ig cap its beh nx ind so op ad vo bs) (k:Nat):PIn (wr.setCell ⟨B,5,none⟩ (.int .i64 (k:Int))) B g ig cap its beh nx ind so k ad vo bs:=by
 refine⟨⟨heap_setCell_same wr B 5 _ 69 _ h.wat.blk,h.wat.adr,rowSetOther h.wat.row (rowT h.wat.row h.wat.blk (by decide)) _⟩,rowSetOther h.items (rowT h.items h.wat.blk (by decide)) _,rowSetOther h.row (rowT h.row h.wat.blk (by decide)) _,h.beh⟩
theorem WS.setOp (h:WS w wr B g ig cap its beh nx ind so op vo0 vo bs) (k:Nat):WS w (wr.setCell ⟨B,5,none⟩ (.int .i64 (k:Int))) B g ig cap its beh nx ind so k vo0 vo bs:=
 ⟨h.pin.setOp k,h.fr.setCell (p:=⟨B,5,none⟩) (.inl (.inl rfl)) _,h.nw⟩
theorem WS.rowOp (h:WS w wr B g ig cap its beh nx ind so op vo0 vo bs) {V:Value} {n:Nat} {xs:List Value} (hR:wr.ownsRow 0 3 1 V n xs) (u:Value):(wr.setCell ⟨B,5,none⟩ u).ownsRow 0 3 1 V n xs:=rowSetOther hR (rowT hR h.pin.wat.blk (by decide)) u
end
def WriteOk (d:Nat):Prop:=∀(w:World) (B g ig cap:Nat) (its:List Im) (beh:List Nat) (nx ind:Int) (so:Bool) (op:Nat) (ad vo:Value) (bs:List UInt8) (p:Nat),PIn w B g ig cap its beh nx ind so op ad vo bs→op+d=1000→ -1≤ind→ind≤16→its.length≤10000000→(∀x,x∈its→x.s.length≤100000000)→Bok its→sizeD d (its.drop p)≠0→bs.length+(wrD ind so d (its.drop p)).length≤90000000000→
 Calls Tryz.prog 26 #[.pointer (some ⟨B,0,none⟩),.int .i64 (p:Int)] w fun e w'=>e=.returned (.tuple #[])∧WPost B w (.slice (some ⟨ig,0,none⟩) its.length cap) (.slice (some ⟨g,0,none⟩) its.length its.length) nx ind so op vo (bs++wrD ind so d (its.drop p)) w'
theorem joinGo_cons (ind:Int) (inn:Nat) (f:Bool) (t:List UInt8) (ts:List (List UInt8)):joinGo ind inn f (t::ts)=(if f=true then[]else[44])++lineL ind inn++t++joinGo ind inn false ts:=rfl
theorem writeParts_arr (d:Nat) (IH:WriteOk d) (w:World) (B g ig cap:Nat) (its:List Im) (beh:List Nat) (nx ind:Int) (so:Bool) (op:Nat) (vo:Value) (bs:List UInt8) (p N b:Nat) (s:List UInt8) (L:List Nat) (h:PIn w B g ig cap its beh nx ind so op (.pointer (some ⟨B,6,none⟩)) vo bs) (hop:op+(d+1)=1000) (hi1: -1≤ind) (hi2:ind≤16) (hl:its.length≤10000000) (hs:∀x,x∈its→x.s.length≤100000000) (hb:Bok its) (hx:its[p]? =some ⟨5,(N:Int),b,s⟩) (hN0:N≠0) (hN:N≤its.length)
 (hL:∀y,y∈L→PartOk d its false y) (hLn:L.length=N) (HPT:Calls Tryz.prog 73 #[.pointer (some ⟨B,0,none⟩),.int .i64 (p:Int)] w (PlPost w N L))
 (hlen:bs.length+(joinGo ind (op+1) true (L.map (fun y=>(partT d ind so its false y).2))++lineL ind op).length≤90000000000):
 Calls Tryz.prog 45 #[.pointer (some ⟨B,0,none⟩),.int .i64 (p:Int)] w fun e w'=>e=.returned (.tuple #[])∧WPost B w (.slice (some ⟨ig,0,none⟩) its.length cap) (.slice (some ⟨g,0,none⟩) its.length its.length) nx ind so op vo (bs++(joinGo ind (op+1) true (L.map (fun y=>(partT d ind so its false y).2))++lineL ind op)) w':=by
 obtain⟨TOT,hTOT⟩:∃TOT,bs++joinGo ind (op+1) true (L.map (fun y=>(partT d ind so its false y).2))=TOT:=⟨_,rfl⟩;have hTl:TOT.length+(lineL ind op).length≤90000000000:=by rw[←hTOT];simp only[List.length_append]at hlen ⊢;omega
 rw[←List.append_assoc,hTOT];have hp:p<its.length:=(List.getElem?_eq_some_iff.1 hx).1;have HPX:=hid hx;have H:=hid h;have HT0:=hid (show bs++joinGo ind (op+1) (decide (0=0)) ((L.drop 0).map (fun y=>(partT d ind so its false y).2))=TOT from hTOT);have HL:=hid hL;have HP:=hid HPT;have HBO:=hid hb;have HSL:=hid hs;have HIH:=hid IH;clear h hx hL HPT hb hs IH hTOT hlen;have hNz:((N:Int)==0)=false:=beq_eq_false_iff_ne.2 (by omega);have HLEN:=hid hLn;have HTL:=hid hTl;clear hLn hTl;go_enter Tryz.func45,Tryz.ntmps45
 go_wp2_with fail
 refine Calls.mono HP.out ?_;rintro e w1 ⟨hh,rfl,hF1,hhw,hrow⟩;have hpin1:=H.out.fr hF1;have HWS1:=hid (H.out.ws.same hF1);have HROW1:=hid hrow;have HHH:=hid hhw;obtain⟨-,-,-,c5,cf⟩:=hpin1.wcells;have HW2:=hid (show WS w (w1.setCell ⟨B,5,none⟩ (.int .i64 ((op:Int)+1))) B g ig cap its beh nx ind so (op+1) vo vo bs from HWS1.out.setOp (op+1));have HROW2:=hid (HWS1.out.rowOp hrow (.int .i64 ((op:Int)+1)));clear hF1 hhw hrow hpin1;go_wp2
 go_loopw [22] (fun iv wr=>∃(i:Nat) (vo1:Value) (cur:List UInt8),iv=.int .i64 (i:Int)∧i≤N∧Hid (WS w wr B g ig cap its beh nx ind so (op+1) vo vo1 cur)∧Hid (wr.ownsRow 0 3 1 (.slice (some ⟨hh,0,none⟩) N N) N (L.map encN))∧Hid (cur++joinGo ind (op+1) (decide (i=0)) ((L.drop i).map (fun y=>(partT d ind so its false y).2))=TOT)) (fun iv _=>N-(intOf iv).toNat)
 case atStart=>exact⟨0,vo,bs,rfl,Nat.zero_le _,HW2,HROW2,HT0⟩
 case round=>
  clear HT0 HW2 HROW2 c5 cf HWS1 HROW1;obtain⟨i,vo1,cur,rfl,hiN,hWS,hR,hT⟩:=hrel;by_cases hi:i<N
  ·have hz:(i:Int)<(N:Int):=by omega
   have hiL:i<L.length:=by rw[HLEN.out];exact hi
   obtain⟨q,hq⟩:∃q,L[i]=q:=⟨_,rfl⟩;have hqm:q∈L:=hq▸List.getElem_mem hiL;have r0:=rowCell hR.out i (.int .i64 (q:Int)) (by rw[List.getElem?_map,List.getElem?_eq_getElem hiL,hq];rfl);have hdr:L.drop i=q::L.drop (i+1):=by rw[List.drop_eq_getElem_cons hiL,hq]
   have hT1:=hT.out;rw[hdr,List.map_cons,joinGo_cons]at hT1;have hpo:=HL.out q hqm;have HPO:=hid hpo;have hxz:sizeD d (its.drop q)≠0:=by simpa[PartOk]using hpo
   have ht:(partT d ind so its false q).2=wrD ind so d (its.drop q):=rfl;rw[ht]at hT1;have HT2:=hid hT1;clear hT hT1 hdr hqm hpo hq;have hlenT:=HTL.out;rw[←HT2.out]at hlenT;simp only[List.length_append]at hlenT;have HLT:=hid hlenT;by_cases hiz:i=0
   ·have hi0:¬(0:Int)<(i:Int):=by omega
    have hdi:decide (i=0)=true:=decide_eq_true hiz;rw[hdi]at HT2 HLT;simp only[if_true]at HT2;simp only[if_true,List.length_nil]at HLT;clear hdi hiz;have HWX:=hid hWS.out;have HRX:=hid hR.out;clear hWS hR
    go_wp2_with fail
    have HNL:=hid (newLine_any B _ _ _ nx ind so (op+1) _ _ HWX.out.pin.wat hi1 hi2 (by omega) (by have:=HLT.out;omega));refine Calls.mono HNL.out ?_;rintro e w3 ⟨rfl,hP3⟩;have hR3:=hP3.keepR HWX.out.pin.wat HRX.out;obtain⟨vo3,hw3⟩:=HWX.out.step hP3;have HW3:=hid hw3;have HR3:=hid hR3;obtain⟨b0,b1,-,-,-⟩:=hw3.pin.wcells;obtain⟨x0,-,-,-⟩:=hw3.pin.cells HPX.out;clear hP3 hR3 hw3 HNL HWX HRX;simp only at x0;have hpz:(p:Int)<(its.length:Int):=by omega
    go_wp2_with fail
    have HWR:=hid (HIH.out w3 B g ig cap its beh nx ind so (op+1) _ vo3 _ (q) HW3.out.pin (by omega) hi1 hi2 hl HSL.out HBO.out hxz (by have:=HLT.out;simp only[List.length_append];omega))
    (try simp only[Int.natCast_add,Int.cast_ofNat_Int]at HWR)
    refine Calls.mono HWR.out ?_;rintro e w5 ⟨rfl,hP5⟩;have hR5:=hP5.keepR HW3.out.pin.wat HR3.out;obtain⟨vo5,hw5⟩:=HW3.out.step hP5;have HW5:=hid hw5;have HR5:=hid hR5;clear hP5 hR5 hw5 HWR HW3 HR3;go_wp2;go_roundw
    case rel=>
     refine⟨i+1,vo5,_,by simp,by omega,HW5,HR5,hid ?_⟩;have hf:decide (i+1=0)=false:=decide_eq_false (by omega);rw[hf,←HT2.out];simp only[List.append_assoc,List.nil_append]
    case measure=>simp only[intOf];omega
   ·have hi0:(0:Int)<(i:Int):=by omega
    have hdi:decide (i=0)=false:=decide_eq_false hiz;rw[hdi]at HT2 HLT;simp only[Bool.false_eq_true,if_false]at HT2;simp only[Bool.false_eq_true,if_false,List.length_singleton]at HLT;clear hdi hiz;have HCB:=hid (show Calls Tryz.prog 44 #[.pointer (some ⟨B,6,none⟩),.int .u8 44] wr _ from writeByte_any B wr _ _ nx ind so (op+1) _ vo1 cur 44 hWS.out.pin.wat (by have:=HLT.out;omega))
    go_wp2_with fail
    refine Calls.mono HCB.out ?_;rintro e w2 ⟨rfl,hP2⟩;have hR2:=hP2.keepR hWS.out.pin.wat hR.out;obtain⟨vo2,hw2⟩:=hWS.out.step hP2;have HWX:=hid hw2;have HRX:=hid hR2;clear hP2 hR2 hw2 HCB hWS hR r0
    go_wp2_with fail
    have HNL:=hid (newLine_any B _ _ _ nx ind so (op+1) _ _ HWX.out.pin.wat hi1 hi2 (by omega) (by have:=HLT.out;simp only[List.length_append,List.length_singleton];omega));refine Calls.mono HNL.out ?_;rintro e w3 ⟨rfl,hP3⟩;have hR3:=hP3.keepR HWX.out.pin.wat HRX.out;obtain⟨vo3,hw3⟩:=HWX.out.step hP3;have HW3:=hid hw3;have HR3:=hid hR3;obtain⟨b0,b1,-,-,-⟩:=hw3.pin.wcells;obtain⟨x0,-,-,-⟩:=hw3.pin.cells HPX.out;clear hP3 hR3 hw3 HNL HWX HRX;simp only at x0;have hpz:(p:Int)<(its.length:Int):=by omega
    go_wp2_with fail
    have HWR:=hid (HIH.out w3 B g ig cap its beh nx ind so (op+1) _ vo3 _ (q) HW3.out.pin (by omega) hi1 hi2 hl HSL.out HBO.out hxz (by have:=HLT.out;simp only[List.length_append,List.length_singleton];omega))
    (try simp only[Int.natCast_add,Int.cast_ofNat_Int]at HWR)
    refine Calls.mono HWR.out ?_;rintro e w5 ⟨rfl,hP5⟩;have hR5:=hP5.keepR HW3.out.pin.wat HR3.out;obtain⟨vo5,hw5⟩:=HW3.out.step hP5;have HW5:=hid hw5;have HR5:=hid hR5;clear hP5 hR5 hw5 HWR HW3 HR3;go_wp2;go_roundw
    case rel=>
     refine⟨i+1,vo5,_,by simp,by omega,HW5,HR5,hid ?_⟩;have hf:decide (i+1=0)=false:=decide_eq_false (by omega);rw[hf,←HT2.out];simp only[List.append_assoc]
    case measure=>simp only[intOf];omega
  ·obtain rfl:i=N:=by omega
   have hz:¬(i:Int)<(i:Int):=by omega
   have hT1:=hT.out;rw[List.drop_of_length_le (by rw[HLEN.out];exact Nat.le_refl _),List.map_nil]at hT1;have hTE:cur=TOT:=by rw[←hT1];simp[joinGo]
   have hws:=hWS.out;rw[hTE]at hws;obtain⟨-,-,-,c5,cf⟩:=hws.pin.wcells;have HE:=hid (show WS w (wr.setCell ⟨B,5,none⟩ (.int .i64 (op:Int))) B g ig cap its beh nx ind so op vo vo1 TOT from hws.setOp op);have HNL:=hid (newLine_any B _ _ _ nx ind so op _ _ HE.out.pin.wat hi1 hi2 (by omega) (by have:=HTL.out;omega));clear hT hT1 hTE hWS hR hws
   go_wp2_with fail
   refine Calls.mono HNL.out ?_;rintro e w6 ⟨rfl,hP6⟩;obtain⟨vo6,hw6⟩:=HE.out.step hP6;have HW6:=hid hw6;clear hP6 hw6;go_wp2;go_end0;exact⟨rfl,HW6.out.post⟩
theorem writeParts_obj (d:Nat) (IH:WriteOk d) (w:World) (B g ig cap:Nat) (its:List Im) (beh:List Nat) (nx ind:Int) (so:Bool) (op:Nat) (vo:Value) (bs:List UInt8) (p N b:Nat) (s:List UInt8) (L:List Nat) (h:PIn w B g ig cap its beh nx ind so op (.pointer (some ⟨B,6,none⟩)) vo bs) (hop:op+(d+1)=1000) (hi1: -1≤ind) (hi2:ind≤16) (hl:its.length≤10000000) (hs:∀x,x∈its→x.s.length≤100000000) (hb:Bok its) (hx:its[p]? =some ⟨6,(N:Int),b,s⟩) (hN0:N≠0) (hN:N≤its.length)
 (hL:∀y,y∈L→PartOk d its true y) (hLn:L.length=N) (HPT:Calls Tryz.prog 73 #[.pointer (some ⟨B,0,none⟩),.int .i64 (p:Int)] w (PlPost w N L))
 (hlen:bs.length+(joinGo ind (op+1) true (L.map (fun y=>(partT d ind so its true y).2))++lineL ind op).length≤90000000000):
 Calls Tryz.prog 45 #[.pointer (some ⟨B,0,none⟩),.int .i64 (p:Int)] w fun e w'=>e=.returned (.tuple #[])∧WPost B w (.slice (some ⟨ig,0,none⟩) its.length cap) (.slice (some ⟨g,0,none⟩) its.length its.length) nx ind so op vo (bs++(joinGo ind (op+1) true (L.map (fun y=>(partT d ind so its true y).2))++lineL ind op)) w':=by
 obtain⟨TOT,hTOT⟩:∃TOT,bs++joinGo ind (op+1) true (L.map (fun y=>(partT d ind so its true y).2))=TOT:=⟨_,rfl⟩;have hTl:TOT.length+(lineL ind op).length≤90000000000:=by rw[←hTOT];simp only[List.length_append]at hlen ⊢;omega
 rw[←List.append_assoc,hTOT];have hp:p<its.length:=(List.getElem?_eq_some_iff.1 hx).1;have HPX:=hid hx;have H:=hid h;have HT0:=hid (show bs++joinGo ind (op+1) (decide (0=0)) ((L.drop 0).map (fun y=>(partT d ind so its true y).2))=TOT from hTOT);have HL:=hid hL;have HP:=hid HPT;have HBO:=hid hb;have HSL:=hid hs;have HIH:=hid IH;clear h hx hL HPT hb hs IH hTOT hlen;have hNz:((N:Int)==0)=false:=beq_eq_false_iff_ne.2 (by omega);have HLEN:=hid hLn;have HTL:=hid hTl;clear hLn hTl;go_enter Tryz.func45,Tryz.ntmps45
 go_wp2_with fail
 refine Calls.mono HP.out ?_;rintro e w1 ⟨hh,rfl,hF1,hhw,hrow⟩;have hpin1:=H.out.fr hF1;have HWS1:=hid (H.out.ws.same hF1);have HROW1:=hid hrow;have HHH:=hid hhw;obtain⟨-,-,-,c5,cf⟩:=hpin1.wcells;have HW2:=hid (show WS w (w1.setCell ⟨B,5,none⟩ (.int .i64 ((op:Int)+1))) B g ig cap its beh nx ind so (op+1) vo vo bs from HWS1.out.setOp (op+1));have HROW2:=hid (HWS1.out.rowOp hrow (.int .i64 ((op:Int)+1)));clear hF1 hhw hrow hpin1;go_wp2
 go_loopw [22] (fun iv wr=>∃(i:Nat) (vo1:Value) (cur:List UInt8),iv=.int .i64 (i:Int)∧i≤N∧Hid (WS w wr B g ig cap its beh nx ind so (op+1) vo vo1 cur)∧Hid (wr.ownsRow 0 3 1 (.slice (some ⟨hh,0,none⟩) N N) N (L.map encN))∧Hid (cur++joinGo ind (op+1) (decide (i=0)) ((L.drop i).map (fun y=>(partT d ind so its true y).2))=TOT)) (fun iv _=>N-(intOf iv).toNat)
 case atStart=>exact⟨0,vo,bs,rfl,Nat.zero_le _,HW2,HROW2,HT0⟩
 case round=>
  clear HT0 HW2 HROW2 c5 cf HWS1 HROW1;obtain⟨i,vo1,cur,rfl,hiN,hWS,hR,hT⟩:=hrel;by_cases hi:i<N
  ·have hz:(i:Int)<(N:Int):=by omega
   have hiL:i<L.length:=by rw[HLEN.out];exact hi
   obtain⟨q,hq⟩:∃q,L[i]=q:=⟨_,rfl⟩;have hqm:q∈L:=hq▸List.getElem_mem hiL;have r0:=rowCell hR.out i (.int .i64 (q:Int)) (by rw[List.getElem?_map,List.getElem?_eq_getElem hiL,hq];rfl);have hdr:L.drop i=q::L.drop (i+1):=by rw[List.drop_eq_getElem_cons hiL,hq]
   have hT1:=hT.out;rw[hdr,List.map_cons,joinGo_cons]at hT1;have hpo:=HL.out q hqm;have HPO:=hid hpo;obtain⟨xk,hxk,hxk4,hxg,hxz⟩:∃x,its[q]? =some x∧x.k=4∧goodI x=true∧sizeD d (its.drop (q+1))≠0:=by simpa[PartOk]using hpo
   have hkey:keyAt its q=xk.s:=keyAt_some hxk;have ht:(partT d ind so its true q).2=headL ind xk.s++wrD ind so d (its.drop (q+1)):=by unfold partT;rw[if_pos rfl,hkey]
   rw[ht]at hT1
   have hU:isU xk.s=true:=by
    unfold goodI at hxg;rw[if_neg (by omega),if_neg (by omega),if_pos hxk4]at hxg;simp at hxg;exact hxg.2
   have hsl:=HSL.out xk (List.mem_of_getElem? hxk);have HT2:=hid hT1;clear hT hT1 hdr hqm hpo hq;have hlenT:=HTL.out;rw[←HT2.out]at hlenT;simp only[List.length_append]at hlenT;have HLT:=hid hlenT;by_cases hiz:i=0
   ·have hi0:¬(0:Int)<(i:Int):=by omega
    have hdi:decide (i=0)=true:=decide_eq_true hiz;rw[hdi]at HT2 HLT;simp only[if_true]at HT2;simp only[if_true,List.length_nil]at HLT;clear hdi hiz;have HWX:=hid hWS.out;have HRX:=hid hR.out;clear hWS hR
    go_wp2_with fail
    have HNL:=hid (newLine_any B _ _ _ nx ind so (op+1) _ _ HWX.out.pin.wat hi1 hi2 (by omega) (by have:=HLT.out;omega));refine Calls.mono HNL.out ?_;rintro e w3 ⟨rfl,hP3⟩;have hR3:=hP3.keepR HWX.out.pin.wat HRX.out;obtain⟨vo3,hw3⟩:=HWX.out.step hP3;have HW3:=hid hw3;have HR3:=hid hR3;obtain⟨b0,b1,-,-,-⟩:=hw3.pin.wcells;obtain⟨x0,-,-,-⟩:=hw3.pin.cells HPX.out;clear hP3 hR3 hw3 HNL HWX HRX;simp only at x0;have hpz:(p:Int)<(its.length:Int):=by omega
    go_wp2_with fail
    have HKY:=hid (writeKey_any B w3 _ _ nx ind so (op+1) _ vo3 _ its q xk HW3.out.pin.wat HW3.out.pin.items hxk hU (by have:=HLT.out;simp only[List.length_append];omega) hl);refine Calls.mono HKY.out ?_;rintro e w4 ⟨rfl,hP4⟩;have hR4:=hP4.keepR HW3.out.pin.wat HR3.out;obtain⟨vo4,hw4⟩:=HW3.out.step hP4;have HW4:=hid hw4;have HR4:=hid hR4;obtain⟨d0,d1,-,-,-⟩:=hw4.pin.wcells;obtain⟨q1,q2,q3,-⟩:=hw4.pin.nextO (d:=d) (by omega) HPO.out;have q1z:(q:Int)<(its.length:Int):=by omega
    clear hP4 hR4 hw4 HKY HW3 HR3 b0 b1 x0
    go_wp2_with fail
    have HWR:=hid (HIH.out w4 B g ig cap its beh nx ind so (op+1) _ vo4 _ (q+1) HW4.out.pin (by omega) hi1 hi2 hl HSL.out HBO.out hxz (by have:=HLT.out;simp only[List.length_append];omega))
    (try simp only[Int.natCast_add,Int.cast_ofNat_Int]at HWR)
    refine Calls.mono HWR.out ?_;rintro e w5 ⟨rfl,hP5⟩;have hR5:=hP5.keepR HW4.out.pin.wat HR4.out;obtain⟨vo5,hw5⟩:=HW4.out.step hP5;have HW5:=hid hw5;have HR5:=hid hR5;clear hP5 hR5 hw5 HWR HW4 HR4;go_wp2;go_roundw
    case rel=>
     refine⟨i+1,vo5,_,by simp,by omega,HW5,HR5,hid ?_⟩;have hf:decide (i+1=0)=false:=decide_eq_false (by omega);rw[hf,←HT2.out];simp only[List.append_assoc,List.nil_append]
    case measure=>simp only[intOf];omega
   ·have hi0:(0:Int)<(i:Int):=by omega
    have hdi:decide (i=0)=false:=decide_eq_false hiz;rw[hdi]at HT2 HLT;simp only[Bool.false_eq_true,if_false]at HT2;simp only[Bool.false_eq_true,if_false,List.length_singleton]at HLT;clear hdi hiz;have HCB:=hid (show Calls Tryz.prog 44 #[.pointer (some ⟨B,6,none⟩),.int .u8 44] wr _ from writeByte_any B wr _ _ nx ind so (op+1) _ vo1 cur 44 hWS.out.pin.wat (by have:=HLT.out;omega))
    go_wp2_with fail
    refine Calls.mono HCB.out ?_;rintro e w2 ⟨rfl,hP2⟩;have hR2:=hP2.keepR hWS.out.pin.wat hR.out;obtain⟨vo2,hw2⟩:=hWS.out.step hP2;have HWX:=hid hw2;have HRX:=hid hR2;clear hP2 hR2 hw2 HCB hWS hR r0
    go_wp2_with fail
    have HNL:=hid (newLine_any B _ _ _ nx ind so (op+1) _ _ HWX.out.pin.wat hi1 hi2 (by omega) (by have:=HLT.out;simp only[List.length_append,List.length_singleton];omega));refine Calls.mono HNL.out ?_;rintro e w3 ⟨rfl,hP3⟩;have hR3:=hP3.keepR HWX.out.pin.wat HRX.out;obtain⟨vo3,hw3⟩:=HWX.out.step hP3;have HW3:=hid hw3;have HR3:=hid hR3;obtain⟨b0,b1,-,-,-⟩:=hw3.pin.wcells;obtain⟨x0,-,-,-⟩:=hw3.pin.cells HPX.out;clear hP3 hR3 hw3 HNL HWX HRX;simp only at x0;have hpz:(p:Int)<(its.length:Int):=by omega
    go_wp2_with fail
    have HKY:=hid (writeKey_any B w3 _ _ nx ind so (op+1) _ vo3 _ its q xk HW3.out.pin.wat HW3.out.pin.items hxk hU (by have:=HLT.out;simp only[List.length_append,List.length_singleton];omega) hl);refine Calls.mono HKY.out ?_;rintro e w4 ⟨rfl,hP4⟩;have hR4:=hP4.keepR HW3.out.pin.wat HR3.out;obtain⟨vo4,hw4⟩:=HW3.out.step hP4;have HW4:=hid hw4;have HR4:=hid hR4;obtain⟨d0,d1,-,-,-⟩:=hw4.pin.wcells;obtain⟨q1,q2,q3,-⟩:=hw4.pin.nextO (d:=d) (by omega) HPO.out;have q1z:(q:Int)<(its.length:Int):=by omega
    clear hP4 hR4 hw4 HKY HW3 HR3 b0 b1 x0
    go_wp2_with fail
    have HWR:=hid (HIH.out w4 B g ig cap its beh nx ind so (op+1) _ vo4 _ (q+1) HW4.out.pin (by omega) hi1 hi2 hl HSL.out HBO.out hxz (by have:=HLT.out;simp only[List.length_append,List.length_singleton];omega))
    (try simp only[Int.natCast_add,Int.cast_ofNat_Int]at HWR)
    refine Calls.mono HWR.out ?_;rintro e w5 ⟨rfl,hP5⟩;have hR5:=hP5.keepR HW4.out.pin.wat HR4.out;obtain⟨vo5,hw5⟩:=HW4.out.step hP5;have HW5:=hid hw5;have HR5:=hid hR5;clear hP5 hR5 hw5 HWR HW4 HR4;go_wp2;go_roundw
    case rel=>
     refine⟨i+1,vo5,_,by simp,by omega,HW5,HR5,hid ?_⟩;have hf:decide (i+1=0)=false:=decide_eq_false (by omega);rw[hf,←HT2.out];simp only[List.append_assoc]
    case measure=>simp only[intOf];omega
  ·obtain rfl:i=N:=by omega
   have hz:¬(i:Int)<(i:Int):=by omega
   have hT1:=hT.out;rw[List.drop_of_length_le (by rw[HLEN.out];exact Nat.le_refl _),List.map_nil]at hT1;have hTE:cur=TOT:=by rw[←hT1];simp[joinGo]
   have hws:=hWS.out;rw[hTE]at hws;obtain⟨-,-,-,c5,cf⟩:=hws.pin.wcells;have HE:=hid (show WS w (wr.setCell ⟨B,5,none⟩ (.int .i64 (op:Int))) B g ig cap its beh nx ind so op vo vo1 TOT from hws.setOp op);have HNL:=hid (newLine_any B _ _ _ nx ind so op _ _ HE.out.pin.wat hi1 hi2 (by omega) (by have:=HTL.out;omega));clear hT hT1 hTE hWS hR hws
   go_wp2_with fail
   refine Calls.mono HNL.out ?_;rintro e w6 ⟨rfl,hP6⟩;obtain⟨vo6,hw6⟩:=HE.out.step hP6;have HW6:=hid hw6;clear hP6 hw6;go_wp2;go_end0;exact⟨rfl,HW6.out.post⟩
end Go.Proofs.YtmkkibaacclhnaaGreatDoor
