/-
  A step of the walk, the part named Vq. No theorem of the row.
-/
import Derived.Test.YtmkkibaacclhnaaGreatDoorVo
namespace Go.Proofs.YtmkkibaacclhnaaGreatDoor
open Go.RowKit
set_option maxRecDepth 100000
set_option maxHeartbeats 16000000
structure PIn (w:World) (B g ig cap:Nat) (its:List Im) (beh:List Nat) (nx ind:Int) (so:Bool) (op:Nat) (ad vo:Value) (bs:List UInt8):Prop where
 wat:WAt B w (.slice (some ⟨ig,0,none⟩) its.length cap) (.slice (some ⟨g,0,none⟩) its.length its.length) nx ind so op ad vo bs
 items:ItAt w (.slice (some ⟨ig,0,none⟩) its.length cap) its
 row:w.ownsRow 0 3 1 (.slice (some ⟨g,0,none⟩) its.length its.length) its.length (beh.map encN)
 beh:BhOk beh its 0 its.length
theorem PIn.fr {w w':World} {B g ig cap:Nat} {its:List Im} {beh:List Nat} {nx ind:Int} {so:Bool} {op:Nat} {ad vo:Value} {bs:List UInt8} (h:PIn w B g ig cap its beh nx ind so op ad vo bs) (hf:Fr (fun _=>False) w w'):PIn w' B g ig cap its beh nx ind so op ad vo bs:=
 ⟨h.wat.fr hf,h.items.fr hf (fun _ _=>id),rowFr h.row hf (fun _ _=>id),h.beh⟩
theorem PIn.cells {w:World} {B g ig cap:Nat} {its:List Im} {beh:List Nat} {nx ind:Int} {so:Bool} {op:Nat} {ad vo:Value} {bs:List UInt8} (h:PIn w B g ig cap its beh nx ind so op ad vo bs) {p:Nat} {x:Im} (hx:its[p]? =some x):
 w.cell? ⟨ig,p*4,none⟩=some (.int .i64 x.k)∧w.cell? ⟨ig,p*4+1,none⟩=some (.int .i64 x.n)∧w.cell? ⟨ig,p*4+2,none⟩=some (.int .u64 (x.b:Int))∧w.cell? ⟨ig,p*4+3,none⟩=some (.string (ofL x.s)):=
 ⟨rowCell h.items (p*4) _ (imsV_get its p 0 x hx (by omega)),rowCell h.items (p*4+1) _ (imsV_get its p 1 x hx (by omega)),rowCell h.items (p*4+2) _ (imsV_get its p 2 x hx (by omega)),rowCell h.items (p*4+3) _ (imsV_get its p 3 x hx (by omega))⟩
theorem PIn.wcells {w:World} {B g ig cap:Nat} {its:List Im} {beh:List Nat} {nx ind:Int} {so:Bool} {op:Nat} {ad vo:Value} {bs:List UInt8} (h:PIn w B g ig cap its beh nx ind so op ad vo bs):
 w.cell? ⟨B,0,none⟩=some (.slice (some ⟨ig,0,none⟩) its.length cap)∧w.cell? ⟨B,1,none⟩=some (.slice (some ⟨g,0,none⟩) its.length its.length)∧w.cell? ⟨B,4,none⟩=some (.bool so)∧w.cell? ⟨B,5,none⟩=some (.int .i64 (op:Int))∧∀j,w.frozen? ⟨B,j,none⟩=false:=
 ⟨blk_cell h.wat.blk rfl,blk_cell h.wat.blk rfl,blk_cell h.wat.blk rfl,blk_cell h.wat.blk rfl,fun _=>blk_free h.wat.blk⟩
theorem PIn.behAt {w:World} {B g ig cap:Nat} {its:List Im} {beh:List Nat} {nx ind:Int} {so:Bool} {op:Nat} {ad vo:Value} {bs:List UInt8} (h:PIn w B g ig cap its beh nx ind so op ad vo bs) {d q:Nat} (hd:d≤1000) (hz:sizeD d (its.drop q)≠0):q<its.length∧w.cell? ⟨g,q,none⟩=some (.int .i64 ((q+sizeD d (its.drop q):Nat):Int)):=by
 have hle:=sizeD_le d (its.drop q);rw[List.length_drop]at hle;have hlt:q<its.length:=by omega
 refine⟨hlt,?_⟩;have:=h.beh q (Nat.zero_le _) hlt;rw[sizeD_ups d 1000 _ hz hd]at this;exact rowCell h.row q _ (by rw[List.getElem?_map,this];rfl)
theorem PIn.nextA {w:World} {B g ig cap:Nat} {its:List Im} {beh:List Nat} {nx ind:Int} {so:Bool} {op:Nat} {ad vo:Value} {bs:List UInt8} (h:PIn w B g ig cap its beh nx ind so op ad vo bs) {d q:Nat} (hd:d≤1000) (hp:PartOk d its false q):q<its.length∧w.cell? ⟨g,q,none⟩=some (.int .i64 ((nextQ d its false q:Nat):Int)):=by
 unfold PartOk at hp;unfold nextQ;simp only[Bool.false_eq_true,if_false]at hp ⊢;exact h.behAt hd hp
theorem PIn.nextO {w:World} {B g ig cap:Nat} {its:List Im} {beh:List Nat} {nx ind:Int} {so:Bool} {op:Nat} {ad vo:Value} {bs:List UInt8} (h:PIn w B g ig cap its beh nx ind so op ad vo bs) {d q:Nat} (hd:d≤1000) (hp:PartOk d its true q):q<its.length∧w.cell? ⟨g,q,none⟩=some (.int .i64 ((q:Int)+1))∧q+1<its.length∧w.cell? ⟨g,q+1,none⟩=some (.int .i64 ((nextQ d its true q:Nat):Int)):=by
 unfold PartOk at hp;unfold nextQ;simp only[if_true]at hp ⊢;obtain⟨x,hx,hk,hg,hz⟩:=hp;obtain⟨h1,h2⟩:=h.behAt hd hz;have hlt:=(List.getElem?_eq_some_iff.1 hx).1
 have hdr:its.drop q=x::its.drop (q+1):=by
  rw[List.drop_eq_getElem_cons hlt,(List.getElem?_eq_some_iff.1 hx).2]
 have h0:sizeD 0 (its.drop q)=1:=by rw[hdr,sizeD,if_pos ⟨hg,by omega⟩]
 obtain⟨h3,h4⟩:=h.behAt (d:=0) (q:=q) (by omega) (by rw[h0];omega);rw[h0,show(((q+1:Nat)):Int)=(q:Int)+1 by omega]at h4;exact⟨h3,h4,h1,h2⟩
structure PlSt (w wr:World) (N:Nat) (vi:Value) (L:List Nat):Prop where
 fr:Fr (fun _=>False) w wr
 box:wr.heap[w.heap.size]? =some (.cells #[vi] 22 (0,0))
 row:wr.ownsRow 0 3 1 (.slice (some ⟨w.heap.size+1,0,none⟩) N N) N (L.map encN)
theorem PlSt.start (w:World) (N:Nat) (vi:Value) (hn:N≤10000000):PlSt w ((w.alloc (.cells #[vi] 22)).alloc (.cells (madeCells #[Value.int .i64 0] N) 3)).drew N vi (List.replicate N 0):=by
 have h0:=heap_alloc_new w (.cells #[vi] 22);have h1:=row_made3 (w.alloc (.cells #[vi] 22)) N hn;rw[show(w.alloc (.cells #[vi] 22)).heap.size=w.heap.size+1 by simp]at h1;exact⟨(((Fr.refl _ w).alloc _).alloc _).drew,((Fr.refl (fun _=>False) (w.alloc (.cells #[vi] 22))).alloc (.cells (madeCells #[Value.int .i64 0] N) 3)).heap h0 id,h1⟩
theorem PlSt.put {w wr:World} {N:Nat} {vi:Value} {L:List Nat} (h:PlSt w wr N vi L) (i q:Nat):PlSt w (wr.setCell ⟨w.heap.size+1,i,none⟩ (.int .i64 (q:Int))) N vi (L.set i q):=by
 have hF:Fr (fun j=>j=w.heap.size+1) wr (wr.setCell ⟨w.heap.size+1,i,none⟩ (.int .i64 (q:Int))):=(Fr.refl (fun j=>j=w.heap.size+1) wr).setCell (p:=⟨w.heap.size+1,i,none⟩) (.inl rfl) _;refine⟨h.fr.setCell (p:=⟨w.heap.size+1,i,none⟩) (.inr (Nat.le_succ _)) _,hF.heap h.box (by omega),?_⟩;have:=rowSet h.row i (encN q);rw[←List.map_set]at this;exact this
theorem PlSt.at_ {w wr:World} {N:Nat} {vi:Value} {L:List Nat} (h:PlSt w wr N vi L) {i:Nat} (hi:i<N):(∃m:Nat,wr.cell? ⟨w.heap.size+1,i,none⟩=some (.int .i64 (m:Int)))∧wr.frozen? ⟨w.heap.size+1,i,none⟩=false:=by
 have hl:L.length=N:=by simpa using h.row.1
 exact⟨⟨L[i]'(by omega),rowCell h.row i _ (by rw[List.getElem?_map,List.getElem?_eq_getElem (by omega)];rfl)⟩,rowFree h.row i⟩
theorem set_rep (pre:List Nat) (k q:Nat):(pre++List.replicate (k+1) 0).set pre.length q=(pre++[q])++List.replicate k 0:=by
 rw[List.set_append_right _ _ (Nat.le_refl _),Nat.sub_self,List.replicate_succ,List.set_cons_zero,List.append_assoc];rfl
def PlPost (w:World) (N:Nat) (L:List Nat) (e:Ending) (w':World):Prop:=
 ∃h,e=.returned (.slice (some ⟨h,0,none⟩) N N)∧Fr (fun _=>False) w w'∧w.heap.size≤h∧w'.ownsRow 0 3 1 (.slice (some ⟨h,0,none⟩) N N) N (L.map encN)
theorem parts_arr (d:Nat) (w:World) (B g ig cap:Nat) (its:List Im) (beh:List Nat) (nx ind:Int) (so:Bool) (op:Nat) (ad vo:Value) (bs:List UInt8) (p N b m:Nat) (s:List UInt8) (h:PIn w B g ig cap its beh nx ind so op ad vo bs) (hd:d≤1000) (hl:its.length≤10000000) (hx:its[p]? =some ⟨5,(N:Int),b,s⟩) (hN:N≤its.length) (hm:partsG (sizeD d) false N (its.drop (p+1))=some m):
 Calls Tryz.prog 73 #[.pointer (some ⟨B,0,none⟩),.int .i64 (p:Int)] w (PlPost w N (ordN (keyAt its) false (placesL d its false N (p+1)))):=by
 obtain⟨PL,hPL⟩:∃PL,placesL d its false N (p+1)=PL:=⟨_,rfl⟩;rw[hPL];have hmk:=run_make_row' (P:=Tryz.prog) 59 3 (.int .i64 0) 8 Tryz.underlying59 Tryz.info3B rfl .i64 .i64 N (by omega) (by omega);have hp:p<its.length:=(List.getElem?_eq_some_iff.1 hx).1;obtain⟨c0,c1,c4,-,cf⟩:=h.wcells;obtain⟨x0,x1,-,-⟩:=h.cells hx;have e0:=fun o=>(h.fr ((Fr.refl (fun _=>False) w).alloc o)).wcells.1
 have e1:=fun o=>(h.fr ((Fr.refl (fun _=>False) w).alloc o)).wcells.2.1
 have y0:=fun o=>((h.fr ((Fr.refl (fun _=>False) w).alloc o)).cells hx).1
 have y1:=fun o=>((h.fr ((Fr.refl (fun _=>False) w).alloc o)).cells hx).2.1
 have H0:=hid (show([]:List Nat)++placesL d its false (N-0) (p+1)=PL from hPL);have HM0:=hid (show∃m,partsG (sizeD d) false (N-0) (its.drop (p+1))=some m from⟨m,hm⟩);have HS0:=hid (PlSt.start w N (.slice (some ⟨ig,0,none⟩) its.length cap) (by omega));have HIN:=hid (fun wr (hf:Fr (fun _=>False) w wr)=>h.fr hf);clear h hx hm hPL;simp only at x0 x1 y0 y1;obtain⟨n,hn⟩:∃n,its.length=n:=⟨_,rfl⟩;rw[hn]at hp hl c0 c1 HS0 hN;simp only[hn]at e0 e1;go_enter Tryz.func73,Tryz.ntmps73;go_wp2;go_region;go_wp2
 go_loopw [9,37] (fun nv iv wr=>∃(i q:Nat) (pre:List Nat),nv=.int .i64 (q:Int)∧iv=.int .i64 (i:Int)∧i≤N∧Hid (pre.length=i)∧Hid (pre++placesL d its false (N-i) q=PL)∧Hid (∃m,partsG (sizeD d) false (N-i) (its.drop q)=some m)∧Hid (PlSt w wr N (.slice (some ⟨ig,0,none⟩) n cap) (pre++List.replicate (N-i) 0))) (fun _ iv _=>N-(intOf iv).toNat)
 case atStart=>exact⟨0,p+1,[],by simp,rfl,Nat.zero_le _,hid rfl,H0,HM0,HS0⟩
 case round=>
  clear H0 HM0 HS0 c0 c1 c4 cf x0 x1 e0 e1 y0 y1;obtain⟨i,q,pre,rfl,rfl,hiN,hpre,hPL,hM,hS⟩:=hrel;by_cases hi:i<N
  ·have hz:(i:Int)<(N:Int):=by omega
   obtain⟨c,hc⟩:∃c,N-i=c+1:=⟨N-i-1,by omega⟩;obtain⟨m,hm⟩:=hM.out;rw[hc]at hm;obtain⟨hpo,-,m',hm',-⟩:=partsG_one hm;have HM2:=hid (show∃m,partsG (sizeD d) false c (its.drop (nextQ d its false q))=some m from⟨m',hm'⟩)
   have HPL2:=hid (show(pre++[q])++placesL d its false c (nextQ d its false q)=PL from by
    rw[←hPL.out,hc,List.append_assoc];rfl)
   have hPS:=hS.out;rw[hc]at hPS;obtain⟨⟨m0,a0⟩,a1⟩:=hPS.at_ hi;have hPS2:=hPS.put i q;rw[←hpre.out,set_rep,hpre.out]at hPS2;have HS2:=hid hPS2;have hin:=HIN.out _ hPS2.fr;obtain⟨q1,q2⟩:=hin.nextA hd hpo;rw[hn]at q1;have q1z:(q:Int)<(n:Int):=by omega
   generalize nextQ d its false q=q' at*;have hpre':=hid (show(pre++[q]).length=i+1 by rw[List.length_append,hpre.out];rfl);clear hpo hm hm' hM hPL hS hPS hPS2 hin hpre;go_wp2;go_roundw
   case rel=>
    refine⟨i+1,q',pre++[q],rfl,by simp,by omega,hpre',hid ?_,hid ?_,hid ?_⟩
    ·rw[show N-(i+1)=c by omega];exact HPL2.out
    ·rw[show N-(i+1)=c by omega];exact HM2.out
    ·rw[show N-(i+1)=c by omega];exact HS2.out
   case measure=>simp only[intOf];omega
  ·obtain rfl:i=N:=by omega
   have hz:¬(i:Int)<(i:Int):=by omega
   have hPL2:pre=PL:=by have:=hPL.out;rw[Nat.sub_self]at this;simpa[placesL]using this
   have hst:=hS.out;rw[Nat.sub_self,List.replicate_zero,List.append_nil,hPL2]at hst;have HS2:=hid hst;obtain⟨-,-,c4,-,-⟩:=(HIN.out _ hst.fr).wcells;clear hst hPL hM hPL2 hpre hS;go_wp2;go_ret;refine⟨_,rfl,HS2.out.fr,by omega,?_⟩;rw[ordN_plain];exact HS2.out.row
theorem parts_objf (d:Nat) (w:World) (B g ig cap:Nat) (its:List Im) (beh:List Nat) (nx ind:Int) (op:Nat) (ad vo:Value) (bs:List UInt8) (p N b m:Nat) (s:List UInt8) (h:PIn w B g ig cap its beh nx ind false op ad vo bs) (hd:d≤1000) (hl:its.length≤10000000) (hx:its[p]? =some ⟨6,(N:Int),b,s⟩) (hN:N≤its.length) (hm:partsG (sizeD d) true N (its.drop (p+1))=some m):
 Calls Tryz.prog 73 #[.pointer (some ⟨B,0,none⟩),.int .i64 (p:Int)] w (PlPost w N (ordN (keyAt its) false (placesL d its true N (p+1)))):=by
 obtain⟨PL,hPL⟩:∃PL,placesL d its true N (p+1)=PL:=⟨_,rfl⟩;rw[hPL];have hmk:=run_make_row' (P:=Tryz.prog) 59 3 (.int .i64 0) 8 Tryz.underlying59 Tryz.info3B rfl .i64 .i64 N (by omega) (by omega);have hp:p<its.length:=(List.getElem?_eq_some_iff.1 hx).1;obtain⟨c0,c1,c4,-,cf⟩:=h.wcells;obtain⟨x0,x1,-,-⟩:=h.cells hx;have e0:=fun o=>(h.fr ((Fr.refl (fun _=>False) w).alloc o)).wcells.1
 have e1:=fun o=>(h.fr ((Fr.refl (fun _=>False) w).alloc o)).wcells.2.1
 have y0:=fun o=>((h.fr ((Fr.refl (fun _=>False) w).alloc o)).cells hx).1
 have y1:=fun o=>((h.fr ((Fr.refl (fun _=>False) w).alloc o)).cells hx).2.1
 have H0:=hid (show([]:List Nat)++placesL d its true (N-0) (p+1)=PL from hPL);have HM0:=hid (show∃m,partsG (sizeD d) true (N-0) (its.drop (p+1))=some m from⟨m,hm⟩);have HS0:=hid (PlSt.start w N (.slice (some ⟨ig,0,none⟩) its.length cap) (by omega));have HIN:=hid (fun wr (hf:Fr (fun _=>False) w wr)=>h.fr hf);clear h hx hm hPL;simp only at x0 x1 y0 y1;obtain⟨n,hn⟩:∃n,its.length=n:=⟨_,rfl⟩;rw[hn]at hp hl c0 c1 HS0 hN;simp only[hn]at e0 e1;go_enter Tryz.func73,Tryz.ntmps73;go_wp2;go_region;go_wp2
 go_loopw [9,37] (fun nv iv wr=>∃(i q:Nat) (pre:List Nat),nv=.int .i64 (q:Int)∧iv=.int .i64 (i:Int)∧i≤N∧Hid (pre.length=i)∧Hid (pre++placesL d its true (N-i) q=PL)∧Hid (∃m,partsG (sizeD d) true (N-i) (its.drop q)=some m)∧Hid (PlSt w wr N (.slice (some ⟨ig,0,none⟩) n cap) (pre++List.replicate (N-i) 0))) (fun _ iv _=>N-(intOf iv).toNat)
 case atStart=>exact⟨0,p+1,[],by simp,rfl,Nat.zero_le _,hid rfl,H0,HM0,HS0⟩
 case round=>
  clear H0 HM0 HS0 c0 c1 c4 cf x0 x1 e0 e1 y0 y1;obtain⟨i,q,pre,rfl,rfl,hiN,hpre,hPL,hM,hS⟩:=hrel;by_cases hi:i<N
  ·have hz:(i:Int)<(N:Int):=by omega
   obtain⟨c,hc⟩:∃c,N-i=c+1:=⟨N-i-1,by omega⟩;obtain⟨m,hm⟩:=hM.out;rw[hc]at hm;obtain⟨hpo,-,m',hm',-⟩:=partsG_one hm;have HM2:=hid (show∃m,partsG (sizeD d) true c (its.drop (nextQ d its true q))=some m from⟨m',hm'⟩)
   have HPL2:=hid (show(pre++[q])++placesL d its true c (nextQ d its true q)=PL from by
    rw[←hPL.out,hc,List.append_assoc];rfl)
   have hPS:=hS.out;rw[hc]at hPS;obtain⟨⟨m0,a0⟩,a1⟩:=hPS.at_ hi;have hPS2:=hPS.put i q;rw[←hpre.out,set_rep,hpre.out]at hPS2;have HS2:=hid hPS2;have hin:=HIN.out _ hPS2.fr;obtain⟨q1,q2,q3,q4⟩:=hin.nextO hd hpo;rw[hn]at q1 q3;have q1z:(q:Int)<(n:Int):=by omega
   have q3z:(q:Int)+1<(n:Int):=by omega
   generalize nextQ d its true q=q' at*;have hpre':=hid (show(pre++[q]).length=i+1 by rw[List.length_append,hpre.out];rfl);clear hpo hm hm' hM hPL hS hPS hPS2 hin hpre;go_wp2;go_roundw
   case rel=>
    refine⟨i+1,q',pre++[q],rfl,by simp,by omega,hpre',hid ?_,hid ?_,hid ?_⟩
    ·rw[show N-(i+1)=c by omega];exact HPL2.out
    ·rw[show N-(i+1)=c by omega];exact HM2.out
    ·rw[show N-(i+1)=c by omega];exact HS2.out
   case measure=>simp only[intOf];omega
  ·obtain rfl:i=N:=by omega
   have hz:¬(i:Int)<(i:Int):=by omega
   have hPL2:pre=PL:=by have:=hPL.out;rw[Nat.sub_self]at this;simpa[placesL]using this
   have hst:=hS.out;rw[Nat.sub_self,List.replicate_zero,List.append_nil,hPL2]at hst;have HS2:=hid hst;obtain⟨-,-,c4,-,-⟩:=(HIN.out _ hst.fr).wcells;clear hst hPL hM hPL2 hpre hS;go_wp2;go_ret;refine⟨_,rfl,HS2.out.fr,by omega,?_⟩;rw[ordN_plain];exact HS2.out.row
theorem parts_objt (d:Nat) (w:World) (B g ig cap:Nat) (its:List Im) (beh:List Nat) (nx ind:Int) (op:Nat) (ad vo:Value) (bs:List UInt8) (p N b m:Nat) (s:List UInt8) (h:PIn w B g ig cap its beh nx ind true op ad vo bs) (hd:d≤1000) (hl:its.length≤10000000) (hx:its[p]? =some ⟨6,(N:Int),b,s⟩) (hN:N≤its.length) (hm:partsG (sizeD d) true N (its.drop (p+1))=some m):
 Calls Tryz.prog 73 #[.pointer (some ⟨B,0,none⟩),.int .i64 (p:Int)] w (PlPost w N (ordN (keyAt its) true (placesL d its true N (p+1)))):=by
 obtain⟨PL,hPL⟩:∃PL,placesL d its true N (p+1)=PL:=⟨_,rfl⟩;rw[hPL];have hmk:=run_make_row' (P:=Tryz.prog) 59 3 (.int .i64 0) 8 Tryz.underlying59 Tryz.info3B rfl .i64 .i64 N (by omega) (by omega);have hp:p<its.length:=(List.getElem?_eq_some_iff.1 hx).1;obtain⟨c0,c1,c4,-,cf⟩:=h.wcells;obtain⟨x0,x1,-,-⟩:=h.cells hx;have e0:=fun o=>(h.fr ((Fr.refl (fun _=>False) w).alloc o)).wcells.1
 have e1:=fun o=>(h.fr ((Fr.refl (fun _=>False) w).alloc o)).wcells.2.1
 have y0:=fun o=>((h.fr ((Fr.refl (fun _=>False) w).alloc o)).cells hx).1
 have y1:=fun o=>((h.fr ((Fr.refl (fun _=>False) w).alloc o)).cells hx).2.1
 have H0:=hid (show([]:List Nat)++placesL d its true (N-0) (p+1)=PL from hPL);have HM0:=hid (show∃m,partsG (sizeD d) true (N-0) (its.drop (p+1))=some m from⟨m,hm⟩);have HS0:=hid (PlSt.start w N (.slice (some ⟨ig,0,none⟩) its.length cap) (by omega));have HIN:=hid (fun wr (hf:Fr (fun _=>False) w wr)=>h.fr hf);have HASC:=hid (show PL.Pairwise (·< ·)from by rw[←hPL];exact(places_ok d its true N (p+1) m hm).1);have HLT:=hid (show∀y,y∈PL→y<its.length from fun y hy=>by rw[←hPL]at hy;exact((places_ok d its true N (p+1) m hm).2.1 y hy).2.lt);have HIG:=hid (lt_of_row h.items);clear h hx hm hPL;simp only at x0 x1 y0 y1;obtain⟨n,hn⟩:∃n,its.length=n:=⟨_,rfl⟩;rw[hn]at hp hl c0 c1 HS0 hN;simp only[hn]at e0 e1;go_enter Tryz.func73,Tryz.ntmps73;go_wp2;go_region;go_wp2
 go_loopw [9,37] (fun nv iv wr=>∃(i q:Nat) (pre:List Nat),nv=.int .i64 (q:Int)∧iv=.int .i64 (i:Int)∧i≤N∧Hid (pre.length=i)∧Hid (pre++placesL d its true (N-i) q=PL)∧Hid (∃m,partsG (sizeD d) true (N-i) (its.drop q)=some m)∧Hid (PlSt w wr N (.slice (some ⟨ig,0,none⟩) n cap) (pre++List.replicate (N-i) 0))) (fun _ iv _=>N-(intOf iv).toNat)
 case atStart=>exact⟨0,p+1,[],by simp,rfl,Nat.zero_le _,hid rfl,H0,HM0,HS0⟩
 case round=>
  clear H0 HM0 HS0 c0 c1 c4 cf x0 x1 e0 e1 y0 y1;obtain⟨i,q,pre,rfl,rfl,hiN,hpre,hPL,hM,hS⟩:=hrel;by_cases hi:i<N
  ·have hz:(i:Int)<(N:Int):=by omega
   obtain⟨c,hc⟩:∃c,N-i=c+1:=⟨N-i-1,by omega⟩;obtain⟨m,hm⟩:=hM.out;rw[hc]at hm;obtain⟨hpo,-,m',hm',-⟩:=partsG_one hm;have HM2:=hid (show∃m,partsG (sizeD d) true c (its.drop (nextQ d its true q))=some m from⟨m',hm'⟩)
   have HPL2:=hid (show(pre++[q])++placesL d its true c (nextQ d its true q)=PL from by
    rw[←hPL.out,hc,List.append_assoc];rfl)
   have hPS:=hS.out;rw[hc]at hPS;obtain⟨⟨m0,a0⟩,a1⟩:=hPS.at_ hi;have hPS2:=hPS.put i q;rw[←hpre.out,set_rep,hpre.out]at hPS2;have HS2:=hid hPS2;have hin:=HIN.out _ hPS2.fr;obtain⟨q1,q2,q3,q4⟩:=hin.nextO hd hpo;rw[hn]at q1 q3;have q1z:(q:Int)<(n:Int):=by omega
   have q3z:(q:Int)+1<(n:Int):=by omega
   generalize nextQ d its true q=q' at*;have hpre':=hid (show(pre++[q]).length=i+1 by rw[List.length_append,hpre.out];rfl);clear hpo hm hm' hM hPL hS hPS hPS2 hin hpre;go_wp2;go_roundw
   case rel=>
    refine⟨i+1,q',pre++[q],rfl,by simp,by omega,hpre',hid ?_,hid ?_,hid ?_⟩
    ·rw[show N-(i+1)=c by omega];exact HPL2.out
    ·rw[show N-(i+1)=c by omega];exact HM2.out
    ·rw[show N-(i+1)=c by omega];exact HS2.out
   case measure=>simp only[intOf];omega
  ·obtain rfl:i=N:=by omega
   have hz:¬(i:Int)<(i:Int):=by omega
   have hPL2:pre=PL:=by have:=hPL.out;rw[Nat.sub_self]at this;simpa[placesL]using this
   have hst:=hS.out;rw[Nat.sub_self,List.replicate_zero,List.append_nil,hPL2]at hst;have HS2:=hid hst;obtain⟨-,-,c4,-,-⟩:=(HIN.out _ hst.fr).wcells
   have HSORT:=hid (sortStable_any wr wr (w.heap.size+1) i i w.heap.size (fun x=>x<its.length) (fun a b=>Lib.compareBytes (keyAt its a) (keyAt its b)) (KO (keyAt its)) (KO.tr (keyAt its)) PL ⟨Fr.refl _ _,hst.row⟩ (HASC.out.imp (fun {a b} hab=>KO.cf (keyAt its) a b hab)) HLT.out
    (fun x y hx hy w3 hf3=>cmp_any w3 w.heap.size x y (.slice (some ⟨ig,0,none⟩) its.length cap) its (by rw[hn];exact hf3.heap hst.box (by omega)) ((HIN.out _ hst.fr).items.fr hf3 (by
      rintro j hj rfl;have h1:=HIG.out;have h2:ig=w.heap.size+1:=by simpa[Value.ownBlock]using hj
      omega)) hx hy (by omega)) (by omega))
   clear hst hPL hM hPL2 hpre hS
   go_wp2_with (first|(go_at_call 128;refine Calls.mono HSORT.out ?_;rintro e w4 ⟨rfl,Z,hZ1,hZ2,hZ3⟩;have HZ:=hid (And.intro hZ1 (And.intro hZ2 hZ3));clear hZ1 hZ2 hZ3)|fail)
   go_ret;obtain⟨z1,z2,z3⟩:=HZ.out;refine⟨_,rfl,HS2.out.fr.trans' z3.fr (by rintro j rfl;exact .inr (by omega)),by omega,?_⟩;rw[←ordN_one (keyAt its) PL Z HASC.out z1 z2];exact z3.row
end Go.Proofs.YtmkkibaacclhnaaGreatDoor
