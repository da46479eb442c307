/-
  A step of the walk, the part named Pyz. No theorem of the row.
-/
import Derived.Test.YtmkkibaacclhnaaGreatDoorPvx
namespace Go.Proofs.YtmkkibaacclhnaaGreatDoor
open Go.RowKit
set_option maxRecDepth 100000
set_option maxHeartbeats 16000000
theorem row_string {w:World} {v:Value} {l:List UInt8} (h:w.ownsRow 0 5 1 v l.length (us l)):(convert 65 9 v).run Tryz.prog w=.ok (.string (ofL l)) w:=by
 rcases h.2 with⟨rfl,h0⟩|⟨g,cap,cur,rfl,_⟩
 ·have hl:l=[]:=List.eq_nil_of_length_eq_zero h0
  subst hl;rw[run_convert_bytes_string (P:=Tryz.prog) w 65 9 5 none 0 0 Tryz.underlying65 Tryz.underlying5 Tryz.underlying9];rfl
 ·exact run_convert_bytes_back (P:=Tryz.prog) w 65 9 5 ⟨g,0,none⟩ cap l Tryz.underlying65 Tryz.underlying5 Tryz.underlying9 (fun j hj=>by
   have:=h.cells (g:=g) rfl j (.int .u8 (l[j].toNat:Int)) (by simp[us,hj])
   cases j<;>simpa[Addr.add]using this)
theorem PC.txt {B:Nat} {S:Nat→Prop} {w0 W w':World} {vi vo vt vm:Value} {s:Ps} {t':Tr} (h:PC B S w0 vi vo vt vm W s) (hvt:vt.ownBlock=none) (hn:TrPost 0 B 14 113 (psCells s vi vo vt vm) vm W w' t'):
 ∃vm',PC B S w0 vi vo vt vm' w' ⟨s.depth,s.came,s.st,s.items,s.opn,s.word,s.tok,t'⟩:=by
 obtain⟨⟨a,b,c,d,e,f⟩,g,k⟩:=h;obtain⟨cs',vm',⟨a',b',c'⟩,ap,fr,nw⟩:=hn;have he:=cells_tr b' ap;subst he;have hs:=g.size
 have hne:∀{e1 s1 n:Nat} {v:Value} {xs:List Value},W.ownsRow 0 e1 s1 v n xs→e1≠113→e1≠5→∀i,v.ownBlock=some i→¬(i=B∨vm.ownBlock=some i):=by
  intro e1 s1 n v xs hv h75 h5 i hi hx;rcases hx with rfl|hx
  ·exact rowT hv a (fun h=>h75 h.symm) hi
  ·rcases rowNe hv e h5 with h|h
   ·rw[h]at hi;cases hi
   ·exact h (hi.trans hx.symm)
 refine⟨vm',⟨a',rowFr b fr (hne b (by decide) (by decide)),rowFr c fr (hne c (by decide) (by decide)),rowFr d fr (fun i hi=>by rw[hvt]at hi;cases hi),c',.inl hvt⟩,?_,?_⟩
 ·exact g.trans' fr (fun i hi=>k i (hi.elim .inl (fun h=>.inr (.inr (.inr (.inr h))))))
 ·intro i hi
  rcases hi with hi|hi|hi|hi|hi
  ·exact k i (.inl hi)
  ·exact k i (.inr (.inl hi))
  ·exact k i (.inr (.inr (.inl hi)))
  ·exact k i (.inr (.inr (.inr (.inl hi))))
  ·rcases nw i hi with h1|h1
   ·exact k i (.inr (.inr (.inr (.inr h1))))
   ·exact .inr (by omega)
theorem PErr.txt {B:Nat} {w w':World} {vi vo vt vm:Value} {s:Ps} (h:TrErr B 14 113 (psCells s vi vo vt vm) vm w w'):PErr B s.came (own B vi vo vt vm) w w':=by
 obtain⟨cs',a,b,c⟩:=h;exact⟨cs',a,b.1,(b.2 1 (by omega)).trans rfl,c.mono (fun i hi=>hi.elim .inl (fun h=>.inr (.inr (.inr (.inr h)))))⟩
theorem takeOfText_err (B:Nat) (vi vo vt vm:Value) (s:Ps) (k n:Nat) (c:UInt8) (w:World) (h:PR B w vi vo vt vm s) (hok:TrOk s.tx k) (hk:k≤10000000) (hr:trNext s.tx c=.error n):
 Calls Tryz.prog 83 #[.pointer (some ⟨B,0,none⟩),.int .u8 (c.toNat:Int)] w (PDone B s.came (own B vi vo vt vm) w (.error n)):=by
 have hs:=trNext_any B 14 113 _ vm s.tx k c w (by decide) h.trAt hok hk;rw[hr]at hs;have HS:=hid hs;clear hs hr h hok;go_enter Tryz.func83,Tryz.ntmps83
 go_wp2_with fail
 refine Calls.mono HS.out ?_;rintro e w2 ⟨rfl,hF⟩;exact⟨rfl,rfl,PErr.txt hF⟩
theorem takeOfText_go (B:Nat) (vi vo vt vm:Value) (s:Ps) (k:Nat) (c:UInt8) (t':Tr) (w:World) (h:PR B w vi vo vt vm s) (hvt:vt.ownBlock=none) (hst:s.st=8∨s.st=9) (hok:TrOk s.tx k) (hk:k≤10000000) (hr:trNext s.tx c=.ok (t',false)):
 Calls Tryz.prog 83 #[.pointer (some ⟨B,0,none⟩),.int .u8 (c.toNat:Int)] w (PDone B s.came (own B vi vo vt vm) w (.ok ⟨s.depth,s.came,s.st,s.items,s.opn,s.word,s.tok,t'⟩)):=by
 have hs:=trNext_any B 14 113 _ vm s.tx k c w (by decide) h.trAt hok hk;rw[hr]at hs;have HS:=hid hs;have H:=hid (PC.start h);have HT:=hid hst;clear hs hr h hok hst;go_enter Tryz.func83,Tryz.ntmps83
 go_wp2_with fail
 refine Calls.mono HS.out ?_;rintro e w2 ⟨rfl,hp⟩;obtain⟨vm',hR⟩:=H.out.txt hvt hp;have HR:=hid hR;clear hp hR;go_wp2;go_end0
 exact⟨rfl,_,_,_,_,HR.out,fun _=>hvt,fun h8 h9=>by
  rcases HT.out with h|h
  ·exact absurd h h8
  ·exact absurd h h9⟩
theorem takeOfText_end8 (B:Nat) (vi vo vt vm:Value) (s:Ps) (m k:Nat) (c:UInt8) (t':Tr) (w:World) (h:PR B w vi vo vt vm s) (hvt:vt.ownBlock=none) (hst:s.st=8) (hok:PsOk s m k) (hm:m≤5000000) (hk:k≤10000000) (hr:trNext s.tx c=.ok (t',true)):
 Calls Tryz.prog 83 #[.pointer (some ⟨B,0,none⟩),.int .u8 (c.toNat:Int)] w (PDone B s.came (own B vi vo vt vm) w (.ok ⟨s.depth,s.came,4,s.items++[⟨4,0,0,t'.made⟩],s.opn,s.word,s.tok,tr0⟩)):=by
 have hs:=trNext_any B 14 113 _ vm s.tx k c w (by decide) h.trAt hok.txk hk;rw[hr]at hs;have HS:=hid hs;have H:=hid (PC.start h);have hoo:=hok.c.oln;have hii:=hok.c.iln;have HE:=hid (fun (w:World) (ui:Value) (hp:PR B w ui vo vt (.slice none 0 0) ⟨s.depth,s.came,s.st,s.items++[⟨4,0,0,t'.made⟩],s.opn,s.word,s.tok,tr0⟩)=>endValue_any B ui vo vt (.slice none 0 0) ⟨s.depth,s.came,s.st,s.items++[⟨4,0,0,t'.made⟩],s.opn,s.word,s.tok,tr0⟩ w hp ⟨hvt,rfl⟩ ((hok.c.item ⟨4,0,0,t'.made⟩ s.st s.word hok.c.wln s.tok tr0).ok (by omega)) (by show(s.items++[_]).length≤_;simp;omega) (by show s.opn.length≤_;omega));obtain⟨i0,hi,hz0,hz1,hz2⟩:=info_parts Tryz.info29;have HT:=hid (show((s.st:Int))=8 by omega);clear hs hr h hok hst;go_enter Tryz.func83,Tryz.ntmps83
 go_wp2_with fail
 refine Calls.mono HS.out ?_;rintro e w2 ⟨rfl,hp⟩;obtain⟨vm',hR⟩:=H.out.txt hvt hp;have HR:=hid hR;have oi:=hR.pr.oi;obtain⟨a,n,cap,rfl⟩:=row_shape3 oi;obtain⟨a2,n2,cap2,rfl⟩:=row_shape3 hR.pr.om;have OI:=hid (show w2.drew.ownsRow 0 29 4 (.slice a n cap) s.items.length (itsV s.items)from oi);have k5:=blk_cell hR.pr.blk (show(psCells ⟨s.depth,s.came,s.st,s.items,s.opn,s.word,s.tok,t'⟩ (.slice a n cap) vo vt (.slice a2 n2 cap2))[5]? =some (.slice a n cap)from rfl);have k15:=blk_cell hR.pr.blk (show(psCells ⟨s.depth,s.came,s.st,s.items,s.opn,s.word,s.tok,t'⟩ (.slice a n cap) vo vt (.slice a2 n2 cap2))[15]? =some (.slice a2 n2 cap2)from rfl);have hcv:(convert 65 9 (.slice a2 n2 cap2)).run Tryz.prog w2.drew=.ok (.string (ofL t'.made)) w2.drew:=row_string (show w2.drew.ownsRow 0 5 1 (.slice a2 n2 cap2) t'.made.length (us t'.made)from hR.pr.om);have hBl:=lt_of_block hR.pr.blk;have a5:∀ob,(w2.alloc ob).cell? ⟨B,5,none⟩=some (.slice a n cap):=fun ob=>(World.cell?_of_block (w:=w2) (Below.heap_alloc _ _ _ hBl)).trans k5
 clear hp hR HS oi;go_wp2
 go_region_law (refine step_append_d rfl _ _ 22 rfl 29 i0 (.agg #[.int .i64 0,.int .i64 0,.int .u64 0,.string ⟨#[]⟩]) 4 40 Tryz.underlying22 hi hz0 hz1 hz2 rfl (by decide) (.slice a n cap) _ _ rfl (OI.out.alloc _) ⟨w2.drew.heap.size,0,none⟩ 1 1 (itCells ⟨4,0,0,t'.made⟩) rfl rfl (four_new _ _ _ _ _ _) (by intro u hu;simp[itCells]at hu;rcases hu with rfl|rfl|rfl|rfl<;>rfl) (by unfold maxLen;omega) (by omega) ?_;intro v' w1 hown' hgrow hnew;obtain⟨a',n',cap',rfl⟩:=row_shape3 hown';obtain⟨hh1,hR1⟩:=HR.out.drew.growI ⟨4,0,0,t'.made⟩ hown' hgrow (by simpa using hnew);have q5:=blk_cell hh1 (show(psCells ⟨s.depth,s.came,s.st,s.items,s.opn,s.word,s.tok,t'⟩ (.slice a n cap) vo vt (.slice a2 n2 cap2))[5]? =some (.slice a n cap)from rfl);have p5:=blk_free (j:=5) hh1;have HR1:=hid hR1;clear hown' hgrow hnew hh1 hR1)
 all_goals
  generalize w1.setCell ⟨B,5,none⟩ (.slice a' n' cap')=W2 at*;have r4:=blk_cell HR1.out.pr.blk (show(psCells ⟨s.depth,s.came,s.st,s.items++[⟨4,0,0,t'.made⟩],s.opn,s.word,s.tok,t'⟩ (.slice a' n' cap') vo vt (.slice a2 n2 cap2))[4]? =some (.int .i64 (s.st:Int))from rfl);have g4:=blk_free (j:=4) HR1.out.pr.blk;have r14:=blk_cell HR1.out.pr.blk (show(psCells ⟨s.depth,s.came,s.st,s.items++[⟨4,0,0,t'.made⟩],s.opn,s.word,s.tok,t'⟩ (.slice a' n' cap') vo vt (.slice a2 n2 cap2))[14]? =some (.int .i64 (t'.st:Int))from rfl);have g14:=blk_free (j:=14) HR1.out.pr.blk;have r15:=blk_cell HR1.out.pr.blk (show(psCells ⟨s.depth,s.came,s.st,s.items++[⟨4,0,0,t'.made⟩],s.opn,s.word,s.tok,t'⟩ (.slice a' n' cap') vo vt (.slice a2 n2 cap2))[15]? =some (.slice a2 n2 cap2)from rfl);have g15:=blk_free (j:=15) HR1.out.pr.blk;have r16:=blk_cell HR1.out.pr.blk (show(psCells ⟨s.depth,s.came,s.st,s.items++[⟨4,0,0,t'.made⟩],s.opn,s.word,s.tok,t'⟩ (.slice a' n' cap') vo vt (.slice a2 n2 cap2))[16]? =some (.int .i64 (t'.lack:Int))from rfl);have g16:=blk_free (j:=16) HR1.out.pr.blk;have r17:=blk_cell HR1.out.pr.blk (show(psCells ⟨s.depth,s.came,s.st,s.items++[⟨4,0,0,t'.made⟩],s.opn,s.word,s.tok,t'⟩ (.slice a' n' cap') vo vt (.slice a2 n2 cap2))[17]? =some (.int .u8 (t'.lo:Int))from rfl);have g17:=blk_free (j:=17) HR1.out.pr.blk;have r18:=blk_cell HR1.out.pr.blk (show(psCells ⟨s.depth,s.came,s.st,s.items++[⟨4,0,0,t'.made⟩],s.opn,s.word,s.tok,t'⟩ (.slice a' n' cap') vo vt (.slice a2 n2 cap2))[18]? =some (.int .u8 (t'.hi:Int))from rfl);have g18:=blk_free (j:=18) HR1.out.pr.blk;have r19:=blk_cell HR1.out.pr.blk (show(psCells ⟨s.depth,s.came,s.st,s.items++[⟨4,0,0,t'.made⟩],s.opn,s.word,s.tok,t'⟩ (.slice a' n' cap') vo vt (.slice a2 n2 cap2))[19]? =some (.int .i64 (t'.dg:Int))from rfl);have g19:=blk_free (j:=19) HR1.out.pr.blk;have r20:=blk_cell HR1.out.pr.blk (show(psCells ⟨s.depth,s.came,s.st,s.items++[⟨4,0,0,t'.made⟩],s.opn,s.word,s.tok,t'⟩ (.slice a' n' cap') vo vt (.slice a2 n2 cap2))[20]? =some (.int .i32 (t'.code:Int))from rfl);have g20:=blk_free (j:=20) HR1.out.pr.blk;have r21:=blk_cell HR1.out.pr.blk (show(psCells ⟨s.depth,s.came,s.st,s.items++[⟨4,0,0,t'.made⟩],s.opn,s.word,s.tok,t'⟩ (.slice a' n' cap') vo vt (.slice a2 n2 cap2))[21]? =some (.int .i32 (t'.high:Int))from rfl);have g21:=blk_free (j:=21) HR1.out.pr.blk;rw[HT.out]at r4;have HN:=hid HR1.out.txNil;clear q5 p5 k5 k15 a5 hcv OI HR;have HN4:=hid (HN.out.cell 4 (.int .i64 4) ⟨s.depth,s.came,4,s.items++[⟨4,0,0,t'.made⟩],s.opn,s.word,s.tok,tr0⟩ rfl rfl rfl rfl rfl);go_wp2;go_end0;exact⟨rfl,_,_,_,_,HN4.out,fun _=>hvt,fun _ _=>rfl⟩
theorem takeOfText_end9 (B:Nat) (vi vo vt vm:Value) (s:Ps) (m k:Nat) (c:UInt8) (t':Tr) (w:World) (h:PR B w vi vo vt vm s) (hvt:vt.ownBlock=none) (hst:s.st=9) (hok:PsOk s m k) (hm:m≤5000000) (hk:k≤10000000) (hr:trNext s.tx c=.ok (t',true)):
 Calls Tryz.prog 83 #[.pointer (some ⟨B,0,none⟩),.int .u8 (c.toNat:Int)] w (PDone B s.came (own B vi vo vt vm) w (.ok (psEndValue ⟨s.depth,s.came,s.st,s.items++[⟨4,0,0,t'.made⟩],s.opn,s.word,s.tok,tr0⟩))):=by
 have hs:=trNext_any B 14 113 _ vm s.tx k c w (by decide) h.trAt hok.txk hk;rw[hr]at hs;have HS:=hid hs;have H:=hid (PC.start h);have hoo:=hok.c.oln;have hii:=hok.c.iln;have HE:=hid (fun (w:World) (ui:Value) (hp:PR B w ui vo vt (.slice none 0 0) ⟨s.depth,s.came,s.st,s.items++[⟨4,0,0,t'.made⟩],s.opn,s.word,s.tok,tr0⟩)=>endValue_any B ui vo vt (.slice none 0 0) ⟨s.depth,s.came,s.st,s.items++[⟨4,0,0,t'.made⟩],s.opn,s.word,s.tok,tr0⟩ w hp ⟨hvt,rfl⟩ ((hok.c.item ⟨4,0,0,t'.made⟩ s.st s.word hok.c.wln s.tok tr0).ok (by omega)) (by show(s.items++[_]).length≤_;simp;omega) (by show s.opn.length≤_;omega));obtain⟨i0,hi,hz0,hz1,hz2⟩:=info_parts Tryz.info29;have HT:=hid (show((s.st:Int))=9 by omega);clear hs hr h hok hst;go_enter Tryz.func83,Tryz.ntmps83
 go_wp2_with fail
 refine Calls.mono HS.out ?_;rintro e w2 ⟨rfl,hp⟩;obtain⟨vm',hR⟩:=H.out.txt hvt hp;have HR:=hid hR;have oi:=hR.pr.oi;obtain⟨a,n,cap,rfl⟩:=row_shape3 oi;obtain⟨a2,n2,cap2,rfl⟩:=row_shape3 hR.pr.om;have OI:=hid (show w2.drew.ownsRow 0 29 4 (.slice a n cap) s.items.length (itsV s.items)from oi);have k5:=blk_cell hR.pr.blk (show(psCells ⟨s.depth,s.came,s.st,s.items,s.opn,s.word,s.tok,t'⟩ (.slice a n cap) vo vt (.slice a2 n2 cap2))[5]? =some (.slice a n cap)from rfl);have k15:=blk_cell hR.pr.blk (show(psCells ⟨s.depth,s.came,s.st,s.items,s.opn,s.word,s.tok,t'⟩ (.slice a n cap) vo vt (.slice a2 n2 cap2))[15]? =some (.slice a2 n2 cap2)from rfl);have hcv:(convert 65 9 (.slice a2 n2 cap2)).run Tryz.prog w2.drew=.ok (.string (ofL t'.made)) w2.drew:=row_string (show w2.drew.ownsRow 0 5 1 (.slice a2 n2 cap2) t'.made.length (us t'.made)from hR.pr.om);have hBl:=lt_of_block hR.pr.blk;have a5:∀ob,(w2.alloc ob).cell? ⟨B,5,none⟩=some (.slice a n cap):=fun ob=>(World.cell?_of_block (w:=w2) (Below.heap_alloc _ _ _ hBl)).trans k5
 clear hp hR HS oi;go_wp2
 go_region_law (refine step_append_d rfl _ _ 22 rfl 29 i0 (.agg #[.int .i64 0,.int .i64 0,.int .u64 0,.string ⟨#[]⟩]) 4 40 Tryz.underlying22 hi hz0 hz1 hz2 rfl (by decide) (.slice a n cap) _ _ rfl (OI.out.alloc _) ⟨w2.drew.heap.size,0,none⟩ 1 1 (itCells ⟨4,0,0,t'.made⟩) rfl rfl (four_new _ _ _ _ _ _) (by intro u hu;simp[itCells]at hu;rcases hu with rfl|rfl|rfl|rfl<;>rfl) (by unfold maxLen;omega) (by omega) ?_;intro v' w1 hown' hgrow hnew;obtain⟨a',n',cap',rfl⟩:=row_shape3 hown';obtain⟨hh1,hR1⟩:=HR.out.drew.growI ⟨4,0,0,t'.made⟩ hown' hgrow (by simpa using hnew);have q5:=blk_cell hh1 (show(psCells ⟨s.depth,s.came,s.st,s.items,s.opn,s.word,s.tok,t'⟩ (.slice a n cap) vo vt (.slice a2 n2 cap2))[5]? =some (.slice a n cap)from rfl);have p5:=blk_free (j:=5) hh1;have HR1:=hid hR1;clear hown' hgrow hnew hh1 hR1)
 all_goals
  generalize w1.setCell ⟨B,5,none⟩ (.slice a' n' cap')=W2 at*;have r4:=blk_cell HR1.out.pr.blk (show(psCells ⟨s.depth,s.came,s.st,s.items++[⟨4,0,0,t'.made⟩],s.opn,s.word,s.tok,t'⟩ (.slice a' n' cap') vo vt (.slice a2 n2 cap2))[4]? =some (.int .i64 (s.st:Int))from rfl);have g4:=blk_free (j:=4) HR1.out.pr.blk;have r14:=blk_cell HR1.out.pr.blk (show(psCells ⟨s.depth,s.came,s.st,s.items++[⟨4,0,0,t'.made⟩],s.opn,s.word,s.tok,t'⟩ (.slice a' n' cap') vo vt (.slice a2 n2 cap2))[14]? =some (.int .i64 (t'.st:Int))from rfl);have g14:=blk_free (j:=14) HR1.out.pr.blk;have r15:=blk_cell HR1.out.pr.blk (show(psCells ⟨s.depth,s.came,s.st,s.items++[⟨4,0,0,t'.made⟩],s.opn,s.word,s.tok,t'⟩ (.slice a' n' cap') vo vt (.slice a2 n2 cap2))[15]? =some (.slice a2 n2 cap2)from rfl);have g15:=blk_free (j:=15) HR1.out.pr.blk;have r16:=blk_cell HR1.out.pr.blk (show(psCells ⟨s.depth,s.came,s.st,s.items++[⟨4,0,0,t'.made⟩],s.opn,s.word,s.tok,t'⟩ (.slice a' n' cap') vo vt (.slice a2 n2 cap2))[16]? =some (.int .i64 (t'.lack:Int))from rfl);have g16:=blk_free (j:=16) HR1.out.pr.blk;have r17:=blk_cell HR1.out.pr.blk (show(psCells ⟨s.depth,s.came,s.st,s.items++[⟨4,0,0,t'.made⟩],s.opn,s.word,s.tok,t'⟩ (.slice a' n' cap') vo vt (.slice a2 n2 cap2))[17]? =some (.int .u8 (t'.lo:Int))from rfl);have g17:=blk_free (j:=17) HR1.out.pr.blk;have r18:=blk_cell HR1.out.pr.blk (show(psCells ⟨s.depth,s.came,s.st,s.items++[⟨4,0,0,t'.made⟩],s.opn,s.word,s.tok,t'⟩ (.slice a' n' cap') vo vt (.slice a2 n2 cap2))[18]? =some (.int .u8 (t'.hi:Int))from rfl);have g18:=blk_free (j:=18) HR1.out.pr.blk;have r19:=blk_cell HR1.out.pr.blk (show(psCells ⟨s.depth,s.came,s.st,s.items++[⟨4,0,0,t'.made⟩],s.opn,s.word,s.tok,t'⟩ (.slice a' n' cap') vo vt (.slice a2 n2 cap2))[19]? =some (.int .i64 (t'.dg:Int))from rfl);have g19:=blk_free (j:=19) HR1.out.pr.blk;have r20:=blk_cell HR1.out.pr.blk (show(psCells ⟨s.depth,s.came,s.st,s.items++[⟨4,0,0,t'.made⟩],s.opn,s.word,s.tok,t'⟩ (.slice a' n' cap') vo vt (.slice a2 n2 cap2))[20]? =some (.int .i32 (t'.code:Int))from rfl);have g20:=blk_free (j:=20) HR1.out.pr.blk;have r21:=blk_cell HR1.out.pr.blk (show(psCells ⟨s.depth,s.came,s.st,s.items++[⟨4,0,0,t'.made⟩],s.opn,s.word,s.tok,t'⟩ (.slice a' n' cap') vo vt (.slice a2 n2 cap2))[21]? =some (.int .i32 (t'.high:Int))from rfl);have g21:=blk_free (j:=21) HR1.out.pr.blk;rw[HT.out]at r4;have HN:=hid HR1.out.txNil;clear q5 p5 k5 k15 a5 hcv OI HR
  go_wp2_with fail
  refine Calls.mono (HE.out _ _ HN.out.pr) ?_;rintro e w3 ⟨rfl,hp⟩;have HQ:=hid (HN.out.trans hp);clear hp;go_wp2;go_end0;exact⟨rfl,HQ.out⟩
theorem takeOfText_any (B:Nat) (vi vo vt vm:Value) (s:Ps) (m k:Nat) (c:UInt8) (w:World) (h:PR B w vi vo vt vm s) (hvt:vt.ownBlock=none) (hst:s.st=8∨s.st=9) (hok:PsOk s m k) (hm:m≤5000000) (hk:k≤10000000):
 Calls Tryz.prog 83 #[.pointer (some ⟨B,0,none⟩),.int .u8 (c.toNat:Int)] w (PDone B s.came (own B vi vo vt vm) w (psTextOn s c)):=by
 unfold psTextOn;cases hr:trNext s.tx c with
 |error n=>exact takeOfText_err B vi vo vt vm s k n c w h hok.txk hk hr
 |ok x=>
  obtain⟨t',b⟩:=x;cases b with
  |false=>exact takeOfText_go B vi vo vt vm s k c t' w h hvt hst hok.txk hk hr
  |true=>
   show Calls Tryz.prog 83 _ w (PDone B s.came (own B vi vo vt vm) w (if s.st=8 then .ok _ else .ok _))
   by_cases h8:s.st=8
   ·rw[if_pos h8]
    exact takeOfText_end8 B vi vo vt vm s m k c t' w h hvt h8 hok hm hk hr
   ·rw[if_neg h8]
    exact takeOfText_end9 B vi vo vt vm s m k c t' w h hvt (by omega) hok hm hk hr
end Go.Proofs.YtmkkibaacclhnaaGreatDoor
