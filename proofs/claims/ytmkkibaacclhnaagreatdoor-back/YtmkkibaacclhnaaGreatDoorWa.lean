/-
  A step of the walk, the part named Wa. No theorem of the row.
-/
import Derived.Test.YtmkkibaacclhnaaGreatDoorPf
import Derived.Test.YtmkkibaacclhnaaGreatDoorPl
import Derived.Test.YtmkkibaacclhnaaGreatDoorTnr
import Derived.Shelf.RegionOpenPlain
namespace Go.Proofs.YtmkkibaacclhnaaGreatDoor
open Go.RowKit
set_option maxRecDepth 100000
set_option maxHeartbeats 16000000
theorem rowNe {w:World} {e1 e2 s1 s2 n m:Nat} {v u:Value} {xs ys:List Value} (h:w.ownsRow 0 e1 s1 v n xs) (k:w.ownsRow 0 e2 s2 u m ys) (he:e1≠e2):v.ownBlock=none∨v.ownBlock≠u.ownBlock:=by
 rcases h.2 with⟨rfl,_⟩|⟨g,cap,cur,rfl,_,hg,_⟩
 ·exact .inl rfl
 ·right
  intro e;exact rowT k hg he e.symm
theorem rowKeep {W w1:World} {e1 e2 s1 s2 n m:Nat} {v u:Value} {xs ys:List Value} {ob:Obj} (h:W.ownsRow 0 e1 s1 v n xs) (k:W.ownsRow 0 e2 s2 u m ys) (he:e1≠e2) (hg:(W.alloc ob).grownBy w1 u.ownBlock):w1.ownsRow 0 e1 s1 v n xs:=(h.alloc ob).kept hg (rowNe h k he)
theorem PC.growI {B:Nat} {S:Nat→Prop} {w0 W w1:World} {vi vi' vo vt vm:Value} {s:Ps} {ob:Obj} (x:It) (h:PC B S w0 vi vo vt vm W s) (hown:w1.ownsRow 0 29 4 vi' (s.items.length+1) (itsV s.items++itCells x)) (hg:(W.alloc ob).grownBy w1 vi.ownBlock)
 (hn:∀g,vi'.ownBlock=some g→vi.ownBlock=some g∨W.heap.size+1≤g):
 w1.heap[B]? =some (.cells (psCells s vi vo vt vm) 113 (0,0))∧PC B S w0 vi' vo vt vm (w1.setCell ⟨B,5,none⟩ vi') ⟨s.depth,s.came,s.st,s.items++[x],s.opn,s.word,s.tok,s.tx⟩:=by
 obtain⟨⟨a,b,c,d,e,f⟩,g,k⟩:=h;have hBl:=lt_of_block a;have hro:=rowT b a (show 113≠29 by decide)
 have hh:w1.heap[B]? =some (.cells (psCells s vi vo vt vm) 113 (0,0)):=by
  rw[hg.block B (by simp;omega) (fun e=>hro e.symm),Below.heap_alloc _ _ _ hBl];exact a
 have hgs:=g.size;refine⟨hh,⟨heap_setCell_same w1 B 5 _ 113 vi' hh,?_,?_,?_,?_,f⟩,?_,?_⟩
 ·have:=rowSetOther hown (a:=⟨B,5,none⟩) (rowT hown hh (by decide)) vi'
  rw[itsV_append,List.length_append];exact this
 ·have c':=rowKeep c b (by decide) hg
  exact rowSetOther c' (rowT c' hh (by decide)) vi'
 ·have d':=rowKeep d b (by decide) hg
  exact rowSetOther d' (rowT d' hh (by decide)) vi'
 ·have e':=rowKeep e b (by decide) hg
  exact rowSetOther e' (rowT e' hh (by decide)) vi'
 ·exact((g.alloc ob).grown hg (fun i hi=>k i (.inr (.inl hi)))).setCell (k B (.inl rfl)) _
 ·intro i hi
  rcases hi with hi|hi|hi
  ·exact k i (.inl hi)
  ·rcases hn i hi with h1|h1
   ·exact k i (.inr (.inl h1))
   ·exact .inr (by omega)
  ·exact k i (.inr (.inr hi))
theorem PC.growO {B:Nat} {S:Nat→Prop} {w0 W w1:World} {vi vo vo' vt vm:Value} {s:Ps} {ob:Obj} (x:Nat) (h:PC B S w0 vi vo vt vm W s) (hown:w1.ownsRow 0 3 1 vo' (s.opn.length+1) (opV s.opn++[.int .i64 (x:Int)])) (hg:(W.alloc ob).grownBy w1 vo.ownBlock)
 (hn:∀g,vo'.ownBlock=some g→vo.ownBlock=some g∨W.heap.size+1≤g):
 w1.heap[B]? =some (.cells (psCells s vi vo vt vm) 113 (0,0))∧PC B S w0 vi vo' vt vm (w1.setCell ⟨B,6,none⟩ vo') ⟨s.depth,s.came,s.st,s.items,s.opn++[x],s.word,s.tok,s.tx⟩:=by
 obtain⟨⟨a,b,c,d,e,f⟩,g,k⟩:=h;have hBl:=lt_of_block a;have hro:=rowT c a (show 113≠3 by decide)
 have hh:w1.heap[B]? =some (.cells (psCells s vi vo vt vm) 113 (0,0)):=by
  rw[hg.block B (by simp;omega) (fun e=>hro e.symm),Below.heap_alloc _ _ _ hBl];exact a
 have hgs:=g.size;refine⟨hh,⟨heap_setCell_same w1 B 6 _ 113 vo' hh,?_,?_,?_,?_,f⟩,?_,?_⟩
 ·have b':=rowKeep b c (by decide) hg
  exact rowSetOther b' (rowT b' hh (by decide)) vo'
 ·have:=rowSetOther hown (a:=⟨B,6,none⟩) (rowT hown hh (by decide)) vo'
  have e1:opV (s.opn++[x])=opV s.opn++[.int .i64 (x:Int)]:=by simp[opV]
  show(w1.setCell ⟨B,6,none⟩ vo').ownsRow 0 3 1 vo' (s.opn++[x]).length (opV (s.opn++[x]))
  rw[e1,List.length_append];exact this
 ·have d':=rowKeep d c (by decide) hg
  exact rowSetOther d' (rowT d' hh (by decide)) vo'
 ·have e':=rowKeep e c (by decide) hg
  exact rowSetOther e' (rowT e' hh (by decide)) vo'
 ·exact((g.alloc ob).grown hg (fun i hi=>k i (.inr (.inr (.inl hi))))).setCell (k B (.inl rfl)) _
 ·intro i hi
  rcases hi with hi|hi|hi|hi
  ·exact k i (.inl hi)
  ·exact k i (.inr (.inl hi))
  ·rcases hn i hi with h1|h1
   ·exact k i (.inr (.inr (.inl h1)))
   ·exact .inr (by omega)
  ·exact k i (.inr (.inr (.inr hi)))
theorem four_new (w:World) (a b c d:Value) (e:Nat):∀j u,[a,b,c,d][j]? =some u→(w.alloc (.cells #[a,b,c,d] e)).cell? ((⟨w.heap.size,0,none⟩:Addr).add j)=some u:=by
 intro j u hj;have hn:=heap_alloc_new w (.cells #[a,b,c,d] e)
 match j,hj with
 |0,hj=>simp at hj;subst hj;exact blk_cell hn rfl
 |1,hj=>simp at hj;subst hj;exact blk_cell hn rfl
 |2,hj=>simp at hj;subst hj;exact blk_cell hn rfl
 |3,hj=>simp at hj;subst hj;exact blk_cell hn rfl
 |(j+4),hj=>simp at hj
theorem Tryz.info29:(Tryz.prog.info? 29).map (fun i=>(i.zero,i.size,i.bytes))=some (some (.agg #[.int .i64 0,.int .i64 0,.int .u64 0,.string ⟨#[]⟩]),4,40):=by kernel_rfl
theorem beginWord_any (B:Nat) (vi vo vt vm:Value) (s:Ps) (k:Nat) (rest:List UInt8) (w:World) (h:PR B w vi vo vt vm s) (hq:Nn vt vm) (hlen:s.items.length≤10000000):
 Calls Tryz.prog 186 #[.pointer (some ⟨B,0,none⟩),.int .i64 (k:Int),.string (ofL rest)] w fun e w'=>e=.returned (.tuple #[])∧PSt B (own B vi vo vt vm) w w' (psWord s k rest):=by
 have H:=hid (PC.start h);obtain⟨i0,hi,hz0,hz1,hz2⟩:=info_parts Tryz.info29;have oi:=h.oi;obtain⟨a,n,cap,rfl⟩:=row_shape3 oi;have k5:=blk_cell h.blk (show(psCells s (.slice a n cap) vo vt vm)[5]? =some (.slice a n cap)from rfl);have f5:=blk_free (j:=5) h.blk;clear h;go_enter Tryz.func186,Tryz.ntmps186
 go_wp2_with (first
  |(at_builtin;refine wpList_append_d _ rfl _ _ 22 rfl 29 i0 (.agg #[.int .i64 0,.int .i64 0,.int .u64 0,.string ⟨#[]⟩]) 4 40 Tryz.underlying22 hi hz0 hz1 hz2 rfl (by decide) _ _ _ rfl (oi.alloc _) ⟨w.heap.size,0,none⟩ 1 1 (itCells ⟨k,0,0,[]⟩) rfl rfl ?c1 ?c2 ?c3 ?c4 ?_)
  |go_in)
 case c1=>exact four_new _ _ _ _ _ _
 case c2=>intro u hu;simp[itCells]at hu;rcases hu with rfl|rfl|rfl|rfl<;>rfl
 case c3=>unfold maxLen;omega
 case c4=>omega
 intro v' w1 hown' hgrow hnew;obtain⟨a',n',cap',rfl⟩:=row_shape3 hown';obtain⟨hh1,hR⟩:=H.out.growI ⟨k,0,0,[]⟩ hown' hgrow hnew;have q4:=blk_cell hh1 (show(psCells s (.slice a n cap) vo vt vm)[4]? =some (.int .i64 (s.st:Int))from rfl);have q5:=blk_cell hh1 (show(psCells s (.slice a n cap) vo vt vm)[5]? =some (.slice a n cap)from rfl);have q7:=blk_cell hh1 (show(psCells s (.slice a n cap) vo vt vm)[7]? =some (.string (ofL s.word))from rfl);have p4:=blk_free (j:=4) hh1;have p5:=blk_free (j:=5) hh1;have p7:=blk_free (j:=7) hh1;have HR:=hid ((hR.cell 7 (.string (ofL rest)) ⟨s.depth,s.came,s.st,s.items++[⟨k,0,0,[]⟩],s.opn,rest,s.tok,s.tx⟩ rfl rfl rfl rfl rfl).cell 4 (.int .i64 6) (psWord s k rest) rfl rfl rfl rfl rfl);clear hown' hgrow hnew hh1 hR oi k5 f5;go_wp2;go_end0;exact⟨rfl,_,_,_,_,HR.out,hq.q _⟩
theorem bump_last (items:List It) (pre:List Nat) (i:Nat):bump items (pre++[i])=items.modify i (fun x=>⟨x.k,x.n+1,x.b,x.s⟩):=by
 induction pre with
 |nil=>rfl
 |cons j pre ih=>
  cases pre with
  |nil=>exact ih
  |cons k pre=>exact ih
theorem PC.bump {B:Nat} {S:Nat→Prop} {w0 W:World} {gi n cap:Nat} {vo vt vm:Value} {s:Ps} (i:Nat) (x:It) (h:PC B S w0 (.slice (some ⟨gi,0,none⟩) n cap) vo vt vm W s) (hi:s.items[i]? =some x):
 PC B S w0 (.slice (some ⟨gi,0,none⟩) n cap) vo vt vm (W.setCell ⟨gi,i*4+1,none⟩ (.int .i64 ((x.n+1:Nat):Int))) ⟨s.depth,s.came,s.st,s.items.modify i (fun x=>⟨x.k,x.n+1,x.b,x.s⟩),s.opn,s.word,s.tok,s.tx⟩:=by
 obtain⟨⟨a,b,c,d,e,f⟩,g,k⟩:=h;have hgB:gi≠B:=fun h=>rowT b a (show 113≠29 by decide) (by rw[←h];rfl)
 have hn:n=s.items.length:=by
  rcases b.2 with⟨h,_⟩|⟨_,_,_,h,_⟩
  ·cases h
  ·simp at h;exact h.2.1
 subst hn
 have hother:∀{e2 s2 m:Nat} {v:Value} {ys:List Value},e2≠29→W.ownsRow 0 e2 s2 v m ys→v.ownBlock≠some gi:=fun he hv=>by
  rcases rowNe hv b he with h|h
  ·rw[h];simp
  ·exact h
 refine⟨⟨?_,?_,?_,?_,?_,f⟩,?_,k⟩
 ·show(W.setCell ⟨gi,i*4+1,none⟩ _).heap[B]? =_
  rw[Below.heap_setCell W ⟨gi,i*4+1,none⟩ _ B (fun e=>hgB e.symm)];exact a
 ·show(W.setCell ⟨gi,i*4+1,none⟩ _).ownsRow 0 29 4 _ (s.items.modify i _).length (itsV (s.items.modify i _))
  rw[itsV_modify s.items i x hi,List.length_modify];exact rowSet b (i*4+1) _
 ·exact rowSetOther c (hother (by decide) c) _
 ·exact rowSetOther d (hother (by decide) d) _
 ·exact rowSetOther e (hother (by decide) e) _
 ·exact g.setCell (k gi (.inr (.inl rfl))) _
theorem endValue_none (B:Nat) (vi vo vt vm:Value) (s:Ps) (w:World) (h:PR B w vi vo vt vm s) (hq:Nn vt vm) (ho:s.opn=[]):
 Calls Tryz.prog 135 #[.pointer (some ⟨B,0,none⟩)] w fun e w'=>e=.returned (.tuple #[])∧PSt B (own B vi vo vt vm) w w' (psEndValue s):=by
 have hR:=(PC.start h).cell 4 (.int .i64 5) (psEndValue s) rfl (by unfold psEndValue;rw[ho];rfl) rfl rfl rfl;have HR:=hid hR;have hoo:=h.oo;rw[ho]at hoo;obtain⟨a,n,cap,rfl⟩:=row_shape3 hoo
 have hn:n=0:=by
  rcases hoo.2 with⟨h,_⟩|⟨_,_,_,h,_⟩
  ·simp at h;exact h.2.1
  ·simp at h;exact h.2.1
 subst hn;have k6:=blk_cell h.blk (show(psCells s vi (.slice a 0 cap) vt vm)[6]? =some (.slice a 0 cap)from rfl);have k4:=blk_cell h.blk (show(psCells s vi (.slice a 0 cap) vt vm)[4]? =some (.int .i64 (s.st:Int))from rfl);have f4:=blk_free (j:=4) h.blk;clear h hoo hR ho;go_enter Tryz.func135,Tryz.ntmps135;go_wp2;go_end0;exact⟨rfl,_,_,_,_,HR.out,hq.q _⟩
theorem endValue_some (B:Nat) (vi vo vt vm:Value) (s:Ps) (pre:List Nat) (i:Nat) (x:It) (w:World) (h:PR B w vi vo vt vm s) (hq:Nn vt vm) (ho:s.opn=pre++[i]) (hi:s.items[i]? =some x) (hx:x.n≤10000000) (hlen:s.items.length≤10000000) (hpl:pre.length≤10000000):
 Calls Tryz.prog 135 #[.pointer (some ⟨B,0,none⟩)] w fun e w'=>e=.returned (.tuple #[])∧PSt B (own B vi vo vt vm) w w' (psEndValue s):=by
 have hil:i<s.items.length:=by
  rcases Nat.lt_or_ge i s.items.length with h1|h1
  ·exact h1
  ·rw[List.getElem?_eq_none h1]at hi;cases hi
 obtain⟨gi,ci,rfl⟩:=row_pos h.oi (by omega);have hoo:=h.oo;rw[ho]at hoo;have hol:(pre++[i]).length=pre.length+1:=by simp
 rw[hol]at hoo;obtain⟨go,co,rfl⟩:=row_pos hoo (by omega);have HE:=hid (show psEndValue s=psSt ⟨s.depth,s.came,s.st,s.items.modify i (fun x=>⟨x.k,x.n+1,x.b,x.s⟩),s.opn,s.word,s.tok,s.tx⟩ 5 by unfold psEndValue psSt;rw[ho,bump_last]);have HR:=hid (((PC.start h).drew.bump i x hi).cell 4 (.int .i64 5) (psSt ⟨s.depth,s.came,s.st,s.items.modify i (fun x=>⟨x.k,x.n+1,x.b,x.s⟩),s.opn,s.word,s.tok,s.tx⟩ 5) rfl rfl rfl rfl rfl);have k5:=blk_cell h.blk (show(psCells s (.slice (some ⟨gi,0,none⟩) s.items.length ci) (.slice (some ⟨go,0,none⟩) (pre.length+1) co) vt vm)[5]? =some (.slice (some ⟨gi,0,none⟩) s.items.length ci)from rfl);have k6:=blk_cell h.blk (show(psCells s (.slice (some ⟨gi,0,none⟩) s.items.length ci) (.slice (some ⟨go,0,none⟩) (pre.length+1) co) vt vm)[6]? =some (.slice (some ⟨go,0,none⟩) (pre.length+1) co)from rfl);have k4:=blk_cell h.blk (show(psCells s (.slice (some ⟨gi,0,none⟩) s.items.length ci) (.slice (some ⟨go,0,none⟩) (pre.length+1) co) vt vm)[4]? =some (.int .i64 (s.st:Int))from rfl);have f4:=blk_free (j:=4) h.blk;have ko:=rowCell hoo pre.length (.int .i64 (i:Int)) (by simp[opV]);have kn:=rowCell h.oi (i*4+1) (.int .i64 (x.n:Int)) (by rw[itsV_get s.items i 1 x hi (by omega)];rfl);have fn:=rowFree h.oi (i*4+1);have hgB:gi≠B:=fun e=>rowT h.oi h.blk (show 113≠29 by decide) (by rw[←e];rfl)
 have hci:=ownsRow_cap h.oi;have hco:=ownsRow_cap hoo;clear h hoo ho hi hol;generalize s.items.length=N at*;generalize pre.length=M at*;go_enter Tryz.func135,Tryz.ntmps135;go_wp2;go_region
 all_goals
  go_wp2;go_end0;rw[HE.out];exact⟨rfl,_,_,_,_,HR.out,hq.q _⟩
def OpnOk (s:Ps):Prop:=∀i∈s.opn,∃x,s.items[i]? =some x∧x.n≤10000000
theorem endValue_any (B:Nat) (vi vo vt vm:Value) (s:Ps) (w:World) (h:PR B w vi vo vt vm s) (hq:Nn vt vm) (ho:OpnOk s) (hlen:s.items.length≤10000000) (hol:s.opn.length≤10000000):
 Calls Tryz.prog 135 #[.pointer (some ⟨B,0,none⟩)] w fun e w'=>e=.returned (.tuple #[])∧PSt B (own B vi vo vt vm) w w' (psEndValue s):=by
 rcases List.eq_nil_or_concat s.opn with h0|⟨pre,i,h1⟩
 ·exact endValue_none B vi vo vt vm s w h hq h0
 ·rw[List.concat_eq_append]at h1
  obtain⟨x,hx,hn⟩:=ho i (by rw[h1];simp);exact endValue_some B vi vo vt vm s pre i x w h hq h1 hx hn hlen (by rw[h1]at hol;simp at hol;omega)
theorem PC.trans {B:Nat} {S:Nat→Prop} {w0 W w':World} {vi vo vt vm:Value} {s s':Ps} (h:PC B S w0 vi vo vt vm W s) (k:PSt B (own B vi vo vt vm) W w' s'):PSt B S w0 w' s':=by
 obtain⟨ui,uo,ut,um,k,kq⟩:=k;have hs:=h.fr.size;refine⟨ui,uo,ut,um,⟨k.pr,h.fr.trans' k.fr h.ow,?_⟩,kq⟩;intro i hi;rcases k.ow i hi with h1|h1
 ·exact h.ow i h1
 ·exact .inr (by omega)
theorem PC.cut {B:Nat} {S:Nat→Prop} {w0 W:World} {go co:Nat} {vi vt vm:Value} {s:Ps} {pre:List Nat} {i:Nat} (h:PC B S w0 vi (.slice (some ⟨go,0,none⟩) (pre.length+1) co) vt vm W s) (ho:s.opn=pre++[i]):
 PC B S w0 vi (.slice (some ⟨go,0,none⟩) pre.length co) vt vm (W.setCell ⟨B,6,none⟩ (.slice (some ⟨go,0,none⟩) pre.length co)) ⟨s.depth,s.came,s.st,s.items,s.opn.dropLast,s.word,s.tok,s.tx⟩:=by
 obtain⟨⟨a,b,c,d,e,f⟩,g,k⟩:=h;refine⟨⟨heap_setCell_same W B 6 _ 113 _ a,rowSetOther b (rowT b a (by decide)) _,?_,rowSetOther d (rowT d a (by decide)) _,rowSetOther e (rowT e a (by decide)) _,f⟩,g.setCell (k B (.inl rfl)) _,k⟩;have hd:s.opn.dropLast=pre:=by rw[ho];simp
 show(W.setCell ⟨B,6,none⟩ _).ownsRow 0 3 1 _ s.opn.dropLast.length (opV s.opn.dropLast)
 rw[hd];have c2:=c;rw[ho]at c2;have e1:opV (pre++[i])=opV pre++[.int .i64 (i:Int)]:=by simp[opV]
 have e2:(pre++[i]).length=pre.length+1:=by simp
 rw[e1,e2]at c2;have c3:=rowCut c2;exact rowSetOther c3 (rowT c3 a (by decide)) _
theorem endInner_any (B:Nat) (vi vo vt vm:Value) (s:Ps) (pre:List Nat) (i:Nat) (w:World) (h:PR B w vi vo vt vm s) (hq:Nn vt vm) (ho:s.opn=pre++[i]) (hok:OpnOk s) (hlen:s.items.length≤10000000) (hpl:pre.length≤10000000):
 Calls Tryz.prog 138 #[.pointer (some ⟨B,0,none⟩)] w fun e w'=>e=.returned (.tuple #[])∧PSt B (own B vi vo vt vm) w w' (psEndInner s):=by
 have hoo:=h.oo;rw[ho]at hoo;have hol:(pre++[i]).length=pre.length+1:=by simp
 rw[hol]at hoo;obtain⟨go,co,rfl⟩:=row_pos hoo (by omega);have hco:=ownsRow_cap hoo;have HR:=hid ((PC.start h).drew.cut ho);have HE:=hid (fun (w:World) (hp:PR B w vi (.slice (some ⟨go,0,none⟩) pre.length co) vt vm ⟨s.depth,s.came,s.st,s.items,s.opn.dropLast,s.word,s.tok,s.tx⟩)=>endValue_any B vi (.slice (some ⟨go,0,none⟩) pre.length co) vt vm ⟨s.depth,s.came,s.st,s.items,s.opn.dropLast,s.word,s.tok,s.tx⟩ w hp hq (fun j hj=>hok j (List.dropLast_subset _ hj)) hlen (by show s.opn.dropLast.length≤_;rw[ho];simp;omega));have k6:=blk_cell h.blk (show(psCells s vi (.slice (some ⟨go,0,none⟩) (pre.length+1) co) vt vm)[6]? =some (.slice (some ⟨go,0,none⟩) (pre.length+1) co)from rfl);have f6:=blk_free (j:=6) h.blk;clear h hoo ho hol hok hlen;generalize pre.length=M at*;go_enter Tryz.func138,Tryz.ntmps138;go_wp2;go_region
 all_goals
  go_wp2_with fail
  refine Calls.mono (HE.out _ HR.out.pr) ?_;rintro e w2 ⟨rfl,hp⟩;have HP:=hid (HR.out.trans hp);clear hp;go_wp2;go_end0;exact⟨rfl,HP.out⟩
theorem Tryz.info3P:(Tryz.prog.info? 3).map (fun i=>(i.zero,i.size,i.bytes))=some (some (.int .i64 0),1,8):=by kernel_rfl
def PErr (B came:Nat) (S:Nat→Prop) (w w':World):Prop:=∃cs,w'.heap[B]? =some (.cells cs 113 (0,0))∧cs.size=22∧cs[1]? =some (.int .i64 (came:Int))∧Fr S w w'
theorem PC.err {B:Nat} {S:Nat→Prop} {w0 W:World} {vi vo vt vm:Value} {s:Ps} (h:PC B S w0 vi vo vt vm W s):PErr B s.came S w0 W:=⟨_,h.pr.blk,rfl,rfl,h.fr⟩
def PDone (B came:Nat) (S:Nat→Prop) (w:World) (r:Except Nat Ps) (e:Ending) (w':World):Prop:=
 match r with
 |.ok s'=>e=.returned (.tuple #[])∧PSt B S w w' s'
 |.error n=>e=gave n∧PErr B came S w w'
theorem beginNest_any (B:Nat) (vi vo vt vm:Value) (s:Ps) (k st:Nat) (w:World) (h:PR B w vi vo vt vm s) (hq:Nn vt vm) (hlen:s.items.length≤10000000) (hol:s.opn.length≤10000000):
 Calls Tryz.prog 187 #[.pointer (some ⟨B,0,none⟩),.int .i64 (k:Int),.int .i64 (st:Int)] w (PDone B s.came (own B vi vo vt vm) w (psNest s k st)):=by
 have H:=hid (PC.start h);have oi:=h.oi;have oo:=h.oo;obtain⟨ai,ni,ci,rfl⟩:=row_shape3 oi;obtain⟨ao,no,co,rfl⟩:=row_shape3 oo
 have hni:ni=s.items.length:=by
  rcases oi.2 with⟨h,h2⟩|⟨_,_,_,h,_⟩
  ·simp at h;omega
  ·simp at h;exact h.2.1
 have hno:no=s.opn.length:=by
  rcases oo.2 with⟨h,h2⟩|⟨_,_,_,h,_⟩
  ·simp at h;omega
  ·simp at h;exact h.2.1
 subst hni;subst hno;have hBl:=lt_of_block h.blk;have k0:=blk_cell h.blk (show(psCells s (.slice ai s.items.length ci) (.slice ao s.opn.length co) vt vm)[0]? =some (.int .i64 (s.depth:Int))from rfl);have k5:=blk_cell h.blk (show(psCells s (.slice ai s.items.length ci) (.slice ao s.opn.length co) vt vm)[5]? =some (.slice ai s.items.length ci)from rfl);have k6:=blk_cell h.blk (show(psCells s (.slice ai s.items.length ci) (.slice ao s.opn.length co) vt vm)[6]? =some (.slice ao s.opn.length co)from rfl);have f6:=blk_free (j:=6) h.blk;have a5:∀ob,(w.alloc ob).cell? ⟨B,5,none⟩=some (.slice ai s.items.length ci):=fun ob=>(World.cell?_of_block (w:=w) (Below.heap_alloc _ _ _ hBl)).trans k5
 have a6:∀ob,(w.alloc ob).cell? ⟨B,6,none⟩=some (.slice ao s.opn.length co):=fun ob=>(World.cell?_of_block (w:=w) (Below.heap_alloc _ _ _ hBl)).trans k6
 unfold psNest;by_cases hd:s.opn.length=s.depth
 ·rw[if_pos hd]
  have hqd:((s.opn.length:Int)==(s.depth:Int))=true:=beq_iff_eq.2 (by omega);have HK:=hid H.out.drew.err;clear h oi oo hd a5 a6;go_enter Tryz.func187,Tryz.ntmps187;go_wp2;go_region
  all_goals
   go_wp2;exact⟨rfl,rfl,HK.out⟩
 ·rw[if_neg hd]
  have hqd:((s.opn.length:Int)==(s.depth:Int))=false:=beq_eq_false_iff_ne.2 (by omega);obtain⟨i0,hi,hz0,hz1,hz2⟩:=info_parts Tryz.info3P;obtain⟨j0,gi,gz0,gz1,gz2⟩:=info_parts Tryz.info29;have HD:=hid H.out.drew.drew;have OO:=hid (show w.drew.drew.ownsRow 0 3 1 (.slice ao s.opn.length co) s.opn.length (opV s.opn)from oo);clear h oi oo hd;go_enter Tryz.func187,Tryz.ntmps187
  go_upto_region 0 with fail
  go_cut [15] (fun b wc=>b=.bool false∧wc=w.drew)
  case first=>
   go_region
   all_goals
    go_wp2;go_meet;exact⟨rfl,rfl⟩
  case rest=>
   obtain⟨rfl,rfl⟩:=hcut;go_wp2
   go_region_law (refine step_append_d rfl _ _ 59 rfl 3 i0 (.int .i64 0) 1 8 Tryz.underlying59 hi hz0 hz1 hz2 rfl (by decide) (.slice ao s.opn.length co) _ _ rfl (OO.out.alloc _) ⟨w.drew.drew.heap.size,0,none⟩ 1 1 [.int .i64 (s.items.length:Int)] rfl rfl (cell_one_new _ _ _) (by intro u hu;simp at hu;subst hu;rfl) (by unfold maxLen;omega) (by omega) ?_;intro v' w1 hown' hgrow hnew;obtain⟨a',n',cap',rfl⟩:=row_shape3 hown';obtain⟨hh1,hR⟩:=HD.out.growO s.items.length hown' hgrow (by simpa using hnew);have q5:=blk_cell hh1 (show(psCells s (.slice ai s.items.length ci) (.slice ao s.opn.length co) vt vm)[5]? =some (.slice ai s.items.length ci)from rfl);have q6:=blk_cell hh1 (show(psCells s (.slice ai s.items.length ci) (.slice ao s.opn.length co) vt vm)[6]? =some (.slice ao s.opn.length co)from rfl);have p6:=blk_free (j:=6) hh1;have p5:=blk_free (j:=5) hh1;have HR:=hid hR;clear hown' hgrow hnew hh1 hR)
   all_goals
    generalize w1.setCell ⟨B,6,none⟩ (.slice a' n' cap')=W2 at*;have oi2:=HR.out.pr.oi;have r5:=blk_cell HR.out.pr.blk (show(psCells ⟨s.depth,s.came,s.st,s.items,s.opn++[s.items.length],s.word,s.tok,s.tx⟩ (.slice ai s.items.length ci) (.slice a' n' cap') vt vm)[5]? =some (.slice ai s.items.length ci)from rfl);have t5:=blk_free (j:=5) HR.out.pr.blk;clear q5 q6 p5 p6 k0 k5 k6 f6 a5 a6
    go_wp2_with (at_builtin;refine wpList_append_d _ rfl _ _ 22 rfl 29 j0 (.agg #[.int .i64 0,.int .i64 0,.int .u64 0,.string ⟨#[]⟩]) 4 40 Tryz.underlying22 gi gz0 gz1 gz2 rfl (by decide) _ _ _ rfl (oi2.alloc _) ⟨W2.heap.size,0,none⟩ 1 1 (itCells ⟨k,0,0,[]⟩) rfl rfl ?c1 ?c2 ?c3 ?c4 ?_)
    case c1=>first|exact four_new _ _ _ _ _ _|exact fun j u hj=>hj
    case c2=>intro u hu;simp[itCells]at hu;rcases hu with rfl|rfl|rfl|rfl<;>rfl
    case c3=>unfold maxLen;omega
    case c4=>omega
    intro v2 w2 hown2 hgrow2 hnew2;obtain⟨a2,n2,cap2,rfl⟩:=row_shape3 hown2;obtain⟨hh2,hR2⟩:=HR.out.growI ⟨k,0,0,[]⟩ hown2 hgrow2 hnew2;have u4:=blk_cell hh2 (show(psCells ⟨s.depth,s.came,s.st,s.items,s.opn++[s.items.length],s.word,s.tok,s.tx⟩ (.slice ai s.items.length ci) (.slice a' n' cap') vt vm)[4]? =some (.int .i64 (s.st:Int))from rfl);have u5:=blk_cell hh2 (show(psCells ⟨s.depth,s.came,s.st,s.items,s.opn++[s.items.length],s.word,s.tok,s.tx⟩ (.slice ai s.items.length ci) (.slice a' n' cap') vt vm)[5]? =some (.slice ai s.items.length ci)from rfl);have x4:=blk_free (j:=4) hh2;have x5:=blk_free (j:=5) hh2;have HR2:=hid (hR2.cell 4 (.int .i64 (st:Int)) ⟨s.depth,s.came,st,s.items++[⟨k,0,0,[]⟩],s.opn++[s.items.length],s.word,s.tok,s.tx⟩ rfl rfl rfl rfl rfl);clear hown2 hgrow2 hnew2 hh2 hR2 oi2 r5 t5;go_wp2;go_end0;exact⟨rfl,_,_,_,_,HR2.out,hq.q _⟩
theorem pick_gen (c:Int) (n:Nat) (w:World) (h1: -9223372036854775808≤c) (h2:c<9223372036854775808) (hn:1≤n) (hn2:n≤2000000000):
 Calls Tryz.prog 13 #[.int .i64 c,.int .i64 (n:Int)] w fun e w'=>∃k:Nat,k<n∧e=.returned (.int .i64 (k:Int))∧w'=w:=by
 rcases Int.lt_or_le c 0 with h|h
 ·have hm:=Int.emod_lt_of_pos (-(c+1)) (show(0:Int)<n by omega)
  have hp:=Int.emod_nonneg (-(c+1)) (show(n:Int)≠0 by omega);have e:Int.tmod (-(c+1)) n=(-(c+1)) % n:=Int.tmod_eq_emod_of_nonneg (by omega);obtain⟨k,hk⟩:∃k:Nat,(-(c+1)) % (n:Int)=(k:Int):=⟨((-(c+1)) % (n:Int)).toNat,by omega⟩;rw[hk]at e hm hp;have HK:=hid (show k<n by omega);clear hm hp hk;go_enter Tryz.func13,Tryz.ntmps13;go_wp2;go_ret;exact⟨k,HK.out,rfl,rfl⟩
 ·have hm:=Int.emod_lt_of_pos c (show(0:Int)<n by omega)
  have hp:=Int.emod_nonneg c (show(n:Int)≠0 by omega);have e:Int.tmod c n=c % n:=Int.tmod_eq_emod_of_nonneg (by omega);obtain⟨k,hk⟩:∃k:Nat,c % (n:Int)=(k:Int):=⟨(c % (n:Int)).toNat,by omega⟩;rw[hk]at e hm hp;have HK:=hid (show k<n by omega);clear hm hp hk;go_enter Tryz.func13,Tryz.ntmps13;go_wp2;go_ret;exact⟨k,HK.out,rfl,rfl⟩
theorem slice_len {w:World} {e n k cap:Nat} {a:Option Addr} {size:Nat} {xs:List Value} (h:w.ownsRow 0 e size (.slice a n cap) k xs):n=k:=by
 rcases h.2 with⟨h,h2⟩|⟨_,_,_,h,_⟩
 ·simp at h;omega
 ·simp at h;exact h.2.1
theorem row_some {w:World} {e n k cap:Nat} {a:Option Addr} {size:Nat} {xs:List Value} (h:w.ownsRow 0 e size (.slice a n cap) k xs) (hk:0<k):∃g,a=some ⟨g,0,none⟩:=by
 rcases h.2 with⟨_,h2⟩|⟨g,_,_,h,_⟩
 ·omega
 ·simp at h;exact⟨g,h.1⟩
theorem same_any (l:List It) (V U:Value) (w:World) (hl:l.length≤10000000) (h1:w.ownsRow 0 29 4 V l.length (itsV l)) (h2:w.ownsRow 0 29 4 U l.length (itsV l)):
 Calls Tryz.prog 15 #[V,U] w fun e w'=>e=.returned (.bool true)∧Fr (fun _=>False) w w':=by
 obtain⟨a,n,ca,rfl⟩:=row_shape3 h1;obtain⟨b,n',cb,rfl⟩:=row_shape3 h2;obtain rfl:=slice_len h1;obtain rfl:=slice_len h2;have H1:=hid h1;have H2:=hid h2;clear h1 h2;go_enter Tryz.func15,Tryz.ntmps15;go_wp2
 go_loopw [5] (fun i wr=>∃k:Nat,k≤l.length∧i=.int .i64 k∧Hid (Fr (fun _=>False) w wr)) (fun i _=>l.length-(intOf i).toNat)
 case atStart=>exact⟨0,by omega,rfl,hid (Fr.refl _ _)⟩
 case round=>
  obtain⟨k,hk,rfl,hF⟩:=hrel;by_cases hlt:k<l.length
  ·have r1:=rowFr H1.out hF.out (fun _ _=>id)
   have r2:=rowFr H2.out hF.out (fun _ _=>id);obtain⟨ga,rfl⟩:=row_some r1 (by omega);obtain⟨gb,rfl⟩:=row_some r2 (by omega);obtain⟨x,hx⟩:∃x,l[k]? =some x:=⟨l[k],List.getElem?_eq_getElem hlt⟩;have c10:=rowCell r1 (k*4+0) _ (itsV_get l k 0 x hx (by omega));have c11:=rowCell r1 (k*4+1) _ (itsV_get l k 1 x hx (by omega));have c12:=rowCell r1 (k*4+2) _ (itsV_get l k 2 x hx (by omega));have c13:=rowCell r1 (k*4+3) _ (itsV_get l k 3 x hx (by omega));have c20:=rowCell r2 (k*4+0) _ (itsV_get l k 0 x hx (by omega));have c21:=rowCell r2 (k*4+1) _ (itsV_get l k 1 x hx (by omega));have c22:=rowCell r2 (k*4+2) _ (itsV_get l k 2 x hx (by omega));have c23:=rowCell r2 (k*4+3) _ (itsV_get l k 3 x hx (by omega));obtain⟨xk,xn,xb,xs⟩:=x;simp only[Nat.add_zero]at c10 c11 c12 c13 c20 c21 c22 c23;clear r1 r2 hx;go_wp2;go_region
   all_goals
    go_wp2;go_roundw
    case rel=>exact⟨k+1,by omega,by go_num,hid hF.out.drew⟩
    case measure=>simp[intOf];omega
  ·obtain rfl:k=l.length:=by omega
   go_wp2;go_ret;exact⟨rfl,hF.out⟩
def encN (i:Nat):Value:=.int .i64 (i:Int)
structure DR (w0 w:World) (blk n cap:Nat) (xs:List Nat):Prop where
 fr:Fr (fun i=>i=blk) w0 w
 row:w.ownsRow 0 3 1 (.slice (some ⟨blk,0,none⟩) n cap) n (xs.map encN)
theorem DR.len {w0 w:World} {blk n cap:Nat} {xs:List Nat} (h:DR w0 w blk n cap xs):xs.length=n:=by
 have:=h.row.1;simpa using this
theorem DR.drewN {w0 w:World} {blk n cap:Nat} {xs:List Nat} (h:DR w0 w blk n cap xs) (k:Nat):DR w0 (w.drewN k) blk n cap xs:=⟨h.fr.drewN k,h.row⟩
theorem DR.drew {w0 w:World} {blk n cap:Nat} {xs:List Nat} (h:DR w0 w blk n cap xs):DR w0 w.drew blk n cap xs:=⟨h.fr.drew,h.row⟩
theorem DR.cell {w0 w:World} {blk n cap:Nat} {xs:List Nat} (h:DR w0 w blk n cap xs) (j x:Nat) (hj:xs[j]? =some x):w.cell? ⟨blk,j,none⟩=some (.int .i64 (x:Int)):=
 rowCell h.row j _ (by rw[List.getElem?_map,hj];rfl)
theorem DR.free {w0 w:World} {blk n cap:Nat} {xs:List Nat} (h:DR w0 w blk n cap xs) (j:Nat):w.frozen? ⟨blk,j,none⟩=false:=rowFree h.row j
theorem Tryz.mixedR:Tryz.prog.follows Departure.mixedOrders=true:=by kernel_rfl
theorem set_swap (P Q R:List Nat) (x y:Nat):((P++x::(Q++y::R)).set P.length y).set (P.length+1+Q.length) x=P++y::(Q++x::R):=by
 rw[List.set_append_right _ _ (Nat.le_refl _),Nat.sub_self,List.set_cons_zero,List.set_append_right _ _ (by omega),show P.length+1+Q.length-P.length=Q.length+1 by omega,List.set_cons_succ,List.set_append_right _ _ (Nat.le_refl _),Nat.sub_self,List.set_cons_zero]
theorem DR.swap {w0 w:World} {blk n cap:Nat} {P Q R:List Nat} {x y:Nat} (h:DR w0 w blk n cap (P++x::(Q++y::R))) (i j:Nat) (hi:i=P.length) (hj:j=P.length+1+Q.length):
 DR w0 ((w.setCell ⟨blk,i,none⟩ (.int .i64 (y:Int))).setCell ⟨blk,j,none⟩ (.int .i64 (x:Int))) blk n cap (P++y::(Q++x::R)):=by
 subst hi hj;refine⟨(h.fr.setCell (p:=⟨blk,P.length,none⟩) (.inl rfl) _).setCell (p:=⟨blk,P.length+1+Q.length,none⟩) (.inl rfl) _,?_⟩;have:=rowSet (rowSet h.row P.length (encN y)) (P.length+1+Q.length) (encN x);rw[←List.map_set,←List.map_set,set_swap]at this;exact this
theorem DR.swap' {w0 w:World} {blk n cap:Nat} {P Q R:List Nat} {x y:Nat} (h:DR w0 w blk n cap (P++x::(Q++y::R))) (i j:Nat) (hi:i=P.length) (hj:j=P.length+1+Q.length):
 DR w0 ((w.setCell ⟨blk,j,none⟩ (.int .i64 (x:Int))).setCell ⟨blk,i,none⟩ (.int .i64 (y:Int))) blk n cap (P++y::(Q++x::R)):=by
 subst hi hj;refine⟨(h.fr.setCell (p:=⟨blk,P.length+1+Q.length,none⟩) (.inl rfl) _).setCell (p:=⟨blk,P.length,none⟩) (.inl rfl) _,?_⟩;have:=rowSet (rowSet h.row (P.length+1+Q.length) (encN x)) P.length (encN y);rw[←List.map_set,←List.map_set,List.set_comm _ _ (by omega),set_swap]at this;exact this
theorem get_fst (P Q:List Nat) (x:Nat):(P++x::Q)[P.length]? =some x:=by
 rw[List.getElem?_append_right (Nat.le_refl _),Nat.sub_self];rfl
theorem get_snd (P Q R:List Nat) (x y:Nat):(P++x::(Q++y::R))[P.length+1+Q.length]? =some y:=by
 rw[List.getElem?_append_right (by omega),show P.length+1+Q.length-P.length=Q.length+1 by omega,List.getElem?_cons_succ,List.getElem?_append_right (Nat.le_refl _),Nat.sub_self];rfl
theorem swapRange_any (w0 w:World) (blk n cap k:Nat) (X A M B Y:List Nat) (g:Value) (h:DR w0 w blk n cap (X++A++M++B++Y)) (hA:A.length=k) (hB:B.length=k) (hn:n≤10000000):
 Calls Tryz.prog 224 #[.slice (some ⟨blk,0,none⟩) n cap,.int .i64 (X.length:Int),.int .i64 ((X.length+k+M.length:Nat):Int),.int .i64 (k:Int),g] w fun e w'=>e=.returned (.tuple #[])∧DR w0 w' blk n cap (X++B++M++A++Y):=by
 have hlen:=h.len;simp only[List.length_append]at hlen;have H:=hid h;have HA:=hid (And.intro hA hB);obtain⟨a,ha⟩:∃a,X.length=a:=⟨_,rfl⟩;obtain⟨b,hb⟩:∃b,X.length+k+M.length=b:=⟨_,rfl⟩;rw[hb,ha];have hbk:b+k≤n:=by omega
 have hak:a+k≤b:=by omega
 have HH:=hid (And.intro ha hb);clear h hA hB hlen ha hb;go_enter Tryz.func224,Tryz.ntmps224;go_wp2
 go_loopw [10] (fun s wr=>∃(i:Nat) (A1 A2 B1 B2:List Nat),i≤k∧s=.int .i64 (i:Int)∧Hid (A=A1++A2∧B=B1++B2∧A1.length=i∧B1.length=i)∧Hid (DR w0 wr blk n cap (X++B1++A2++M++A1++B2++Y))) (fun s _=>k-(intOf s).toNat)
 case atStart=>exact⟨0,[],A,[],B,by omega,rfl,hid ⟨rfl,rfl,rfl,rfl⟩,by simpa using H⟩
 case round=>
  obtain⟨i,A1,A2,B1,B2,hi,rfl,hS,hD⟩:=hrel;by_cases hlt:i<k
  ·obtain⟨x,A3,hA2⟩:∃x A3,A2=x::A3:=by
    cases A2 with
    |nil=>have h1:=hS.out;have h2:=HA.out;simp at h1;rw[h1.1]at h2;omega
    |cons x A3=>exact⟨x,A3,rfl⟩
   obtain⟨y,B3,hB2⟩:∃y B3,B2=y::B3:=by
    cases B2 with
    |nil=>have h1:=hS.out;have h2:=HA.out;simp at h1;rw[h1.2.1]at h2;omega
    |cons x A3=>exact⟨x,A3,rfl⟩
   subst hA2 hB2;have hd:DR w0 wr blk n cap ((X++B1)++x::((A3++M++A1)++y::(B3++Y))):=by simpa using hD.out
   have e1:(X++B1).length=a+i:=by have h1:=hS.out;have h2:=HH.out;rw[List.length_append];omega
   have e2:(X++B1).length+1+(A3++M++A1).length=b+i:=by
    have h1:=hS.out;have h2:=HH.out;have h3:=HA.out;have h4:=congrArg List.length h1.1;simp only[List.length_append,List.length_cons]at h4 ⊢;omega
   obtain⟨p,hp⟩:∃p,a+i=p:=⟨_,rfl⟩;obtain⟨q,hq⟩:∃q,b+i=q:=⟨_,rfl⟩;rw[hp]at e1;rw[hq]at e2;have c1:=hd.cell p x (by rw[←e1];exact get_fst _ _ _);have c2:=hd.cell q y (by rw[←e2];exact get_snd _ _ _ _ _);have f1:=hd.free p;have f2:=hd.free q;have pi:(a:Int)+(i:Int)=(p:Int):=by omega
   have qi:(b:Int)+(i:Int)=(q:Int):=by omega
   have wp1:IntKind.i64.wrap ((a:Int)+(i:Int))=(p:Int):=by rw[pi];exact IntWalk.i64_in _ (by omega)
   have wq1:IntKind.i64.wrap ((b:Int)+(i:Int))=(q:Int):=by rw[qi];exact IntWalk.i64_in _ (by omega)
   have hpn:p<n:=by omega
   have hqn:q<n:=by omega
   have hpz:(p:Int)<(n:Int):=by omega
   have hqz:(q:Int)<(n:Int):=by omega
   have S1:=hid (hd.swap p q e1.symm e2.symm);have S2:=hid (hd.swap' p q e1.symm e2.symm)
   have c3:(wr.setCell ⟨blk,p,none⟩ (.int .i64 (y:Int))).cell? ⟨blk,q,none⟩=some (.int .i64 (y:Int)):=by
    rw[World.cell?_setCell_other _ _ _ _ (by intro e;simp only[Addr.mk.injEq]at e;omega)];exact c2
   have f3:(wr.setCell ⟨blk,p,none⟩ (.int .i64 (y:Int))).frozen? ⟨blk,q,none⟩=false:=by rw[World.frozen?_setCell];exact f2
   have mixed:=Tryz.mixedR;have HE:=hid (And.intro e1 e2);clear hd e1 e2 hp hq hi;go_wp2
   go_big_region_o
   go_wp2;go_roundw
   case rel=>
    refine⟨i+1,A1++[x],A3,B1++[y],B3,by omega,by go_num,hid ?_,hid ?_⟩
    ·have h1:=hS.out
     simp[h1.1,h1.2.1,h1.2.2.1,h1.2.2.2]
    ·have:=S1.out.drew
     simpa using this
   case measure=>simp[intOf];omega
  ·obtain rfl:i=k:=by omega
   go_wp2;go_end0;refine⟨rfl,?_⟩;have h1:=hS.out;have h2:=HA.out
   have e1:A2=[]:=by
    have:=congrArg List.length h1.1;simp at this;exact List.eq_nil_of_length_eq_zero (by omega)
   have e2:B2=[]:=by
    have:=congrArg List.length h1.2.1;simp at this;exact List.eq_nil_of_length_eq_zero (by omega)
   subst e1 e2;have h3:=hD.out;simp at h1;rw[h1.1,h1.2.1];simpa using h3
end Go.Proofs.YtmkkibaacclhnaaGreatDoor
