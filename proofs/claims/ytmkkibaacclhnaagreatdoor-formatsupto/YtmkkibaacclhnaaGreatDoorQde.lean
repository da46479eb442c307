/-
  Part Qde.
-/
import Derived.Test.YtmkkibaacclhnaaGreatDoorPvx
import Derived.Test.YtmkkibaacclhnaaGreatDoorWs
import Derived.Test.YtmkkibaacclhnaaGreatDoorRc
namespace Go.Proofs.YtmkkibaacclhnaaGreatDoor
open Go.RowKit
set_option maxRecDepth 100000
set_option maxHeartbeats 16000000
theorem B6f {w:World} {v:Value} {l:LU8} (h:w.ownsRow 0 5 1 v l.length (us l)):(convert 65 9 v).run Tryz.prog w=.ok (.string (ofL l)) w:=by
 rcases h.2 with⟨rfl,c⟩|⟨g,cap,b,rfl,_⟩
 ·have a:l=[]:=List.eq_nil_of_length_eq_zero c
  subst a;rw[run_convert_bytes_string (P:=Tryz.prog) w 65 9 5 none 0 0 Tryz.underlying65 Tryz.underlying5 Tryz.underlying9];rfl
 ·exact run_convert_bytes_back (P:=Tryz.prog) w 65 9 5 ⟨g,0,none⟩ cap l Tryz.underlying65 Tryz.underlying5 Tryz.underlying9 (λj hj=>by
   have:=h.cells (g:=g) rfl j (.int .u8 (l[j].toNat:Int)) (by simp[us,hj])
   cases j<;>simpa[Addr.add]using this)
theorem PC.txt {B:Nat} {S:Nat->Prop} {w0 W w':World} {w t r p:Value} {s:Ps} {y:Tr} (h:PC B S w0 w t r p W s) (m:r.ownBlock=none) (D:A7k 0 B 14 113 (A0f s w t r p) p W w' y):
 ∃l,PC B S w0 w t r l w' ⟨s.depth,s.came,s.st,s.items,s.opn,s.word,s.tok,y⟩:=by
 obtain⟨⟨a,b,c,d,e,f⟩,g,k⟩:=h;obtain⟨K,l,⟨J,H,F⟩,L,fr,G⟩:=D;have I:=F0s H L;subst I;have M:=g.size
 have o:∀{q z n:Nat} {v:Value} {xs:List Value},W.ownsRow 0 q z v n xs->q≠113->q≠5->∀i,v.ownBlock=some i->¬(i=B\/p.ownBlock=some i):=by
  intro q z n v xs C x E i j u;rcases u with rfl|u
  ·exact A8y C a (λh=>x h.symm) j
  ·rcases F0g C e E with h|h
   ·rw[h]at j;cases j
   ·exact h (j.trans u.symm)
 refine⟨l,⟨J,A7e b fr (o b (by decide) (by decide)),A7e c fr (o c (by decide) (by decide)),A7e d fr (λi j=>by rw[m]at j;cases j),F,.inl m⟩,?_,?_⟩
 ·exact g.trans' fr (λi j=>k i (j.elim .inl (λh=>.inr (.inr (.inr (.inr h))))))
 ·intro i j
  rcases j with j|j|j|j|j
  ·exact k i (.inl j)
  ·exact k i (.inr (.inl j))
  ·exact k i (.inr (.inr (.inl j)))
  ·exact k i (.inr (.inr (.inr (.inl j))))
  ·rcases G i j with A|A
   ·exact k i (.inr (.inr (.inr (.inr A))))
   ·exact .inr (by omega)
theorem B5p.txt {B:Nat} {w w':World} {j g f d:Value} {s:Ps} (h:B7p B 14 113 (A0f s j g f d) d w w'):B5p B s.came (own B j g f d) w w':=by
 obtain⟨e,a,b,c⟩:=h;exact⟨e,a,b.1,(b.2 1 (by omega)).trans rfl,c.mono (λi hi=>hi.elim .inl (λh=>.inr (.inr (.inr (.inr h)))))⟩
theorem C1s (B:Nat) (i f g b:Value) (s:Ps) (k n:Nat) (c:UInt8) (w:World) (h:PR B w i f g b s) (a:TrOk s.tx k) (l:k<=10000000) (hr:A2q s.tx c=.error n):
 Calls Tryz.prog 83 #[.pointer (some ⟨B,0,none⟩),.int .u8 (c.toNat:Int)] w (A3v B s.came (own B i f g b) w (.error n)):=by
 have d:=B2j B 14 113 _ b s.tx k c w (by decide) h.trAt a l;rw[hr]at d;have j:=hid d;clear d hr h a;go_enter Tryz.func83,Tryz.ntmps83
 go_wp2_with fail
 refine Calls.mono j.out ?_;rintro e o ⟨rfl,m⟩;exact⟨rfl,rfl,B5p.txt m⟩
theorem C5w (B:Nat) (o l g f:Value) (s:Ps) (k:Nat) (c:UInt8) (n:Tr) (w:World) (h:PR B w o l g f s) (b:g.ownBlock=none) (a:s.st=8\/s.st=9) (d:TrOk s.tx k) (r:k<=10000000) (hr:A2q s.tx c=.ok (n,false)):
 Calls Tryz.prog 83 #[.pointer (some ⟨B,0,none⟩),.int .u8 (c.toNat:Int)] w (A3v B s.came (own B o l g f) w (.ok ⟨s.depth,s.came,s.st,s.items,s.opn,s.word,s.tok,n⟩)):=by
 have i:=B2j B 14 113 _ f s.tx k c w (by decide) h.trAt d r;rw[hr]at i;have q:=hid i;have H:=hid (PC.start h);have t:=hid a;clear i hr h d a;go_enter Tryz.func83,Tryz.ntmps83
 go_wp2_with fail
 refine Calls.mono q.out ?_;rintro e v ⟨rfl,m⟩;obtain⟨p,j⟩:=H.txt b m;have u:=hid j;clear m j;go_wp2;go_end0
 exact⟨rfl,_,_,_,_,u.out,λ_=>b,λh8 h9=>by
  rcases t.out with h|h
  ·exact absurd h h8
  ·exact absurd h h9⟩
theorem C0a (B:Nat) (X p i L:Value) (s:Ps) (m k:Nat) (c:UInt8) (d:Tr) (w:World) (h:PR B w X p i L s) (A:i.ownBlock=none) (P:s.st=8) (r:PsOk s m k) (hm:m<=5000000) (hk:k<=10000000) (hr:A2q s.tx c=.ok (d,true)):
 Calls Tryz.prog 83 #[.pointer (some ⟨B,0,none⟩),.int .u8 (c.toNat:Int)] w (A3v B s.came (own B X p i L) w (.ok ⟨s.depth,s.came,4,s.items++[⟨4,0,0,d.made⟩],s.opn,s.word,s.tok,tr0⟩)):=by
 have K:=B2j B 14 113 _ L s.tx k c w (by decide) h.trAt r.txk hk;rw[hr]at K;have U:=hid K;have H:=hid (PC.start h);have b4:=r.c.oln;have a7:=r.c.iln;have HE:=hid (λ(w:World) (ui:Value) (F:PR B w ui p i (.slice none 0 0) ⟨s.depth,s.came,s.st,s.items++[⟨4,0,0,d.made⟩],s.opn,s.word,s.tok,tr0⟩)=>A7a B ui p i (.slice none 0 0) ⟨s.depth,s.came,s.st,s.items++[⟨4,0,0,d.made⟩],s.opn,s.word,s.tok,tr0⟩ w F ⟨A,rfl⟩ ((r.c.item ⟨4,0,0,d.made⟩ s.st s.word r.c.wln s.tok tr0).ok (by omega)) (by show(s.items++[_]).length<=_;simp;omega) (by show s.opn.length<=_;omega));obtain⟨i0,hi,G,J,O⟩:=info_parts Tryz.info29;have HT:=hid (show((s.st:Int))=8 by omega);clear K hr h r P;go_enter Tryz.func83,Tryz.ntmps83
 go_wp2_with fail
 refine Calls.mono U.out ?_;rintro e C ⟨rfl,F⟩;obtain⟨a8,y⟩:=H.txt A F;have T:=hid y;have Q:=y.pr.oi;obtain⟨a,n,cap,rfl⟩:=A0h Q;obtain⟨o,l,b,rfl⟩:=A0h y.pr.om;have W:=hid (show C.drew.ownsRow 0 29 4 (.slice a n cap) s.items.length (B3e s.items)from Q);have S:=A0a y.pr.blk (show(A0f ⟨s.depth,s.came,s.st,s.items,s.opn,s.word,s.tok,d⟩ (.slice a n cap) p i (.slice o l b))[5]? =some (.slice a n cap)from rfl);have I:=A0a y.pr.blk (show(A0f ⟨s.depth,s.came,s.st,s.items,s.opn,s.word,s.tok,d⟩ (.slice a n cap) p i (.slice o l b))[15]? =some (.slice o l b)from rfl);have N:(convert 65 9 (.slice o l b)).run Tryz.prog C.drew=.ok (.string (ofL d.made)) C.drew:=B6f (show C.drew.ownsRow 0 5 1 (.slice o l b) d.made.length (us d.made)from y.pr.om);have R:=lt_of_block y.pr.blk;have a5:∀ob,(C.alloc ob).cell? ⟨B,5,none⟩=some (.slice a n cap):=λob=>(World.cell?_of_block (w:=C) (Below.heap_alloc _ _ _ R)).trans S
 clear F y U Q;go_wp2
 go_region_law (refine A7q rfl _ _ 22 rfl 29 i0 (.agg #[.int .i64 0,.int .i64 0,.int .u64 0,.string ⟨#[]⟩]) 4 40 Tryz.underlying22 hi G J O rfl (by decide) (.slice a n cap) _ _ rfl (W.alloc _) ⟨C.drew.heap.size,0,none⟩ 1 1 (A1f ⟨4,0,0,d.made⟩) rfl rfl (A3p _ _ _ _ _ _) (by intro u V;simp[A1f]at V;rcases V with rfl|rfl|rfl|rfl<;>rfl) (by unfold maxLen;omega) (by omega) ?_;intro v' w1 q t z;obtain⟨x,v,g,rfl⟩:=A0h q;obtain⟨D,E⟩:=T.drew.growI ⟨4,0,0,d.made⟩ q t (by simpa using z);have q5:=A0a D (show(A0f ⟨s.depth,s.came,s.st,s.items,s.opn,s.word,s.tok,d⟩ (.slice a n cap) p i (.slice o l b))[5]? =some (.slice a n cap)from rfl);have p5:=A0b (j:=5) D;have f:=hid E;clear q t z D E)
 all_goals
  generalize w1.setCell ⟨B,5,none⟩ (.slice x v g)=W2 at*;have r4:=A0a f.pr.blk (show(A0f ⟨s.depth,s.came,s.st,s.items++[⟨4,0,0,d.made⟩],s.opn,s.word,s.tok,d⟩ (.slice x v g) p i (.slice o l b))[4]? =some (.int .i64 (s.st:Int))from rfl);have g4:=A0b (j:=4) f.pr.blk;have Y:=A0a f.pr.blk (show(A0f ⟨s.depth,s.came,s.st,s.items++[⟨4,0,0,d.made⟩],s.opn,s.word,s.tok,d⟩ (.slice x v g) p i (.slice o l b))[14]? =some (.int .i64 (d.st:Int))from rfl);have a0:=A0b (j:=14) f.pr.blk;have a4:=A0a f.pr.blk (show(A0f ⟨s.depth,s.came,s.st,s.items++[⟨4,0,0,d.made⟩],s.opn,s.word,s.tok,d⟩ (.slice x v g) p i (.slice o l b))[15]? =some (.slice o l b)from rfl);have b1:=A0b (j:=15) f.pr.blk;have a1:=A0a f.pr.blk (show(A0f ⟨s.depth,s.came,s.st,s.items++[⟨4,0,0,d.made⟩],s.opn,s.word,s.tok,d⟩ (.slice x v g) p i (.slice o l b))[16]? =some (.int .i64 (d.lack:Int))from rfl);have b0:=A0b (j:=16) f.pr.blk;have b2:=A0a f.pr.blk (show(A0f ⟨s.depth,s.came,s.st,s.items++[⟨4,0,0,d.made⟩],s.opn,s.word,s.tok,d⟩ (.slice x v g) p i (.slice o l b))[17]? =some (.int .u8 (d.lo:Int))from rfl);have b8:=A0b (j:=17) f.pr.blk;have b7:=A0a f.pr.blk (show(A0f ⟨s.depth,s.came,s.st,s.items++[⟨4,0,0,d.made⟩],s.opn,s.word,s.tok,d⟩ (.slice x v g) p i (.slice o l b))[18]? =some (.int .u8 (d.hi:Int))from rfl);have a9:=A0b (j:=18) f.pr.blk;have b5:=A0a f.pr.blk (show(A0f ⟨s.depth,s.came,s.st,s.items++[⟨4,0,0,d.made⟩],s.opn,s.word,s.tok,d⟩ (.slice x v g) p i (.slice o l b))[19]? =some (.int .i64 (d.dg:Int))from rfl);have a3:=A0b (j:=19) f.pr.blk;have b3:=A0a f.pr.blk (show(A0f ⟨s.depth,s.came,s.st,s.items++[⟨4,0,0,d.made⟩],s.opn,s.word,s.tok,d⟩ (.slice x v g) p i (.slice o l b))[20]? =some (.int .i32 (d.code:Int))from rfl);have Z:=A0b (j:=20) f.pr.blk;have a6:=A0a f.pr.blk (show(A0f ⟨s.depth,s.came,s.st,s.items++[⟨4,0,0,d.made⟩],s.opn,s.word,s.tok,d⟩ (.slice x v g) p i (.slice o l b))[21]? =some (.int .i32 (d.high:Int))from rfl);have b6:=A0b (j:=21) f.pr.blk;rw[HT.out]at r4;have HN:=hid f.txNil;clear q5 p5 S I a5 N W T;have M:=hid (HN.cell 4 (.int .i64 4) ⟨s.depth,s.came,4,s.items++[⟨4,0,0,d.made⟩],s.opn,s.word,s.tok,tr0⟩ rfl rfl rfl rfl rfl);go_wp2;go_end0;exact⟨rfl,_,_,_,_,M.out,λ_=>A,λ_ _=>rfl⟩
theorem C0b (B:Nat) (W p i L:Value) (s:Ps) (m k:Nat) (c:UInt8) (f:Tr) (w:World) (h:PR B w W p i L s) (E:i.ownBlock=none) (O:s.st=9) (r:PsOk s m k) (hm:m<=5000000) (hk:k<=10000000) (hr:A2q s.tx c=.ok (f,true)):
 Calls Tryz.prog 83 #[.pointer (some ⟨B,0,none⟩),.int .u8 (c.toNat:Int)] w (A3v B s.came (own B W p i L) w (.ok (A2h ⟨s.depth,s.came,s.st,s.items++[⟨4,0,0,f.made⟩],s.opn,s.word,s.tok,tr0⟩))):=by
 have K:=B2j B 14 113 _ L s.tx k c w (by decide) h.trAt r.txk hk;rw[hr]at K;have T:=hid K;have H:=hid (PC.start h);have b4:=r.c.oln;have a7:=r.c.iln;have HE:=hid (λ(w:World) (ui:Value) (C:PR B w ui p i (.slice none 0 0) ⟨s.depth,s.came,s.st,s.items++[⟨4,0,0,f.made⟩],s.opn,s.word,s.tok,tr0⟩)=>A7a B ui p i (.slice none 0 0) ⟨s.depth,s.came,s.st,s.items++[⟨4,0,0,f.made⟩],s.opn,s.word,s.tok,tr0⟩ w C ⟨E,rfl⟩ ((r.c.item ⟨4,0,0,f.made⟩ s.st s.word r.c.wln s.tok tr0).ok (by omega)) (by show(s.items++[_]).length<=_;simp;omega) (by show s.opn.length<=_;omega));obtain⟨i0,hi,G,J,N⟩:=info_parts Tryz.info29;have HT:=hid (show((s.st:Int))=9 by omega);clear K hr h r O;go_enter Tryz.func83,Tryz.ntmps83
 go_wp2_with fail
 refine Calls.mono T.out ?_;rintro e A ⟨rfl,C⟩;obtain⟨a8,y⟩:=H.txt E C;have S:=hid y;have P:=y.pr.oi;obtain⟨a,n,cap,rfl⟩:=A0h P;obtain⟨o,l,b,rfl⟩:=A0h y.pr.om;have V:=hid (show A.drew.ownsRow 0 29 4 (.slice a n cap) s.items.length (B3e s.items)from P);have R:=A0a y.pr.blk (show(A0f ⟨s.depth,s.came,s.st,s.items,s.opn,s.word,s.tok,f⟩ (.slice a n cap) p i (.slice o l b))[5]? =some (.slice a n cap)from rfl);have I:=A0a y.pr.blk (show(A0f ⟨s.depth,s.came,s.st,s.items,s.opn,s.word,s.tok,f⟩ (.slice a n cap) p i (.slice o l b))[15]? =some (.slice o l b)from rfl);have M:(convert 65 9 (.slice o l b)).run Tryz.prog A.drew=.ok (.string (ofL f.made)) A.drew:=B6f (show A.drew.ownsRow 0 5 1 (.slice o l b) f.made.length (us f.made)from y.pr.om);have Q:=lt_of_block y.pr.blk;have a5:∀ob,(A.alloc ob).cell? ⟨B,5,none⟩=some (.slice a n cap):=λob=>(World.cell?_of_block (w:=A) (Below.heap_alloc _ _ _ Q)).trans R
 clear C y T P;go_wp2
 go_region_law (refine A7q rfl _ _ 22 rfl 29 i0 (.agg #[.int .i64 0,.int .i64 0,.int .u64 0,.string ⟨#[]⟩]) 4 40 Tryz.underlying22 hi G J N rfl (by decide) (.slice a n cap) _ _ rfl (V.alloc _) ⟨A.drew.heap.size,0,none⟩ 1 1 (A1f ⟨4,0,0,f.made⟩) rfl rfl (A3p _ _ _ _ _ _) (by intro u U;simp[A1f]at U;rcases U with rfl|rfl|rfl|rfl<;>rfl) (by unfold maxLen;omega) (by omega) ?_;intro v' w1 q t z;obtain⟨x,v,g,rfl⟩:=A0h q;obtain⟨D,F⟩:=S.drew.growI ⟨4,0,0,f.made⟩ q t (by simpa using z);have q5:=A0a D (show(A0f ⟨s.depth,s.came,s.st,s.items,s.opn,s.word,s.tok,f⟩ (.slice a n cap) p i (.slice o l b))[5]? =some (.slice a n cap)from rfl);have p5:=A0b (j:=5) D;have d:=hid F;clear q t z D F)
 all_goals
  generalize w1.setCell ⟨B,5,none⟩ (.slice x v g)=W2 at*;have r4:=A0a d.pr.blk (show(A0f ⟨s.depth,s.came,s.st,s.items++[⟨4,0,0,f.made⟩],s.opn,s.word,s.tok,f⟩ (.slice x v g) p i (.slice o l b))[4]? =some (.int .i64 (s.st:Int))from rfl);have g4:=A0b (j:=4) d.pr.blk;have Y:=A0a d.pr.blk (show(A0f ⟨s.depth,s.came,s.st,s.items++[⟨4,0,0,f.made⟩],s.opn,s.word,s.tok,f⟩ (.slice x v g) p i (.slice o l b))[14]? =some (.int .i64 (f.st:Int))from rfl);have a0:=A0b (j:=14) d.pr.blk;have a4:=A0a d.pr.blk (show(A0f ⟨s.depth,s.came,s.st,s.items++[⟨4,0,0,f.made⟩],s.opn,s.word,s.tok,f⟩ (.slice x v g) p i (.slice o l b))[15]? =some (.slice o l b)from rfl);have b1:=A0b (j:=15) d.pr.blk;have a1:=A0a d.pr.blk (show(A0f ⟨s.depth,s.came,s.st,s.items++[⟨4,0,0,f.made⟩],s.opn,s.word,s.tok,f⟩ (.slice x v g) p i (.slice o l b))[16]? =some (.int .i64 (f.lack:Int))from rfl);have b0:=A0b (j:=16) d.pr.blk;have b2:=A0a d.pr.blk (show(A0f ⟨s.depth,s.came,s.st,s.items++[⟨4,0,0,f.made⟩],s.opn,s.word,s.tok,f⟩ (.slice x v g) p i (.slice o l b))[17]? =some (.int .u8 (f.lo:Int))from rfl);have b8:=A0b (j:=17) d.pr.blk;have b7:=A0a d.pr.blk (show(A0f ⟨s.depth,s.came,s.st,s.items++[⟨4,0,0,f.made⟩],s.opn,s.word,s.tok,f⟩ (.slice x v g) p i (.slice o l b))[18]? =some (.int .u8 (f.hi:Int))from rfl);have a9:=A0b (j:=18) d.pr.blk;have b5:=A0a d.pr.blk (show(A0f ⟨s.depth,s.came,s.st,s.items++[⟨4,0,0,f.made⟩],s.opn,s.word,s.tok,f⟩ (.slice x v g) p i (.slice o l b))[19]? =some (.int .i64 (f.dg:Int))from rfl);have a3:=A0b (j:=19) d.pr.blk;have b3:=A0a d.pr.blk (show(A0f ⟨s.depth,s.came,s.st,s.items++[⟨4,0,0,f.made⟩],s.opn,s.word,s.tok,f⟩ (.slice x v g) p i (.slice o l b))[20]? =some (.int .i32 (f.code:Int))from rfl);have Z:=A0b (j:=20) d.pr.blk;have a6:=A0a d.pr.blk (show(A0f ⟨s.depth,s.came,s.st,s.items++[⟨4,0,0,f.made⟩],s.opn,s.word,s.tok,f⟩ (.slice x v g) p i (.slice o l b))[21]? =some (.int .i32 (f.high:Int))from rfl);have b6:=A0b (j:=21) d.pr.blk;rw[HT.out]at r4;have X:=hid d.txNil;clear q5 p5 R I a5 M V S
  go_wp2_with fail
  refine Calls.mono (HE.out _ _ X.pr) ?_;rintro e w3 ⟨rfl,C⟩;have HQ:=hid (X.trans C);clear C;go_wp2;go_end0;exact⟨rfl,HQ.out⟩
theorem C1t (B:Nat) (i e d f:Value) (s:Ps) (m k:Nat) (c:UInt8) (w:World) (h:PR B w i e d f s) (g:d.ownBlock=none) (p:s.st=8\/s.st=9) (a:PsOk s m k) (q:m<=5000000) (j:k<=10000000):
 Calls Tryz.prog 83 #[.pointer (some ⟨B,0,none⟩),.int .u8 (c.toNat:Int)] w (A3v B s.came (own B i e d f) w (A5r s c)):=by
 unfold A5r;cases hr:A2q s.tx c with
 |error n=>exact C1s B i e d f s k n c w h a.txk j hr
 |ok x=>
  obtain⟨l,b⟩:=x;cases b with
  |false=>exact C5w B i e d f s k c l w h g p a.txk j hr
  |true=>
   show Calls Tryz.prog 83 _ w (A3v B s.came (own B i e d f) w (if s.st=8 then .ok _ else .ok _))
   by_cases o:s.st=8
   ·rw[if_pos o]
    exact C0a B i e d f s m k c l w h g o a q j hr
   ·rw[if_neg o]
    exact C0b B i e d f s m k c l w h g (by omega) a q j hr
theorem G4d (B:Nat) (S:Nat->Prop) (k f j g:Value) (s:Ps) (r:Except Nat Ps) (c:UInt8) (w:World) (h:PR B w k f j g s) (a:s.st=6) (b:Calls Tryz.prog 81 #[.pointer (some ⟨B,0,none⟩),.int .u8 (c.toNat:Int)] w (A3v B s.came S w r)):
 Calls Tryz.prog 50 #[.pointer (some ⟨B,0,none⟩),.int .u8 (c.toNat:Int)] w (A3v B s.came S w r):=by
 have l:=A0a h.blk (show(A0f s k f j g)[4]? =some (.int .i64 (s.st:Int))from rfl);rw[a]at l;clear h a;cases r with
 |error n=>
  have d:=hid b;clear b;go_enter Tryz.func50,Tryz.ntmps50
  go_wp2_with fail
  refine Calls.mono d.out ?_;rintro e o ⟨rfl,m⟩;exact⟨rfl,rfl,m⟩
 |ok s'=>
  have d:=hid b;clear b;go_enter Tryz.func50,Tryz.ntmps50
  go_wp2_with fail
  refine Calls.mono d.out ?_;rintro e o ⟨rfl,i⟩;have p:=hid i;clear i;go_wp2;go_end0;exact⟨rfl,p.out⟩
theorem G4e (B:Nat) (S:Nat->Prop) (k f j g:Value) (s:Ps) (r:Except Nat Ps) (c:UInt8) (w:World) (h:PR B w k f j g s) (a:s.st=7) (b:Calls Tryz.prog 82 #[.pointer (some ⟨B,0,none⟩),.int .u8 (c.toNat:Int)] w (A3v B s.came S w r)):
 Calls Tryz.prog 50 #[.pointer (some ⟨B,0,none⟩),.int .u8 (c.toNat:Int)] w (A3v B s.came S w r):=by
 have l:=A0a h.blk (show(A0f s k f j g)[4]? =some (.int .i64 (s.st:Int))from rfl);rw[a]at l;clear h a;cases r with
 |error n=>
  have d:=hid b;clear b;go_enter Tryz.func50,Tryz.ntmps50
  go_wp2_with fail
  refine Calls.mono d.out ?_;rintro e o ⟨rfl,m⟩;exact⟨rfl,rfl,m⟩
 |ok s'=>
  have d:=hid b;clear b;go_enter Tryz.func50,Tryz.ntmps50
  go_wp2_with fail
  refine Calls.mono d.out ?_;rintro e o ⟨rfl,i⟩;have p:=hid i;clear i;go_wp2;go_end0;exact⟨rfl,p.out⟩
theorem G4f (B:Nat) (S:Nat->Prop) (k f j g:Value) (s:Ps) (r:Except Nat Ps) (c:UInt8) (w:World) (h:PR B w k f j g s) (a:s.st=8) (b:Calls Tryz.prog 83 #[.pointer (some ⟨B,0,none⟩),.int .u8 (c.toNat:Int)] w (A3v B s.came S w r)):
 Calls Tryz.prog 50 #[.pointer (some ⟨B,0,none⟩),.int .u8 (c.toNat:Int)] w (A3v B s.came S w r):=by
 have l:=A0a h.blk (show(A0f s k f j g)[4]? =some (.int .i64 (s.st:Int))from rfl);rw[a]at l;clear h a;cases r with
 |error n=>
  have d:=hid b;clear b;go_enter Tryz.func50,Tryz.ntmps50
  go_wp2_with fail
  refine Calls.mono d.out ?_;rintro e o ⟨rfl,m⟩;exact⟨rfl,rfl,m⟩
 |ok s'=>
  have d:=hid b;clear b;go_enter Tryz.func50,Tryz.ntmps50
  go_wp2_with fail
  refine Calls.mono d.out ?_;rintro e o ⟨rfl,i⟩;have p:=hid i;clear i;go_wp2;go_end0;exact⟨rfl,p.out⟩
theorem G4g (B:Nat) (S:Nat->Prop) (k f j g:Value) (s:Ps) (r:Except Nat Ps) (c:UInt8) (w:World) (h:PR B w k f j g s) (a:s.st=9) (b:Calls Tryz.prog 83 #[.pointer (some ⟨B,0,none⟩),.int .u8 (c.toNat:Int)] w (A3v B s.came S w r)):
 Calls Tryz.prog 50 #[.pointer (some ⟨B,0,none⟩),.int .u8 (c.toNat:Int)] w (A3v B s.came S w r):=by
 have l:=A0a h.blk (show(A0f s k f j g)[4]? =some (.int .i64 (s.st:Int))from rfl);rw[a]at l;clear h a;cases r with
 |error n=>
  have d:=hid b;clear b;go_enter Tryz.func50,Tryz.ntmps50
  go_wp2_with fail
  refine Calls.mono d.out ?_;rintro e o ⟨rfl,m⟩;exact⟨rfl,rfl,m⟩
 |ok s'=>
  have d:=hid b;clear b;go_enter Tryz.func50,Tryz.ntmps50
  go_wp2_with fail
  refine Calls.mono d.out ?_;rintro e o ⟨rfl,i⟩;have p:=hid i;clear i;go_wp2;go_end0;exact⟨rfl,p.out⟩
theorem F0v (B:Nat) (f e d b:Value) (s:Ps) (m k:Nat) (c:UInt8) (w:World) (h:PR B w f e d b s) (j:Qv s d b) (a:PsOk s m k) (p:m<=5000000) (o:k<=10000000):
 Calls Tryz.prog 50 #[.pointer (some ⟨B,0,none⟩),.int .u8 (c.toNat:Int)] w (A3v B s.came (own B f e d b) w (A1u s c)):=by
 unfold A1u;by_cases l:s.st=6
 ·rw[if_pos l]
  refine G4d B _ f e d b s _ c w h l ?_;have v:=a.wrd l;have q:=a.c.wln;have z:=a.c.iln;have y:=a.c.oln;cases n:s.word with
  |nil=>exact absurd n v
  |cons x r=>
   rw[n]at q;simp at q;exact C1p B f e d b s x r c w h ⟨j.1 (by omega),j.2 (by omega) (by omega)⟩ n (by omega) (a.c.ok (by omega)) (by omega) (by omega)
 rw[if_neg l];by_cases i:s.st=7
 ·rw[if_pos i]
  refine G4e B _ f e d b s _ c w h i ?_;by_cases t:beh s.tok.st c=0
  ·exact B4v B f e d b s m k c w h (j.2 (by omega) (by omega)) a p o i t
  ·exact C1r B f e d b s m k c w h (j.2 (by omega) (by omega)) a o i t
 rw[if_neg i];by_cases g:s.st=8\/s.st=9
 ·rw[if_pos g]
  have u:=C1t B f e d b s m k c w h (j.1 i) g a p o;rcases g with g|g
  ·exact G4f B _ f e d b s _ c w h g u
  ·exact G4g B _ f e d b s _ c w h g u
 ·rw[if_neg g]
  have:=a.st;exact C5u B f e d b s m k c w h ⟨j.1 i,j.2 (λh=>g (.inl h)) (λh=>g (.inr h))⟩ a (by omega) (by omega)
theorem B3h {P:Program} {d:Array Oper} {o:Oper} {a:Act} {w:World} {K:Act->World->Prop} {Q:Exit->Act->World->Prop} {E:Prop}
 (i:o.guard=none) (f:TypeId) (x y:Operand) (p:o.op=.store f x y) (g:Nat) (b:Array Value) (m:a.eval x=.pointer (some ⟨g,0,none⟩)) (k:a.eval y=.agg b)
 (t:TypeId) (c:Array Value) (l:w.heap[g]? =some (.cells c t (0,0))) (j:(P.info? f).map (·.size)=some b.size) (e:c.size=b.size) (n:b.all (·.oneCell')=true)
 (h:K (a.put o.dst undef) (w.setRow g b)):if Region.wanted o (yielded d a.tmps)=true then Oper.wp P o a w K Q else E:=by
 have q:Region.wanted o (yielded d a.tmps)=true:=by simp[Region.wanted,i]
 rw[if_pos q];exact wp_store_row f x y p g b m k t c l j e n h
def A3k (came n:Int):Array Value:=
 #[.int .i64 0,.int .i64 came,.int .i64 n,.bool false,.int .i64 0,.slice none 0 0,.slice none 0 0,.string (ofL []),
  .int .i64 0,.bool false,.slice none 0 0,.int .i64 0,.int .i64 0,.bool false,
  .int .i64 0,.slice none 0 0,.int .i64 0,.int .u8 0,.int .u8 0,.int .i64 0,.int .i32 0,.int .i32 0]
theorem C8t (a n:Int):(A3k a n).all (·.oneCell')=true:=by simp[A3k,Value.oneCell']
theorem Tryz.info75R:(Tryz.prog.info? 113).map (·.size)=some 22:=by kernel_rfl
theorem E4b (w:World) (v:Value):(Instr.typeAssert (.iface 153 v) 20 153 true).run Tryz.prog w=.ok (.tuple #[v,.bool true]) w:=by kernel_rfl
def F0w (B came n:Nat) (S:Nat->Prop) (w w':World):Prop:=w'.heap[B]? =some (.cells (A3k came n) 113 (0,0))/\Fr S w w'
theorem Fr.setRow {S:Nat->Prop} {a w:World} (h:Fr S a w) {g:Nat} (d:S g\/a.heap.size<=g) (b:Array Value):Fr S a (w.setRow g b):=
 ⟨h.os,h.tape,h.output,by rw[setRow_size];exact h.size,λk hk hs=>(setRow_other w g k b (by rintro rfl;rcases d with c|c;exact hs c;omega)).trans (h.block k hk hs)⟩
theorem D7y (B a n:Nat) (S:Nat->Prop) (w0 w:World) (h:B5p B a S w0 w) (k:S B\/w0.heap.size<=B):
 Calls Tryz.prog 49 #[.pointer (some ⟨B,0,none⟩),.iface 153 (.agg #[.int .i64 (n:Int)])] w λe w'=>e=.returned (.int .i64 (n:Int))/\F0w B a n S w0 w':=by
 obtain⟨g,f,d,b,l⟩:=h;have c:=lt_of_block f;have q:=λw v=>E4b w v
 have p:=A0a f b;have s:∀ob,(w.alloc ob).cell? ⟨B,1,none⟩=some (.int .i64 (a:Int)):=λob=>(World.cell?_of_block (w:=w) (Below.heap_alloc _ _ _ c)).trans p
 have j:=hid (show((w.alloc (.cells #[.int .i64 (n:Int)] 153)).drew).heap[B]? =some (.cells g 113 (0,0))from(Below.heap_alloc _ _ _ c).trans f)
 have r:(((w.alloc (.cells #[.int .i64 (n:Int)] 153)).drew).setRow B (A3k a n)).cell? ⟨w.heap.size,0,none⟩=some (.int .i64 (n:Int)):=by
  rw[cell_setRow_other _ _ _ _ (by show w.heap.size≠B;omega)]
  go_simp
 have m:=hid (show F0w B a n S w0 (((w.alloc (.cells #[.int .i64 (n:Int)] 153)).drew).setRow B (A3k a n))from
  ⟨setRow_heap _ _ _ _ _ _ j.out,((l.alloc _).drew).setRow k _⟩)
 have o:=hid (show g.size=(A3k a n).size from d);clear f l k d b;go_enter Tryz.func49,Tryz.ntmps49;go_wp2;refine wp_region_any (by kernel_rfl) ?_
 change wpAny _ _ _ _ _ _ _ (World.drew _)
 refine wpAny_take (i:=0) (v:=?_) rfl (by kernel_rfl) (by kernel_rfl) (by kernel_rfl) (λ_ _ _ h=>h) (Or.inl ⟨by rfl,?_⟩) ?_
 rotate_left
 ·(intro w;go_simp;try with_reducible rfl)
 refine wpAny_take (i:=1) (v:=?_) rfl (by kernel_rfl) (by kernel_rfl) (by kernel_rfl) (λ_ _ _ h=>h) (Or.inl ⟨by rfl,?_⟩) ?_
 rotate_left
 ·(intro w;go_simp;try with_reducible rfl)
 refine wpAny_take (i:=2) (v:=?_) rfl (by kernel_rfl) (by kernel_rfl) (by kernel_rfl) (λ_ _ _ h=>h) (Or.inl ⟨by rfl,?_⟩) ?_
 rotate_left
 ·(intro w;go_simp;try with_reducible rfl)
 refine wpAny_take (i:=3) (v:=?_) rfl (by kernel_rfl) (by kernel_rfl) (by kernel_rfl) (λ_ _ _ h=>h) (Or.inl ⟨by rfl,?_⟩) ?_
 rotate_left
 ·(intro w;go_simp;try with_reducible rfl)
 refine wpAny_take (i:=5) (v:=?_) rfl (by kernel_rfl) (by kernel_rfl) (by kernel_rfl) (λ_ _ _ h=>h) (Or.inl ⟨by rfl,?_⟩) ?_
 rotate_left
 ·(intro w;go_simp;try with_reducible rfl)
 refine wpAny_ready (rs:=[4,6]) (by kernel_rfl) (by simp) ?_;refine AllReady.cons rfl (λK hK=>?_) ?_
 ·go_simp
  refine hK _ _ ?_;clear hK K;refine wpAny_ready (rs:=[6]) (by kernel_rfl) (by simp) ?_;refine AllReady.cons rfl (λK hK=>?_) AllReady.nil
  go_simp
  refine hK _ _ ?_;clear hK K;refine wpAny_take (i:=7) (v:=?_) rfl (by kernel_rfl) (by kernel_rfl) (by kernel_rfl) (λ_ _ _ h=>h) (Or.inl ⟨by rfl,?_⟩) ?_
  rotate_left
  ·(intro w;go_simp;try with_reducible rfl)
  refine wpAny_take (i:=8) (v:=?_) rfl (by kernel_rfl) (by kernel_rfl) (by kernel_rfl) (λ_ _ _ h=>h) (Or.inl ⟨by rfl,?_⟩) ?_
  rotate_left
  ·(intro w;go_simp;try with_reducible rfl)
  refine wpAny_ready (rs:=[9]) (by kernel_rfl) (by simp) ?_;refine AllReady.cons rfl (λK hK=>?_) AllReady.nil;refine B3h rfl 113 _ _ rfl B (A3k a n) rfl rfl 113 g j.out Tryz.info75R o.out (C8t _ _) ?_;refine hK _ _ ?_;clear hK K;refine wpAny_done (by kernel_rfl) ?_ _;go_wp2;go_ret;exact⟨rfl,m.out⟩
 refine AllReady.cons rfl (λK hK=>?_) ?_
 ·go_simp
  refine hK _ _ ?_;clear hK K;refine wpAny_ready (rs:=[4]) (by kernel_rfl) (by simp) ?_;refine AllReady.cons rfl (λK hK=>?_) AllReady.nil
  go_simp
  refine hK _ _ ?_;clear hK K;refine wpAny_take (i:=7) (v:=?_) rfl (by kernel_rfl) (by kernel_rfl) (by kernel_rfl) (λ_ _ _ h=>h) (Or.inl ⟨by rfl,?_⟩) ?_
  rotate_left
  ·(intro w;go_simp;try with_reducible rfl)
  refine wpAny_take (i:=8) (v:=?_) rfl (by kernel_rfl) (by kernel_rfl) (by kernel_rfl) (λ_ _ _ h=>h) (Or.inl ⟨by rfl,?_⟩) ?_
  rotate_left
  ·(intro w;go_simp;try with_reducible rfl)
  refine wpAny_ready (rs:=[9]) (by kernel_rfl) (by simp) ?_;refine AllReady.cons rfl (λK hK=>?_) AllReady.nil;refine B3h rfl 113 _ _ rfl B (A3k a n) rfl rfl 113 g j.out Tryz.info75R o.out (C8t _ _) ?_;refine hK _ _ ?_;clear hK K;refine wpAny_done (by kernel_rfl) ?_ _;go_wp2;go_ret;exact⟨rfl,m.out⟩
 exact AllReady.nil
def C3g:Value:=.slice none 0 0
theorem B4w (d:Nat) (a:1<=d) (b:d<=1000) (w:World):
 Calls Tryz.prog 30 #[.int .i64 (d:Int)] w λe w'=>e=.returned (.tuple #[.pointer (some ⟨w.heap.size,0,none⟩),.int .i64 0])/\w'=w.alloc (.cells (A0f (ps0 d) C3g C3g C3g C3g) 113):=by
 go_enter Tryz.func30,Tryz.ntmps30;go_wp2;go_ret2;exact⟨rfl,rfl⟩
theorem C8u (d:Nat) (w:World):PR w.heap.size (w.alloc (.cells (A0f (ps0 d) C3g C3g C3g C3g) 113)) C3g C3g C3g C3g (ps0 d):=
 ⟨heap_alloc_new _ _,B3u _ 29 4,B3u _ 3 1,B3u _ 5 1,B3u _ 5 1,.inl rfl⟩
def A7f (B came:Nat) (S:Nat->Prop) (w:World) (r:List It×Nat) (e:Ending) (w':World):Prop:=
 ∃V,e=.returned (.tuple #[V,.int .i64 (r.2:Int)])/\w'.ownsRow 0 29 4 V r.1.length (B3e r.1)/\(∀i,V.ownBlock=some i->S i\/w.heap.size<=i)/\B5p B came S w w'
theorem A7f.nil {B a:Nat} {S:Nat->Prop} {w w':World} {n:Nat} {v:Int} (b:v=(n:Int)) (h:B5p B a S w w'):A7f B a S w ([],n) (.returned (.tuple #[.slice none 0 0,.int .i64 v])) w':=by
 subst b;exact⟨_,rfl,B3u _ 29 4,(λi h=>by cases h),h⟩
theorem F7s (B:Nat) (o R v u:Value) (s:Ps) (m k:Nat) (w:World) (h:PR B w o R v u s) (y:Qv s v u) (b:PsOk s m k) (X:m<=5000000) (W:k<=10000000):
 Calls Tryz.prog 51 #[.pointer (some ⟨B,0,none⟩)] w (A7f B s.came (own B o R v u) w (A7t s)):=by
 have a:=h.oo;obtain⟨E,T,x,rfl⟩:=A0h a;have r:=A1a a;subst r;have k2:=A0a h.blk (show(A0f s o (.slice E s.opn.length x) v u)[2]? =some (.int .i64 0)from rfl);have C:=A0a h.blk (show(A0f s o (.slice E s.opn.length x) v u)[4]? =some (.int .i64 (s.st:Int))from rfl);have k5:=A0a h.blk (show(A0f s o (.slice E s.opn.length x) v u)[5]? =some o from rfl);have I:=A0a h.blk (show(A0f s o (.slice E s.opn.length x) v u)[6]? =some (.slice E s.opn.length x)from rfl);have l:=b.c.oln;have j:=b.st;unfold A7t;by_cases G:s.st=7
 ·by_cases d:s.opn=[]
  ·rw[if_pos ⟨G,d⟩]
   have q:=hid (B7a B o (.slice E s.opn.length x) v u s m k w h (y.2 (by omega) (by omega)) b X W);have f:s.opn.length=0:=by rw[d];rfl
   rw[G]at C;cases z:A2f s with
   |error n=>
    rw[z]at q
    show Calls _ _ _ _ (A7f _ _ _ _ (if n=6 then([],6)else([],7)))
    by_cases M:n=6
    ·rw[if_pos M]
     subst M;have g:=hid h;rw[f]at I q g ⊢;clear h a l b j d z;go_enter Tryz.func51,Tryz.ntmps51
     go_wp2_with fail
     refine Calls.mono q.out ?_;rintro e Y ⟨rfl,D⟩;have Q:=hid D;clear D;go_wp2;go_ret2;exact A7f.nil rfl (B5p.same g.out Q.out)
    ·rw[if_neg M]
     have a0:((n:Int)==6)=false:=bqF (by omega);have g:=hid h;rw[f]at I q g ⊢;clear h a l b j d z;go_enter Tryz.func51,Tryz.ntmps51
     go_wp2_with fail
     refine Calls.mono q.out ?_;rintro e Y ⟨rfl,D⟩;have S:=(D.cell (p:=⟨B,4,none⟩) (lt_of_block g.blk) id).trans C;have Q:=hid D;clear D;go_wp2;go_ret2;exact A7f.nil rfl (B5p.same g.out Q.out)
   |ok s'=>
    rw[z]at q;simp only;obtain⟨U,L,V⟩:=B3f z;rw[d]at L;have N:=hid U;rw[f]at I q ⊢;clear h a l b j d z y U;go_enter Tryz.func51,Tryz.ntmps51
    go_wp2_with fail
    refine Calls.mono q.out ?_;rintro e Y ⟨rfl,hP⟩;obtain⟨H,uo,K,O,A,Z⟩:=hP;have a:=A.pr.oo;obtain⟨bo,T,t,rfl⟩:=A0h a;have r:=A1a a;rw[L]at r;obtain rfl:T=0:=r;have S:=A0a A.pr.blk (show(A0f s' H (.slice bo 0 t) K O)[4]? =some (.int .i64 (s'.st:Int))from rfl);have j5:=A0a A.pr.blk (show(A0f s' H (.slice bo 0 t) K O)[5]? =some H from rfl);have j6:=A0a A.pr.blk (show(A0f s' H (.slice bo 0 t) K O)[6]? =some (.slice bo 0 t)from rfl);rw[V]at S;have P:=hid A;clear A Z a L V k2 C k5 I q G f X W;go_wp2;go_ret2;exact⟨H,rfl,P.pr.oi,λi hi=>P.ow i (.inr (.inl hi)),N.out▸P.err⟩
  ·rw[if_neg (λhh=>d hh.2),if_neg (λhh=>d hh.2)]
   have f:0<s.opn.length:=List.length_pos_iff.2 d;rw[G]at C;have g:=hid h;clear h a b j d y;go_enter Tryz.func51,Tryz.ntmps51;go_wp2;go_ret2;exact A7f.nil rfl (B5p.same g.out (Fr.refl _ _))
 ·have F:((s.st:Int)==7)=false:=bqF (by omega)
  rw[if_neg (λhh=>G hh.1)];by_cases J:s.st=5
  ·by_cases d:s.opn=[]
   ·rw[if_pos ⟨J,d⟩]
    have f:s.opn.length=0:=by rw[d];rfl
    have g:=hid h;rw[J]at C F;rw[f]at I g ⊢;clear h a l b j d y;go_enter Tryz.func51,Tryz.ntmps51;go_wp2;go_ret2;exact⟨o,rfl,g.oi,λi hi=>.inl (.inr (.inl hi)),B5p.same g.out (Fr.refl _ _)⟩
   ·rw[if_neg (λhh=>d hh.2)]
    have f:0<s.opn.length:=List.length_pos_iff.2 d;have g:=hid h;rw[J]at C F;clear h a b j d y;go_enter Tryz.func51,Tryz.ntmps51;go_wp2;go_ret2;exact A7f.nil rfl (B5p.same g.out (Fr.refl _ _))
  ·rw[if_neg (λhh=>J hh.1)]
   have a1:((s.st:Int)!=5)=true:=bne_iff_ne.2 (by omega);have g:=hid h;clear h a b j y;go_enter Tryz.func51,Tryz.ntmps51;go_wp2;go_ret2;exact A7f.nil rfl (B5p.same g.out (Fr.refl _ _))
def Rd (B:Nat) (S:Nat->Prop) (w0 w:World) (R:Except (Nat×Nat) Ps):Prop:=
 match R with
 |.ok s=>PSt B S w0 w s
 |.error (n,c)=>F0w B c n S w0 w
def A8q:Array Value:=
 #[.int .i64 0,.int .i64 0,.int .i64 0,.bool true,.int .i64 0,.slice none 0 0,.slice none 0 0,.string (ofL []),
  .int .i64 0,.bool false,.slice none 0 0,.int .i64 0,.int .i64 0,.bool false,
  .int .i64 0,.slice none 0 0,.int .i64 0,.int .u8 0,.int .u8 0,.int .i64 0,.int .i32 0,.int .i32 0]
def A8r (S:Nat->Prop) (w0:World) (r:List It×Nat×Nat) (e:Ending) (w':World):Prop:=
 ∃V,e=.returned (.tuple #[V,.int .i64 (r.2.1:Int),.int .i64 (r.2.2:Int)])/\w'.ownsRow 0 29 4 V r.1.length (B3e r.1)/\(∀i,V.ownBlock=some i->S i\/w0.heap.size<=i)/\Fr S w0 w'
theorem A8r.base {S T:Nat->Prop} {w0 w w':World} {r:List It×Nat×Nat} {e:Ending} (f:Fr S w0 w) (g:∀i,T i->S i\/w0.heap.size<=i) (h:A8r T w r e w'):A8r S w0 r e w':=by
 obtain⟨V,a,b,c,d⟩:=h;refine⟨V,a,b,?_,f.trans' d g⟩;intro i k;rcases c i k with j|j
 ·exact g i j
 ·have:=f.size
  exact .inr (by omega)
theorem D7z:A8q.all (·.oneCell')=true:=by simp[A8q,Value.oneCell']
theorem G1n {w:World} {B e size n:Nat} {v:Value} {xs:List Value} (h:w.ownsRow 0 e size v n xs) (f:v.ownBlock≠some B) (b:Array Value):(w.setRow B b).ownsRow 0 e size v n xs:=by
 refine⟨h.1,?_⟩;rcases h.2 with k|⟨g,cap,a,c,j,i,d⟩
 ·exact .inl k
 ·refine .inr ⟨g,cap,a,c,j,?_,d⟩
  rw[setRow_other w B g b (by intro e;apply f;rw[c,<-e];rfl)];exact i
theorem C8v (B d:Nat) (S:Nat->Prop) (w:World) (r:List It×Nat) (u:w.cell? ⟨B,3,none⟩=some (.bool false)) (i:S B\/w.heap.size<=B) (h:Calls Tryz.prog 51 #[.pointer (some ⟨B,0,none⟩)] w (A7f B d S w r)):
 Calls Tryz.prog 32 #[.pointer (some ⟨B,0,none⟩)] w (A8r S w (r.1,r.2,d)):=by
 have m:=hid h;have l:=hid i;clear h i;go_enter Tryz.func32,Tryz.ntmps32
 go_wp2_with fail
 refine Calls.mono m.out ?_;rintro e v ⟨V,rfl,b,c,o,a,g,f,j⟩;have t:=A0a a f;have q:=hid (G1n b (A8y b a (by decide)) A8q);have n:=hid c;have s:=hid (j.setRow l.out A8q);have p:=hid a;have k:=hid g;clear b c j a g f
 go_wp2_with (refine wpList_store_row rfl 113 _ _ rfl B A8q rfl rfl 113 o p.out Tryz.info75R k.out D7z ?_)
 go_ret3
 exact⟨V,rfl,q.out,n.out,s.out⟩
theorem E4c (B c n:Nat) (S:Nat->Prop) (w:World) (h:w.heap[B]? =some (.cells (A3k c n) 113 (0,0))) (b:n≠0):
 Calls Tryz.prog 51 #[.pointer (some ⟨B,0,none⟩)] w (A7f B c S w ([],n)):=by
 have d:=A0a h (show(A3k c n)[2]? =some (.int .i64 (n:Int))from rfl);have e:((n:Int)!=0)=true:=bne_iff_ne.2 (by omega);have a:=hid (show B5p B c S w w.drew from⟨_,h,rfl,rfl,(Fr.refl _ _).drew⟩);clear h b;go_enter Tryz.func51,Tryz.ntmps51;go_wp2;go_region
 all_goals
  go_wp2;go_ret2;exact A7f.nil rfl a.out
theorem E4d (B d:Nat) (S:Nat->Prop) (w0 w:World) (l:LU8) (u:1<=d) (v:d<=1000) (y:l.length<=1500000) (r:S B\/w0.heap.size<=B) (h:Rd B S w0 w (A0p (ps0 d) l)):
 Calls Tryz.prog 32 #[.pointer (some ⟨B,0,none⟩)] w (A8r S w0 (A5m (A0p (ps0 d) l))):=by
 cases a:A0p (ps0 d) l with
 |error x=>
  obtain⟨n,c⟩:=x;rw[a]at h;obtain⟨j,t⟩:=h;refine(C8v B c (λi=>i=B) w ([],n) (A0a j rfl) (.inl rfl) (E4c B c n _ w j (A9z a).1)).mono ?_;intro e w' f;exact A8r.base t (λi h=>by subst h;exact r) f
 |ok s=>
  rw[a]at h;obtain⟨q,m,p,o,b,k⟩:=h;have g:=D4s (F5b d u v) a;refine(C8v B s.came _ w (A7t s) (A0a b.pr.blk rfl) (.inl (.inl rfl)) (F7s B q m p o s _ _ w b.pr k g (by omega) (by omega))).mono ?_;intro e w' f;exact A8r.base b.fr b.ow f
end Go.Proofs.YtmkkibaacclhnaaGreatDoor
