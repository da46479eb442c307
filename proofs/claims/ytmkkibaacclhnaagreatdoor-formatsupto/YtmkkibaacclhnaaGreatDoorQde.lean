/-
  Part Qde.
-/
import Derived.Test.YtmkkibaacclhnaaGreatDoorPvx
import Derived.Test.YtmkkibaacclhnaaGreatDoorWs
import Derived.Test.YtmkkibaacclhnaaGreatDoorRc
namespace Go.Proofs.YtmkkibaacclhnaaGreatDoor
open Go.RowKit
set_option maxRecDepth 100000
set_option maxHeartbeats 16000000
theorem B6f {w:World} {v:Value} {l:LU8} (h:w.ownsRow 0 5 1 v l.length (us l)):(convert 65 9 v).run Tryz.prog w=.ok (.string (ofL l)) w:=by
 rcases h.2 with⟨rfl,b⟩|⟨g,cap,a,rfl,_⟩
 ·have c:l=[]:=List.eq_nil_of_length_eq_zero b
  subst c;rw[run_convert_bytes_string (P:=Tryz.prog) w 65 9 5 none 0 0 Tryz.underlying65 Tryz.underlying5 Tryz.underlying9];rfl
 ·exact run_convert_bytes_back (P:=Tryz.prog) w 65 9 5 ⟨g,0,none⟩ cap l Tryz.underlying65 Tryz.underlying5 Tryz.underlying9 (λj hj=>by
   have:=h.cells (g:=g) rfl j (.int .u8 (l[j].toNat:Int)) (by simp[us,hj])
   cases j<;>simpa[Addr.add]using this)
theorem PC.txt {B:Nat} {S:Nat->Prop} {w0 W w':World} {w x r q:Value} {s:Ps} {C:Tr} (h:PC B S w0 w x r q W s) (o:r.ownBlock=none) (K:A7k 0 B 14 113 (A0f s w x r q) q W w' C):
 ∃l,PC B S w0 w x r l w' ⟨s.depth,s.came,s.st,s.items,s.opn,s.word,s.tok,C⟩:=by
 obtain⟨⟨a,b,c,d,e,f⟩,g,k⟩:=h;obtain⟨H,l,⟨D,F,G⟩,E,fr,L⟩:=K;have J:=F0s F E;subst J;have M:=g.size
 have m:∀{p A n:Nat} {v:Value} {xs:List Value},W.ownsRow 0 p A v n xs->p≠113->p≠5->∀i,v.ownBlock=some i->¬(i=B\/q.ownBlock=some i):=by
  intro p A n v xs z t I i j u;rcases u with rfl|u
  ·exact A8y z a (λh=>t h.symm) j
  ·rcases F0g z e I with h|h
   ·rw[h]at j;cases j
   ·exact h (j.trans u.symm)
 refine⟨l,⟨D,A7e b fr (m b (by decide) (by decide)),A7e c fr (m c (by decide) (by decide)),A7e d fr (λi j=>by rw[o]at j;cases j),G,.inl o⟩,?_,?_⟩
 ·exact g.trans' fr (λi j=>k i (j.elim .inl (λh=>.inr (.inr (.inr (.inr h))))))
 ·intro i j
  rcases j with j|j|j|j|j
  ·exact k i (.inl j)
  ·exact k i (.inr (.inl j))
  ·exact k i (.inr (.inr (.inl j)))
  ·exact k i (.inr (.inr (.inr (.inl j))))
  ·rcases L i j with y|y
   ·exact k i (.inr (.inr (.inr (.inr y))))
   ·exact .inr (by omega)
theorem B5p.txt {B:Nat} {w w':World} {f g j e:Value} {s:Ps} (h:B7p B 14 113 (A0f s f g j e) e w w'):B5p B s.came (own B f g j e) w w':=by
 obtain⟨d,a,b,c⟩:=h;exact⟨d,a,b.1,(b.2 1 (by omega)).trans rfl,c.mono (λi hi=>hi.elim .inl (λh=>.inr (.inr (.inr (.inr h)))))⟩
theorem C1s (B:Nat) (f g i d:Value) (s:Ps) (k n:Nat) (c:UInt8) (w:World) (h:PR B w f g i d s) (a:TrOk s.tx k) (m:k<=10000000) (hr:A2q s.tx c=.error n):
 Calls Tryz.prog 83 #[.pointer (some ⟨B,0,none⟩),.int .u8 (c.toNat:Int)] w (A3v B s.came (own B f g i d) w (.error n)):=by
 have b:=B2j B 14 113 _ d s.tx k c w (by decide) h.trAt a m;rw[hr]at b;have j:=hid b;clear b hr h a;go_enter Tryz.func83,Tryz.ntmps83
 go_wp2_with fail
 refine Calls.mono j.out ?_;rintro e o ⟨rfl,l⟩;exact⟨rfl,rfl,B5p.txt l⟩
theorem C5w (B:Nat) (n o i g:Value) (s:Ps) (k:Nat) (c:UInt8) (m:Tr) (w:World) (h:PR B w n o i g s) (d:i.ownBlock=none) (b:s.st=8\/s.st=9) (a:TrOk s.tx k) (t:k<=10000000) (hr:A2q s.tx c=.ok (m,false)):
 Calls Tryz.prog 83 #[.pointer (some ⟨B,0,none⟩),.int .u8 (c.toNat:Int)] w (A3v B s.came (own B n o i g) w (.ok ⟨s.depth,s.came,s.st,s.items,s.opn,s.word,s.tok,m⟩)):=by
 have f:=B2j B 14 113 _ g s.tx k c w (by decide) h.trAt a t;rw[hr]at f;have q:=hid f;have H:=hid (PC.start h);have r:=hid b;clear f hr h a b;go_enter Tryz.func83,Tryz.ntmps83
 go_wp2_with fail
 refine Calls.mono q.out ?_;rintro e v ⟨rfl,l⟩;obtain⟨u,j⟩:=H.txt d l;have p:=hid j;clear l j;go_wp2;go_end0
 exact⟨rfl,_,_,_,_,p.out,λ_=>d,λh8 h9=>by
  rcases r.out with h|h
  ·exact absurd h h8
  ·exact absurd h h9⟩
theorem C0a (B:Nat) (X p i R:Value) (s:Ps) (m k:Nat) (c:UInt8) (f:Tr) (w:World) (h:PR B w X p i R s) (C:i.ownBlock=none) (L:s.st=8) (r:PsOk s m k) (hm:m<=5000000) (hk:k<=10000000) (hr:A2q s.tx c=.ok (f,true)):
 Calls Tryz.prog 83 #[.pointer (some ⟨B,0,none⟩),.int .u8 (c.toNat:Int)] w (A3v B s.came (own B X p i R) w (.ok ⟨s.depth,s.came,4,s.items++[⟨4,0,0,f.made⟩],s.opn,s.word,s.tok,tr0⟩)):=by
 have K:=B2j B 14 113 _ R s.tx k c w (by decide) h.trAt r.txk hk;rw[hr]at K;have T:=hid K;have H:=hid (PC.start h);have b1:=r.c.oln;have b0:=r.c.iln;have HE:=hid (λ(w:World) (ui:Value) (F:PR B w ui p i (.slice none 0 0) ⟨s.depth,s.came,s.st,s.items++[⟨4,0,0,f.made⟩],s.opn,s.word,s.tok,tr0⟩)=>A7a B ui p i (.slice none 0 0) ⟨s.depth,s.came,s.st,s.items++[⟨4,0,0,f.made⟩],s.opn,s.word,s.tok,tr0⟩ w F ⟨C,rfl⟩ ((r.c.item ⟨4,0,0,f.made⟩ s.st s.word r.c.wln s.tok tr0).ok (by omega)) (by show(s.items++[_]).length<=_;simp;omega) (by show s.opn.length<=_;omega));obtain⟨i0,hi,M,N,O⟩:=info_parts Tryz.info29;have Z:=hid (show((s.st:Int))=8 by omega);clear K hr h r L;go_enter Tryz.func83,Tryz.ntmps83
 go_wp2_with fail
 refine Calls.mono T.out ?_;rintro e D ⟨rfl,F⟩;obtain⟨c0,y⟩:=H.txt C F;have S:=hid y;have Q:=y.pr.oi;obtain⟨a,n,cap,rfl⟩:=A0h Q;obtain⟨l,o,b,rfl⟩:=A0h y.pr.om;have U:=hid (show D.drew.ownsRow 0 29 4 (.slice a n cap) s.items.length (B3e s.items)from Q);have W:=A0a y.pr.blk (show(A0f ⟨s.depth,s.came,s.st,s.items,s.opn,s.word,s.tok,f⟩ (.slice a n cap) p i (.slice l o b))[5]? =some (.slice a n cap)from rfl);have P:=A0a y.pr.blk (show(A0f ⟨s.depth,s.came,s.st,s.items,s.opn,s.word,s.tok,f⟩ (.slice a n cap) p i (.slice l o b))[15]? =some (.slice l o b)from rfl);have J:(convert 65 9 (.slice l o b)).run Tryz.prog D.drew=.ok (.string (ofL f.made)) D.drew:=B6f (show D.drew.ownsRow 0 5 1 (.slice l o b) f.made.length (us f.made)from y.pr.om);have I:=lt_of_block y.pr.blk;have a5:∀ob,(D.alloc ob).cell? ⟨B,5,none⟩=some (.slice a n cap):=λob=>(World.cell?_of_block (w:=D) (Below.heap_alloc _ _ _ I)).trans W
 clear F y T Q;go_wp2
 go_region_law (refine A7q rfl _ _ 22 rfl 29 i0 (.agg #[.int .i64 0,.int .i64 0,.int .u64 0,.string ⟨#[]⟩]) 4 40 Tryz.underlying22 hi M N O rfl (by decide) (.slice a n cap) _ _ rfl (U.alloc _) ⟨D.drew.heap.size,0,none⟩ 1 1 (A1f ⟨4,0,0,f.made⟩) rfl rfl (A3p _ _ _ _ _ _) (by intro u V;simp[A1f]at V;rcases V with rfl|rfl|rfl|rfl<;>rfl) (by unfold maxLen;omega) (by omega) ?_;intro v' w1 q t z;obtain⟨v,x,g,rfl⟩:=A0h q;obtain⟨A,E⟩:=S.drew.growI ⟨4,0,0,f.made⟩ q t (by simpa using z);have q5:=A0a A (show(A0f ⟨s.depth,s.came,s.st,s.items,s.opn,s.word,s.tok,f⟩ (.slice a n cap) p i (.slice l o b))[5]? =some (.slice a n cap)from rfl);have p5:=A0b (j:=5) A;have d:=hid E;clear q t z A E)
 all_goals
  generalize w1.setCell ⟨B,5,none⟩ (.slice v x g)=W2 at*;have r4:=A0a d.pr.blk (show(A0f ⟨s.depth,s.came,s.st,s.items++[⟨4,0,0,f.made⟩],s.opn,s.word,s.tok,f⟩ (.slice v x g) p i (.slice l o b))[4]? =some (.int .i64 (s.st:Int))from rfl);have g4:=A0b (j:=4) d.pr.blk;have b2:=A0a d.pr.blk (show(A0f ⟨s.depth,s.came,s.st,s.items++[⟨4,0,0,f.made⟩],s.opn,s.word,s.tok,f⟩ (.slice v x g) p i (.slice l o b))[14]? =some (.int .i64 (f.st:Int))from rfl);have a0:=A0b (j:=14) d.pr.blk;have b3:=A0a d.pr.blk (show(A0f ⟨s.depth,s.came,s.st,s.items++[⟨4,0,0,f.made⟩],s.opn,s.word,s.tok,f⟩ (.slice v x g) p i (.slice l o b))[15]? =some (.slice l o b)from rfl);have a1:=A0b (j:=15) d.pr.blk;have b4:=A0a d.pr.blk (show(A0f ⟨s.depth,s.came,s.st,s.items++[⟨4,0,0,f.made⟩],s.opn,s.word,s.tok,f⟩ (.slice v x g) p i (.slice l o b))[16]? =some (.int .i64 (f.lack:Int))from rfl);have a3:=A0b (j:=16) d.pr.blk;have b5:=A0a d.pr.blk (show(A0f ⟨s.depth,s.came,s.st,s.items++[⟨4,0,0,f.made⟩],s.opn,s.word,s.tok,f⟩ (.slice v x g) p i (.slice l o b))[17]? =some (.int .u8 (f.lo:Int))from rfl);have a4:=A0b (j:=17) d.pr.blk;have b6:=A0a d.pr.blk (show(A0f ⟨s.depth,s.came,s.st,s.items++[⟨4,0,0,f.made⟩],s.opn,s.word,s.tok,f⟩ (.slice v x g) p i (.slice l o b))[18]? =some (.int .u8 (f.hi:Int))from rfl);have a6:=A0b (j:=18) d.pr.blk;have b7:=A0a d.pr.blk (show(A0f ⟨s.depth,s.came,s.st,s.items++[⟨4,0,0,f.made⟩],s.opn,s.word,s.tok,f⟩ (.slice v x g) p i (.slice l o b))[19]? =some (.int .i64 (f.dg:Int))from rfl);have a7:=A0b (j:=19) d.pr.blk;have b8:=A0a d.pr.blk (show(A0f ⟨s.depth,s.came,s.st,s.items++[⟨4,0,0,f.made⟩],s.opn,s.word,s.tok,f⟩ (.slice v x g) p i (.slice l o b))[20]? =some (.int .i32 (f.code:Int))from rfl);have a8:=A0b (j:=20) d.pr.blk;have b9:=A0a d.pr.blk (show(A0f ⟨s.depth,s.came,s.st,s.items++[⟨4,0,0,f.made⟩],s.opn,s.word,s.tok,f⟩ (.slice v x g) p i (.slice l o b))[21]? =some (.int .i32 (f.high:Int))from rfl);have a9:=A0b (j:=21) d.pr.blk;rw[Z.out]at r4;have Y:=hid d.txNil;clear q5 p5 W P a5 J U S;have G:=hid (Y.cell 4 (.int .i64 4) ⟨s.depth,s.came,4,s.items++[⟨4,0,0,f.made⟩],s.opn,s.word,s.tok,tr0⟩ rfl rfl rfl rfl rfl);go_wp2;go_end0;exact⟨rfl,_,_,_,_,G.out,λ_=>C,λ_ _=>rfl⟩
theorem C0b (B:Nat) (X p i Q:Value) (s:Ps) (m k:Nat) (c:UInt8) (f:Tr) (w:World) (h:PR B w X p i Q s) (F:i.ownBlock=none) (K:s.st=9) (r:PsOk s m k) (hm:m<=5000000) (hk:k<=10000000) (hr:A2q s.tx c=.ok (f,true)):
 Calls Tryz.prog 83 #[.pointer (some ⟨B,0,none⟩),.int .u8 (c.toNat:Int)] w (A3v B s.came (own B X p i Q) w (.ok (A2h ⟨s.depth,s.came,s.st,s.items++[⟨4,0,0,f.made⟩],s.opn,s.word,s.tok,tr0⟩))):=by
 have J:=B2j B 14 113 _ Q s.tx k c w (by decide) h.trAt r.txk hk;rw[hr]at J;have T:=hid J;have H:=hid (PC.start h);have b1:=r.c.oln;have b0:=r.c.iln;have Y:=hid (λ(w:World) (ui:Value) (C:PR B w ui p i (.slice none 0 0) ⟨s.depth,s.came,s.st,s.items++[⟨4,0,0,f.made⟩],s.opn,s.word,s.tok,tr0⟩)=>A7a B ui p i (.slice none 0 0) ⟨s.depth,s.came,s.st,s.items++[⟨4,0,0,f.made⟩],s.opn,s.word,s.tok,tr0⟩ w C ⟨F,rfl⟩ ((r.c.item ⟨4,0,0,f.made⟩ s.st s.word r.c.wln s.tok tr0).ok (by omega)) (by show(s.items++[_]).length<=_;simp;omega) (by show s.opn.length<=_;omega));obtain⟨i0,hi,L,M,N⟩:=info_parts Tryz.info29;have HT:=hid (show((s.st:Int))=9 by omega);clear J hr h r K;go_enter Tryz.func83,Tryz.ntmps83
 go_wp2_with fail
 refine Calls.mono T.out ?_;rintro e D ⟨rfl,C⟩;obtain⟨c0,y⟩:=H.txt F C;have S:=hid y;have P:=y.pr.oi;obtain⟨a,n,cap,rfl⟩:=A0h P;obtain⟨l,o,b,rfl⟩:=A0h y.pr.om;have U:=hid (show D.drew.ownsRow 0 29 4 (.slice a n cap) s.items.length (B3e s.items)from P);have W:=A0a y.pr.blk (show(A0f ⟨s.depth,s.came,s.st,s.items,s.opn,s.word,s.tok,f⟩ (.slice a n cap) p i (.slice l o b))[5]? =some (.slice a n cap)from rfl);have O:=A0a y.pr.blk (show(A0f ⟨s.depth,s.came,s.st,s.items,s.opn,s.word,s.tok,f⟩ (.slice a n cap) p i (.slice l o b))[15]? =some (.slice l o b)from rfl);have I:(convert 65 9 (.slice l o b)).run Tryz.prog D.drew=.ok (.string (ofL f.made)) D.drew:=B6f (show D.drew.ownsRow 0 5 1 (.slice l o b) f.made.length (us f.made)from y.pr.om);have G:=lt_of_block y.pr.blk;have a5:∀ob,(D.alloc ob).cell? ⟨B,5,none⟩=some (.slice a n cap):=λob=>(World.cell?_of_block (w:=D) (Below.heap_alloc _ _ _ G)).trans W
 clear C y T P;go_wp2
 go_region_law (refine A7q rfl _ _ 22 rfl 29 i0 (.agg #[.int .i64 0,.int .i64 0,.int .u64 0,.string ⟨#[]⟩]) 4 40 Tryz.underlying22 hi L M N rfl (by decide) (.slice a n cap) _ _ rfl (U.alloc _) ⟨D.drew.heap.size,0,none⟩ 1 1 (A1f ⟨4,0,0,f.made⟩) rfl rfl (A3p _ _ _ _ _ _) (by intro u V;simp[A1f]at V;rcases V with rfl|rfl|rfl|rfl<;>rfl) (by unfold maxLen;omega) (by omega) ?_;intro v' w1 q t z;obtain⟨v,x,g,rfl⟩:=A0h q;obtain⟨A,E⟩:=S.drew.growI ⟨4,0,0,f.made⟩ q t (by simpa using z);have q5:=A0a A (show(A0f ⟨s.depth,s.came,s.st,s.items,s.opn,s.word,s.tok,f⟩ (.slice a n cap) p i (.slice l o b))[5]? =some (.slice a n cap)from rfl);have p5:=A0b (j:=5) A;have d:=hid E;clear q t z A E)
 all_goals
  generalize w1.setCell ⟨B,5,none⟩ (.slice v x g)=W2 at*;have r4:=A0a d.pr.blk (show(A0f ⟨s.depth,s.came,s.st,s.items++[⟨4,0,0,f.made⟩],s.opn,s.word,s.tok,f⟩ (.slice v x g) p i (.slice l o b))[4]? =some (.int .i64 (s.st:Int))from rfl);have g4:=A0b (j:=4) d.pr.blk;have b2:=A0a d.pr.blk (show(A0f ⟨s.depth,s.came,s.st,s.items++[⟨4,0,0,f.made⟩],s.opn,s.word,s.tok,f⟩ (.slice v x g) p i (.slice l o b))[14]? =some (.int .i64 (f.st:Int))from rfl);have a0:=A0b (j:=14) d.pr.blk;have b3:=A0a d.pr.blk (show(A0f ⟨s.depth,s.came,s.st,s.items++[⟨4,0,0,f.made⟩],s.opn,s.word,s.tok,f⟩ (.slice v x g) p i (.slice l o b))[15]? =some (.slice l o b)from rfl);have a1:=A0b (j:=15) d.pr.blk;have b4:=A0a d.pr.blk (show(A0f ⟨s.depth,s.came,s.st,s.items++[⟨4,0,0,f.made⟩],s.opn,s.word,s.tok,f⟩ (.slice v x g) p i (.slice l o b))[16]? =some (.int .i64 (f.lack:Int))from rfl);have a3:=A0b (j:=16) d.pr.blk;have b5:=A0a d.pr.blk (show(A0f ⟨s.depth,s.came,s.st,s.items++[⟨4,0,0,f.made⟩],s.opn,s.word,s.tok,f⟩ (.slice v x g) p i (.slice l o b))[17]? =some (.int .u8 (f.lo:Int))from rfl);have a4:=A0b (j:=17) d.pr.blk;have b6:=A0a d.pr.blk (show(A0f ⟨s.depth,s.came,s.st,s.items++[⟨4,0,0,f.made⟩],s.opn,s.word,s.tok,f⟩ (.slice v x g) p i (.slice l o b))[18]? =some (.int .u8 (f.hi:Int))from rfl);have a6:=A0b (j:=18) d.pr.blk;have b7:=A0a d.pr.blk (show(A0f ⟨s.depth,s.came,s.st,s.items++[⟨4,0,0,f.made⟩],s.opn,s.word,s.tok,f⟩ (.slice v x g) p i (.slice l o b))[19]? =some (.int .i64 (f.dg:Int))from rfl);have a7:=A0b (j:=19) d.pr.blk;have b8:=A0a d.pr.blk (show(A0f ⟨s.depth,s.came,s.st,s.items++[⟨4,0,0,f.made⟩],s.opn,s.word,s.tok,f⟩ (.slice v x g) p i (.slice l o b))[20]? =some (.int .i32 (f.code:Int))from rfl);have a8:=A0b (j:=20) d.pr.blk;have b9:=A0a d.pr.blk (show(A0f ⟨s.depth,s.came,s.st,s.items++[⟨4,0,0,f.made⟩],s.opn,s.word,s.tok,f⟩ (.slice v x g) p i (.slice l o b))[21]? =some (.int .i32 (f.high:Int))from rfl);have a9:=A0b (j:=21) d.pr.blk;rw[HT.out]at r4;have R:=hid d.txNil;clear q5 p5 W O a5 I U S
  go_wp2_with fail
  refine Calls.mono (Y.out _ _ R.pr) ?_;rintro e w3 ⟨rfl,C⟩;have Z:=hid (R.trans C);clear C;go_wp2;go_end0;exact⟨rfl,Z.out⟩
theorem C1t (B:Nat) (f i d g:Value) (s:Ps) (m k:Nat) (c:UInt8) (w:World) (h:PR B w f i d g s) (e:d.ownBlock=none) (o:s.st=8\/s.st=9) (a:PsOk s m k) (q:m<=5000000) (j:k<=10000000):
 Calls Tryz.prog 83 #[.pointer (some ⟨B,0,none⟩),.int .u8 (c.toNat:Int)] w (A3v B s.came (own B f i d g) w (A5r s c)):=by
 unfold A5r;cases hr:A2q s.tx c with
 |error n=>exact C1s B f i d g s k n c w h a.txk j hr
 |ok x=>
  obtain⟨p,b⟩:=x;cases b with
  |false=>exact C5w B f i d g s k c p w h e o a.txk j hr
  |true=>
   show Calls Tryz.prog 83 _ w (A3v B s.came (own B f i d g) w (if s.st=8 then .ok _ else .ok _))
   by_cases l:s.st=8
   ·rw[if_pos l]
    exact C0a B f i d g s m k c p w h e l a q j hr
   ·rw[if_neg l]
    exact C0b B f i d g s m k c p w h e (by omega) a q j hr
theorem G4d (B:Nat) (S:Nat->Prop) (g j k i:Value) (s:Ps) (r:Except Nat Ps) (c:UInt8) (w:World) (h:PR B w g j k i s) (a:s.st=6) (b:Calls Tryz.prog 81 #[.pointer (some ⟨B,0,none⟩),.int .u8 (c.toNat:Int)] w (A3v B s.came S w r)):
 Calls Tryz.prog 50 #[.pointer (some ⟨B,0,none⟩),.int .u8 (c.toNat:Int)] w (A3v B s.came S w r):=by
 have o:=A0a h.blk (show(A0f s g j k i)[4]? =some (.int .i64 (s.st:Int))from rfl);rw[a]at o;clear h a;cases r with
 |error n=>
  have d:=hid b;clear b;go_enter Tryz.func50,Tryz.ntmps50
  go_wp2_with fail
  refine Calls.mono d.out ?_;rintro e p ⟨rfl,m⟩;exact⟨rfl,rfl,m⟩
 |ok s'=>
  have d:=hid b;clear b;go_enter Tryz.func50,Tryz.ntmps50
  go_wp2_with fail
  refine Calls.mono d.out ?_;rintro e p ⟨rfl,f⟩;have l:=hid f;clear f;go_wp2;go_end0;exact⟨rfl,l.out⟩
theorem G4e (B:Nat) (S:Nat->Prop) (g j k i:Value) (s:Ps) (r:Except Nat Ps) (c:UInt8) (w:World) (h:PR B w g j k i s) (a:s.st=7) (b:Calls Tryz.prog 82 #[.pointer (some ⟨B,0,none⟩),.int .u8 (c.toNat:Int)] w (A3v B s.came S w r)):
 Calls Tryz.prog 50 #[.pointer (some ⟨B,0,none⟩),.int .u8 (c.toNat:Int)] w (A3v B s.came S w r):=by
 have o:=A0a h.blk (show(A0f s g j k i)[4]? =some (.int .i64 (s.st:Int))from rfl);rw[a]at o;clear h a;cases r with
 |error n=>
  have d:=hid b;clear b;go_enter Tryz.func50,Tryz.ntmps50
  go_wp2_with fail
  refine Calls.mono d.out ?_;rintro e p ⟨rfl,m⟩;exact⟨rfl,rfl,m⟩
 |ok s'=>
  have d:=hid b;clear b;go_enter Tryz.func50,Tryz.ntmps50
  go_wp2_with fail
  refine Calls.mono d.out ?_;rintro e p ⟨rfl,f⟩;have l:=hid f;clear f;go_wp2;go_end0;exact⟨rfl,l.out⟩
theorem G4f (B:Nat) (S:Nat->Prop) (g j k i:Value) (s:Ps) (r:Except Nat Ps) (c:UInt8) (w:World) (h:PR B w g j k i s) (a:s.st=8) (b:Calls Tryz.prog 83 #[.pointer (some ⟨B,0,none⟩),.int .u8 (c.toNat:Int)] w (A3v B s.came S w r)):
 Calls Tryz.prog 50 #[.pointer (some ⟨B,0,none⟩),.int .u8 (c.toNat:Int)] w (A3v B s.came S w r):=by
 have o:=A0a h.blk (show(A0f s g j k i)[4]? =some (.int .i64 (s.st:Int))from rfl);rw[a]at o;clear h a;cases r with
 |error n=>
  have d:=hid b;clear b;go_enter Tryz.func50,Tryz.ntmps50
  go_wp2_with fail
  refine Calls.mono d.out ?_;rintro e p ⟨rfl,m⟩;exact⟨rfl,rfl,m⟩
 |ok s'=>
  have d:=hid b;clear b;go_enter Tryz.func50,Tryz.ntmps50
  go_wp2_with fail
  refine Calls.mono d.out ?_;rintro e p ⟨rfl,f⟩;have l:=hid f;clear f;go_wp2;go_end0;exact⟨rfl,l.out⟩
theorem G4g (B:Nat) (S:Nat->Prop) (g j k i:Value) (s:Ps) (r:Except Nat Ps) (c:UInt8) (w:World) (h:PR B w g j k i s) (a:s.st=9) (b:Calls Tryz.prog 83 #[.pointer (some ⟨B,0,none⟩),.int .u8 (c.toNat:Int)] w (A3v B s.came S w r)):
 Calls Tryz.prog 50 #[.pointer (some ⟨B,0,none⟩),.int .u8 (c.toNat:Int)] w (A3v B s.came S w r):=by
 have o:=A0a h.blk (show(A0f s g j k i)[4]? =some (.int .i64 (s.st:Int))from rfl);rw[a]at o;clear h a;cases r with
 |error n=>
  have d:=hid b;clear b;go_enter Tryz.func50,Tryz.ntmps50
  go_wp2_with fail
  refine Calls.mono d.out ?_;rintro e p ⟨rfl,m⟩;exact⟨rfl,rfl,m⟩
 |ok s'=>
  have d:=hid b;clear b;go_enter Tryz.func50,Tryz.ntmps50
  go_wp2_with fail
  refine Calls.mono d.out ?_;rintro e p ⟨rfl,f⟩;have l:=hid f;clear f;go_wp2;go_end0;exact⟨rfl,l.out⟩
theorem F0v (B:Nat) (e f d b:Value) (s:Ps) (m k:Nat) (c:UInt8) (w:World) (h:PR B w e f d b s) (j:Qv s d b) (a:PsOk s m k) (t:m<=5000000) (n:k<=10000000):
 Calls Tryz.prog 50 #[.pointer (some ⟨B,0,none⟩),.int .u8 (c.toNat:Int)] w (A3v B s.came (own B e f d b) w (A1u s c)):=by
 unfold A1u;by_cases l:s.st=6
 ·rw[if_pos l]
  refine G4d B _ e f d b s _ c w h l ?_;have v:=a.wrd l;have q:=a.c.wln;have y:=a.c.iln;have z:=a.c.oln;cases o:s.word with
  |nil=>exact absurd o v
  |cons x r=>
   rw[o]at q;simp at q;exact C1p B e f d b s x r c w h ⟨j.1 (by omega),j.2 (by omega) (by omega)⟩ o (by omega) (a.c.ok (by omega)) (by omega) (by omega)
 rw[if_neg l];by_cases i:s.st=7
 ·rw[if_pos i]
  refine G4e B _ e f d b s _ c w h i ?_;by_cases p:beh s.tok.st c=0
  ·exact B4v B e f d b s m k c w h (j.2 (by omega) (by omega)) a t n i p
  ·exact C1r B e f d b s m k c w h (j.2 (by omega) (by omega)) a n i p
 rw[if_neg i];by_cases g:s.st=8\/s.st=9
 ·rw[if_pos g]
  have u:=C1t B e f d b s m k c w h (j.1 i) g a t n;rcases g with g|g
  ·exact G4f B _ e f d b s _ c w h g u
  ·exact G4g B _ e f d b s _ c w h g u
 ·rw[if_neg g]
  have:=a.st;exact C5u B e f d b s m k c w h ⟨j.1 i,j.2 (λh=>g (.inl h)) (λh=>g (.inr h))⟩ a (by omega) (by omega)
theorem B3h {P:Program} {e:Array Oper} {o:Oper} {a:Act} {w:World} {K:Act->World->Prop} {Q:Exit->Act->World->Prop} {E:Prop}
 (f:o.guard=none) (i:TypeId) (x y:Operand) (m:o.op=.store i x y) (g:Nat) (b:Array Value) (p:a.eval x=.pointer (some ⟨g,0,none⟩)) (q:a.eval y=.agg b)
 (t:TypeId) (c:Array Value) (k:w.heap[g]? =some (.cells c t (0,0))) (l:(P.info? i).map (·.size)=some b.size) (d:c.size=b.size) (j:b.all (·.oneCell')=true)
 (h:K (a.put o.dst undef) (w.setRow g b)):if Region.wanted o (yielded e a.tmps)=true then Oper.wp P o a w K Q else E:=by
 have n:Region.wanted o (yielded e a.tmps)=true:=by simp[Region.wanted,f]
 rw[if_pos n];exact wp_store_row i x y m g b p q t c k l d j h
def A3k (came n:Int):Array Value:=
 #[.int .i64 0,.int .i64 came,.int .i64 n,.bool false,.int .i64 0,.slice none 0 0,.slice none 0 0,.string (ofL []),
  .int .i64 0,.bool false,.slice none 0 0,.int .i64 0,.int .i64 0,.bool false,
  .int .i64 0,.slice none 0 0,.int .i64 0,.int .u8 0,.int .u8 0,.int .i64 0,.int .i32 0,.int .i32 0]
theorem C8t (a n:Int):(A3k a n).all (·.oneCell')=true:=by simp[A3k,Value.oneCell']
theorem Tryz.info75R:(Tryz.prog.info? 113).map (·.size)=some 22:=by kernel_rfl
theorem E4b (w:World) (v:Value):(Instr.typeAssert (.iface 153 v) 20 153 true).run Tryz.prog w=.ok (.tuple #[v,.bool true]) w:=by kernel_rfl
def F0w (B came n:Nat) (S:Nat->Prop) (w w':World):Prop:=w'.heap[B]? =some (.cells (A3k came n) 113 (0,0))/\Fr S w w'
theorem Fr.setRow {S:Nat->Prop} {a w:World} (h:Fr S a w) {g:Nat} (d:S g\/a.heap.size<=g) (b:Array Value):Fr S a (w.setRow g b):=
 ⟨h.os,h.tape,h.output,by rw[setRow_size];exact h.size,λk hk hs=>(setRow_other w g k b (by rintro rfl;rcases d with c|c;exact hs c;omega)).trans (h.block k hk hs)⟩
theorem D7y (B a n:Nat) (S:Nat->Prop) (w0 w:World) (h:B5p B a S w0 w) (o:S B\/w0.heap.size<=B):
 Calls Tryz.prog 49 #[.pointer (some ⟨B,0,none⟩),.iface 153 (.agg #[.int .i64 (n:Int)])] w λe w'=>e=.returned (.int .i64 (n:Int))/\F0w B a n S w0 w':=by
 obtain⟨f,g,d,c,m⟩:=h;have b:=lt_of_block g;have p:=λw v=>E4b w v
 have q:=A0a g c;have s:∀ob,(w.alloc ob).cell? ⟨B,1,none⟩=some (.int .i64 (a:Int)):=λob=>(World.cell?_of_block (w:=w) (Below.heap_alloc _ _ _ b)).trans q
 have j:=hid (show((w.alloc (.cells #[.int .i64 (n:Int)] 153)).drew).heap[B]? =some (.cells f 113 (0,0))from(Below.heap_alloc _ _ _ b).trans g)
 have r:(((w.alloc (.cells #[.int .i64 (n:Int)] 153)).drew).setRow B (A3k a n)).cell? ⟨w.heap.size,0,none⟩=some (.int .i64 (n:Int)):=by
  rw[cell_setRow_other _ _ _ _ (by show w.heap.size≠B;omega)]
  go_simp
 have k:=hid (show F0w B a n S w0 (((w.alloc (.cells #[.int .i64 (n:Int)] 153)).drew).setRow B (A3k a n))from
  ⟨setRow_heap _ _ _ _ _ _ j.out,((m.alloc _).drew).setRow o _⟩)
 have l:=hid (show f.size=(A3k a n).size from d);clear g m o d c;go_enter Tryz.func49,Tryz.ntmps49;go_wp2;refine wp_region_any (by kernel_rfl) ?_
 change wpAny _ _ _ _ _ _ _ (World.drew _)
 refine wpAny_take (i:=0) (v:=?_) rfl (by kernel_rfl) (by kernel_rfl) (by kernel_rfl) (λ_ _ _ h=>h) (Or.inl ⟨by rfl,?_⟩) ?_
 rotate_left
 ·(intro w;go_simp;try with_reducible rfl)
 refine wpAny_take (i:=1) (v:=?_) rfl (by kernel_rfl) (by kernel_rfl) (by kernel_rfl) (λ_ _ _ h=>h) (Or.inl ⟨by rfl,?_⟩) ?_
 rotate_left
 ·(intro w;go_simp;try with_reducible rfl)
 refine wpAny_take (i:=2) (v:=?_) rfl (by kernel_rfl) (by kernel_rfl) (by kernel_rfl) (λ_ _ _ h=>h) (Or.inl ⟨by rfl,?_⟩) ?_
 rotate_left
 ·(intro w;go_simp;try with_reducible rfl)
 refine wpAny_take (i:=3) (v:=?_) rfl (by kernel_rfl) (by kernel_rfl) (by kernel_rfl) (λ_ _ _ h=>h) (Or.inl ⟨by rfl,?_⟩) ?_
 rotate_left
 ·(intro w;go_simp;try with_reducible rfl)
 refine wpAny_take (i:=5) (v:=?_) rfl (by kernel_rfl) (by kernel_rfl) (by kernel_rfl) (λ_ _ _ h=>h) (Or.inl ⟨by rfl,?_⟩) ?_
 rotate_left
 ·(intro w;go_simp;try with_reducible rfl)
 refine wpAny_ready (rs:=[4,6]) (by kernel_rfl) (by simp) ?_;refine AllReady.cons rfl (λK hK=>?_) ?_
 ·go_simp
  refine hK _ _ ?_;clear hK K;refine wpAny_ready (rs:=[6]) (by kernel_rfl) (by simp) ?_;refine AllReady.cons rfl (λK hK=>?_) AllReady.nil
  go_simp
  refine hK _ _ ?_;clear hK K;refine wpAny_take (i:=7) (v:=?_) rfl (by kernel_rfl) (by kernel_rfl) (by kernel_rfl) (λ_ _ _ h=>h) (Or.inl ⟨by rfl,?_⟩) ?_
  rotate_left
  ·(intro w;go_simp;try with_reducible rfl)
  refine wpAny_take (i:=8) (v:=?_) rfl (by kernel_rfl) (by kernel_rfl) (by kernel_rfl) (λ_ _ _ h=>h) (Or.inl ⟨by rfl,?_⟩) ?_
  rotate_left
  ·(intro w;go_simp;try with_reducible rfl)
  refine wpAny_ready (rs:=[9]) (by kernel_rfl) (by simp) ?_;refine AllReady.cons rfl (λK hK=>?_) AllReady.nil;refine B3h rfl 113 _ _ rfl B (A3k a n) rfl rfl 113 f j.out Tryz.info75R l.out (C8t _ _) ?_;refine hK _ _ ?_;clear hK K;refine wpAny_done (by kernel_rfl) ?_ _;go_wp2;go_ret;exact⟨rfl,k.out⟩
 refine AllReady.cons rfl (λK hK=>?_) ?_
 ·go_simp
  refine hK _ _ ?_;clear hK K;refine wpAny_ready (rs:=[4]) (by kernel_rfl) (by simp) ?_;refine AllReady.cons rfl (λK hK=>?_) AllReady.nil
  go_simp
  refine hK _ _ ?_;clear hK K;refine wpAny_take (i:=7) (v:=?_) rfl (by kernel_rfl) (by kernel_rfl) (by kernel_rfl) (λ_ _ _ h=>h) (Or.inl ⟨by rfl,?_⟩) ?_
  rotate_left
  ·(intro w;go_simp;try with_reducible rfl)
  refine wpAny_take (i:=8) (v:=?_) rfl (by kernel_rfl) (by kernel_rfl) (by kernel_rfl) (λ_ _ _ h=>h) (Or.inl ⟨by rfl,?_⟩) ?_
  rotate_left
  ·(intro w;go_simp;try with_reducible rfl)
  refine wpAny_ready (rs:=[9]) (by kernel_rfl) (by simp) ?_;refine AllReady.cons rfl (λK hK=>?_) AllReady.nil;refine B3h rfl 113 _ _ rfl B (A3k a n) rfl rfl 113 f j.out Tryz.info75R l.out (C8t _ _) ?_;refine hK _ _ ?_;clear hK K;refine wpAny_done (by kernel_rfl) ?_ _;go_wp2;go_ret;exact⟨rfl,k.out⟩
 exact AllReady.nil
def C3g:Value:=.slice none 0 0
theorem B4w (d:Nat) (a:1<=d) (b:d<=1000) (w:World):
 Calls Tryz.prog 30 #[.int .i64 (d:Int)] w λe w'=>e=.returned (.tuple #[.pointer (some ⟨w.heap.size,0,none⟩),.int .i64 0])/\w'=w.alloc (.cells (A0f (ps0 d) C3g C3g C3g C3g) 113):=by
 go_enter Tryz.func30,Tryz.ntmps30;go_wp2;go_ret2;exact⟨rfl,rfl⟩
theorem C8u (d:Nat) (w:World):PR w.heap.size (w.alloc (.cells (A0f (ps0 d) C3g C3g C3g C3g) 113)) C3g C3g C3g C3g (ps0 d):=
 ⟨heap_alloc_new _ _,B3u _ 29 4,B3u _ 3 1,B3u _ 5 1,B3u _ 5 1,.inl rfl⟩
def A7f (B came:Nat) (S:Nat->Prop) (w:World) (r:List It×Nat) (e:Ending) (w':World):Prop:=
 ∃V,e=.returned (.tuple #[V,.int .i64 (r.2:Int)])/\w'.ownsRow 0 29 4 V r.1.length (B3e r.1)/\(∀i,V.ownBlock=some i->S i\/w.heap.size<=i)/\B5p B came S w w'
theorem A7f.nil {B a:Nat} {S:Nat->Prop} {w w':World} {n:Nat} {v:Int} (b:v=(n:Int)) (h:B5p B a S w w'):A7f B a S w ([],n) (.returned (.tuple #[.slice none 0 0,.int .i64 v])) w':=by
 subst b;exact⟨_,rfl,B3u _ 29 4,(λi h=>by cases h),h⟩
theorem F7s (B:Nat) (t X v u:Value) (s:Ps) (m k:Nat) (w:World) (h:PR B w t X v u s) (C:Qv s v u) (b:PsOk s m k) (S:m<=5000000) (R:k<=10000000):
 Calls Tryz.prog 51 #[.pointer (some ⟨B,0,none⟩)] w (A7f B s.came (own B t X v u) w (A7t s)):=by
 have a:=h.oo;obtain⟨x,U,y,rfl⟩:=A0h a;have q:=A1a a;subst q;have k2:=A0a h.blk (show(A0f s t (.slice x s.opn.length y) v u)[2]? =some (.int .i64 0)from rfl);have E:=A0a h.blk (show(A0f s t (.slice x s.opn.length y) v u)[4]? =some (.int .i64 (s.st:Int))from rfl);have k5:=A0a h.blk (show(A0f s t (.slice x s.opn.length y) v u)[5]? =some t from rfl);have H:=A0a h.blk (show(A0f s t (.slice x s.opn.length y) v u)[6]? =some (.slice x s.opn.length y)from rfl);have r:=b.c.oln;have j:=b.st;unfold A7t;by_cases F:s.st=7
 ·by_cases f:s.opn=[]
  ·rw[if_pos ⟨F,f⟩]
   have l:=hid (B7a B t (.slice x s.opn.length y) v u s m k w h (C.2 (by omega) (by omega)) b S R);have d:s.opn.length=0:=by rw[f];rfl
   rw[F]at E;cases D:A2f s with
   |error n=>
    rw[D]at l
    show Calls _ _ _ _ (A7f _ _ _ _ (if n=6 then([],6)else([],7)))
    by_cases N:n=6
    ·rw[if_pos N]
     subst N;have g:=hid h;rw[d]at H l g ⊢;clear h a r b j f D;go_enter Tryz.func51,Tryz.ntmps51
     go_wp2_with fail
     refine Calls.mono l.out ?_;rintro e Y ⟨rfl,A⟩;have L:=hid A;clear A;go_wp2;go_ret2;exact A7f.nil rfl (B5p.same g.out L.out)
    ·rw[if_neg N]
     have a0:((n:Int)==6)=false:=bqF (by omega);have g:=hid h;rw[d]at H l g ⊢;clear h a r b j f D;go_enter Tryz.func51,Tryz.ntmps51
     go_wp2_with fail
     refine Calls.mono l.out ?_;rintro e Y ⟨rfl,A⟩;have T:=(A.cell (p:=⟨B,4,none⟩) (lt_of_block g.blk) id).trans E;have L:=hid A;clear A;go_wp2;go_ret2;exact A7f.nil rfl (B5p.same g.out L.out)
   |ok s'=>
    rw[D]at l;simp only;obtain⟨V,O,W⟩:=B3f D;rw[f]at O;have M:=hid V;rw[d]at H l ⊢;clear h a r b j f D C V;go_enter Tryz.func51,Tryz.ntmps51
    go_wp2_with fail
    refine Calls.mono l.out ?_;rintro e Y ⟨rfl,Z⟩;obtain⟨I,uo,Q,P,z,hQ⟩:=Z;have a:=z.pr.oo;obtain⟨bo,U,o,rfl⟩:=A0h a;have q:=A1a a;rw[O]at q;obtain rfl:U=0:=q;have T:=A0a z.pr.blk (show(A0f s' I (.slice bo 0 o) Q P)[4]? =some (.int .i64 (s'.st:Int))from rfl);have j5:=A0a z.pr.blk (show(A0f s' I (.slice bo 0 o) Q P)[5]? =some I from rfl);have j6:=A0a z.pr.blk (show(A0f s' I (.slice bo 0 o) Q P)[6]? =some (.slice bo 0 o)from rfl);rw[W]at T;have K:=hid z;clear z hQ a O W k2 E k5 H l F d S R;go_wp2;go_ret2;exact⟨I,rfl,K.pr.oi,λi hi=>K.ow i (.inr (.inl hi)),M.out▸K.err⟩
  ·rw[if_neg (λhh=>f hh.2),if_neg (λhh=>f hh.2)]
   have d:0<s.opn.length:=List.length_pos_iff.2 f;rw[F]at E;have g:=hid h;clear h a b j f C;go_enter Tryz.func51,Tryz.ntmps51;go_wp2;go_ret2;exact A7f.nil rfl (B5p.same g.out (Fr.refl _ _))
 ·have G:((s.st:Int)==7)=false:=bqF (by omega)
  rw[if_neg (λhh=>F hh.1)];by_cases J:s.st=5
  ·by_cases f:s.opn=[]
   ·rw[if_pos ⟨J,f⟩]
    have d:s.opn.length=0:=by rw[f];rfl
    have g:=hid h;rw[J]at E G;rw[d]at H g ⊢;clear h a r b j f C;go_enter Tryz.func51,Tryz.ntmps51;go_wp2;go_ret2;exact⟨t,rfl,g.oi,λi hi=>.inl (.inr (.inl hi)),B5p.same g.out (Fr.refl _ _)⟩
   ·rw[if_neg (λhh=>f hh.2)]
    have d:0<s.opn.length:=List.length_pos_iff.2 f;have g:=hid h;rw[J]at E G;clear h a b j f C;go_enter Tryz.func51,Tryz.ntmps51;go_wp2;go_ret2;exact A7f.nil rfl (B5p.same g.out (Fr.refl _ _))
  ·rw[if_neg (λhh=>J hh.1)]
   have a1:((s.st:Int)!=5)=true:=bne_iff_ne.2 (by omega);have g:=hid h;clear h a b j C;go_enter Tryz.func51,Tryz.ntmps51;go_wp2;go_ret2;exact A7f.nil rfl (B5p.same g.out (Fr.refl _ _))
def Rd (B:Nat) (S:Nat->Prop) (w0 w:World) (R:Except (Nat×Nat) Ps):Prop:=
 match R with
 |.ok s=>PSt B S w0 w s
 |.error (n,c)=>F0w B c n S w0 w
def A8q:Array Value:=
 #[.int .i64 0,.int .i64 0,.int .i64 0,.bool true,.int .i64 0,.slice none 0 0,.slice none 0 0,.string (ofL []),
  .int .i64 0,.bool false,.slice none 0 0,.int .i64 0,.int .i64 0,.bool false,
  .int .i64 0,.slice none 0 0,.int .i64 0,.int .u8 0,.int .u8 0,.int .i64 0,.int .i32 0,.int .i32 0]
def A8r (S:Nat->Prop) (w0:World) (r:List It×Nat×Nat) (e:Ending) (w':World):Prop:=
 ∃V,e=.returned (.tuple #[V,.int .i64 (r.2.1:Int),.int .i64 (r.2.2:Int)])/\w'.ownsRow 0 29 4 V r.1.length (B3e r.1)/\(∀i,V.ownBlock=some i->S i\/w0.heap.size<=i)/\Fr S w0 w'
theorem A8r.base {S T:Nat->Prop} {w0 w w':World} {r:List It×Nat×Nat} {e:Ending} (g:Fr S w0 w) (j:∀i,T i->S i\/w0.heap.size<=i) (h:A8r T w r e w'):A8r S w0 r e w':=by
 obtain⟨V,a,b,c,d⟩:=h;refine⟨V,a,b,?_,g.trans' d j⟩;intro i k;rcases c i k with f|f
 ·exact j i f
 ·have:=g.size
  exact .inr (by omega)
theorem D7z:A8q.all (·.oneCell')=true:=by simp[A8q,Value.oneCell']
theorem G1n {w:World} {B e size n:Nat} {v:Value} {xs:List Value} (h:w.ownsRow 0 e size v n xs) (j:v.ownBlock≠some B) (b:Array Value):(w.setRow B b).ownsRow 0 e size v n xs:=by
 refine⟨h.1,?_⟩;rcases h.2 with d|⟨g,cap,a,c,f,k,i⟩
 ·exact .inl d
 ·refine .inr ⟨g,cap,a,c,f,?_,i⟩
  rw[setRow_other w B g b (by intro e;apply j;rw[c,<-e];rfl)];exact k
theorem C8v (B c:Nat) (S:Nat->Prop) (w:World) (r:List It×Nat) (u:w.cell? ⟨B,3,none⟩=some (.bool false)) (i:S B\/w.heap.size<=B) (j:Calls Tryz.prog 51 #[.pointer (some ⟨B,0,none⟩)] w (A7f B c S w r)):
 Calls Tryz.prog 32 #[.pointer (some ⟨B,0,none⟩)] w (A8r S w (r.1,r.2,c)):=by
 have l:=hid j;have p:=hid i;clear j i;go_enter Tryz.func32,Tryz.ntmps32
 go_wp2_with fail
 refine Calls.mono l.out ?_;rintro e v ⟨V,rfl,b,d,s,a,g,f,h⟩;have t:=A0a a f;have o:=hid (G1n b (A8y b a (by decide)) A8q);have n:=hid d;have m:=hid (h.setRow p.out A8q);have k:=hid a;have q:=hid g;clear b d h a g f
 go_wp2_with (refine wpList_store_row rfl 113 _ _ rfl B A8q rfl rfl 113 s k.out Tryz.info75R q.out D7z ?_)
 go_ret3
 exact⟨V,rfl,o.out,n.out,m.out⟩
theorem E4c (B c n:Nat) (S:Nat->Prop) (w:World) (h:w.heap[B]? =some (.cells (A3k c n) 113 (0,0))) (b:n≠0):
 Calls Tryz.prog 51 #[.pointer (some ⟨B,0,none⟩)] w (A7f B c S w ([],n)):=by
 have e:=A0a h (show(A3k c n)[2]? =some (.int .i64 (n:Int))from rfl);have d:((n:Int)!=0)=true:=bne_iff_ne.2 (by omega);have a:=hid (show B5p B c S w w.drew from⟨_,h,rfl,rfl,(Fr.refl _ _).drew⟩);clear h b;go_enter Tryz.func51,Tryz.ntmps51;go_wp2;go_region
 all_goals
  go_wp2;go_ret2;exact A7f.nil rfl a.out
theorem E4d (B d:Nat) (S:Nat->Prop) (w0 w:World) (l:LU8) (k:1<=d) (m:d<=1000) (y:l.length<=1500000) (q:S B\/w0.heap.size<=B) (h:Rd B S w0 w (A0p (ps0 d) l)):
 Calls Tryz.prog 32 #[.pointer (some ⟨B,0,none⟩)] w (A8r S w0 (A5m (A0p (ps0 d) l))):=by
 cases b:A0p (ps0 d) l with
 |error x=>
  obtain⟨n,c⟩:=x;rw[b]at h;obtain⟨j,o⟩:=h;refine(C8v B c (λi=>i=B) w ([],n) (A0a j rfl) (.inl rfl) (E4c B c n _ w j (A9z b).1)).mono ?_;intro e w' g;exact A8r.base o (λi h=>by subst h;exact q) g
 |ok s=>
  rw[b]at h;obtain⟨r,u,v,t,a,p⟩:=h;have f:=D4s (F5b d k m) b;refine(C8v B s.came _ w (A7t s) (A0a a.pr.blk rfl) (.inl (.inl rfl)) (F7s B r u v t s _ _ w a.pr p f (by omega) (by omega))).mono ?_;intro e w' g;exact A8r.base a.fr a.ow g
end Go.Proofs.YtmkkibaacclhnaaGreatDoor
