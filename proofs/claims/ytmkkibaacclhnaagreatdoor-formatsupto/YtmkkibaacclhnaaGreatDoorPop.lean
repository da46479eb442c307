/-
  Part Pop.
-/
import Derived.Test.YtmkkibaacclhnaaGreatDoorPg
import Derived.Test.YtmkkibaacclhnaaGreatDoorPl
namespace Go.Proofs.YtmkkibaacclhnaaGreatDoor
open Go.RowKit
set_option maxRecDepth 100000
set_option maxHeartbeats 16000000
theorem F0g {w:World} {b a j c n m:Nat} {v u:Value} {xs ys:List Value} (h:w.ownsRow 0 b j v n xs) (k:w.ownsRow 0 a c u m ys) (i:b≠a):v.ownBlock=none\/v.ownBlock≠u.ownBlock:=by
 rcases h.2 with⟨rfl,_⟩|⟨g,cap,d,rfl,_,f,_⟩
 ·exact .inl rfl
 ·right
  intro e;exact A8y k f i e.symm
theorem B6b {W e:World} {a b c f n m:Nat} {v u:Value} {xs ys:List Value} {d:Obj} (h:W.ownsRow 0 a c v n xs) (k:W.ownsRow 0 b f u m ys) (g:a≠b) (i:(W.alloc d).grownBy e u.ownBlock):e.ownsRow 0 a c v n xs:=(h.alloc d).kept i (F0g h k g)
theorem PC.growI {B:Nat} {S:Nat->Prop} {w0 W n:World} {q j r u t:Value} {s:Ps} {w:Obj} (x:It) (h:PC B S w0 q r u t W s) (m:n.ownsRow 0 29 4 j (s.items.length+1) (B3e s.items++A1f x)) (p:(W.alloc w).grownBy n q.ownBlock)
 (C:∀g,j.ownBlock=some g->q.ownBlock=some g\/W.heap.size+1<=g):
 n.heap[B]? =some (.cells (A0f s q r u t) 113 (0,0))/\PC B S w0 j r u t (n.setCell ⟨B,5,none⟩ j) ⟨s.depth,s.came,s.st,s.items++[x],s.opn,s.word,s.tok,s.tx⟩:=by
 obtain⟨⟨a,b,c,d,e,f⟩,g,k⟩:=h;have v:=lt_of_block a;have hro:=A8y b a (show 113≠29 by decide)
 have o:n.heap[B]? =some (.cells (A0f s q r u t) 113 (0,0)):=by
  rw[p.block B (by simp;omega) (λe=>hro e.symm),Below.heap_alloc _ _ _ v];exact a
 have D:=g.size;refine⟨o,⟨heap_setCell_same n B 5 _ 113 j o,?_,?_,?_,?_,f⟩,?_,?_⟩
 ·have:=A0q m (a:=⟨B,5,none⟩) (A8y m o (by decide)) j
  rw[B0r,List.length_append];exact this
 ·have y:=B6b c b (by decide) p
  exact A0q y (A8y y o (by decide)) j
 ·have z:=B6b d b (by decide) p
  exact A0q z (A8y z o (by decide)) j
 ·have e':=B6b e b (by decide) p
  exact A0q e' (A8y e' o (by decide)) j
 ·exact((g.alloc w).grown p (λi l=>k i (.inr (.inl l)))).setCell (k B (.inl rfl)) _
 ·intro i l
  rcases l with l|l|l
  ·exact k i (.inl l)
  ·rcases C i l with A|A
   ·exact k i (.inr (.inl A))
   ·exact .inr (by omega)
  ·exact k i (.inr (.inr l))
theorem PC.growO {B:Nat} {S:Nat->Prop} {w0 W n:World} {u p j t r:Value} {s:Ps} {w:Obj} (x:Nat) (h:PC B S w0 u p t r W s) (m:n.ownsRow 0 3 1 j (s.opn.length+1) (opV s.opn++[.int .i64 (x:Int)])) (q:(W.alloc w).grownBy n p.ownBlock)
 (C:∀g,j.ownBlock=some g->p.ownBlock=some g\/W.heap.size+1<=g):
 n.heap[B]? =some (.cells (A0f s u p t r) 113 (0,0))/\PC B S w0 u j t r (n.setCell ⟨B,6,none⟩ j) ⟨s.depth,s.came,s.st,s.items,s.opn++[x],s.word,s.tok,s.tx⟩:=by
 obtain⟨⟨a,b,c,d,e,f⟩,g,k⟩:=h;have v:=lt_of_block a;have hro:=A8y c a (show 113≠3 by decide)
 have o:n.heap[B]? =some (.cells (A0f s u p t r) 113 (0,0)):=by
  rw[q.block B (by simp;omega) (λe=>hro e.symm),Below.heap_alloc _ _ _ v];exact a
 have E:=g.size;refine⟨o,⟨heap_setCell_same n B 6 _ 113 j o,?_,?_,?_,?_,f⟩,?_,?_⟩
 ·have y:=B6b b c (by decide) q
  exact A0q y (A8y y o (by decide)) j
 ·have:=A0q m (a:=⟨B,6,none⟩) (A8y m o (by decide)) j
  have D:opV (s.opn++[x])=opV s.opn++[.int .i64 (x:Int)]:=by simp[opV]
  show(n.setCell ⟨B,6,none⟩ j).ownsRow 0 3 1 j (s.opn++[x]).length (opV (s.opn++[x]))
  rw[D,List.length_append];exact this
 ·have z:=B6b d c (by decide) q
  exact A0q z (A8y z o (by decide)) j
 ·have e':=B6b e c (by decide) q
  exact A0q e' (A8y e' o (by decide)) j
 ·exact((g.alloc w).grown q (λi l=>k i (.inr (.inr (.inl l))))).setCell (k B (.inl rfl)) _
 ·intro i l
  rcases l with l|l|l|l
  ·exact k i (.inl l)
  ·exact k i (.inr (.inl l))
  ·rcases C i l with A|A
   ·exact k i (.inr (.inr (.inl A)))
   ·exact .inr (by omega)
  ·exact k i (.inr (.inr (.inr l)))
theorem A3p (w:World) (a b c d:Value) (e:Nat):∀j u,[a,b,c,d][j]? =some u->(w.alloc (.cells #[a,b,c,d] e)).cell? ((⟨w.heap.size,0,none⟩:Addr).add j)=some u:=by
 intro j u f;have g:=heap_alloc_new w (.cells #[a,b,c,d] e)
 match j,f with
 |0,f=>simp at f;subst f;exact A0a g rfl
 |1,f=>simp at f;subst f;exact A0a g rfl
 |2,f=>simp at f;subst f;exact A0a g rfl
 |3,f=>simp at f;subst f;exact A0a g rfl
 |(j+4),f=>simp at f
theorem Tryz.info29:(Tryz.prog.info? 29).map (λi=>(i.zero,i.size,i.bytes))=some (some (.agg #[.int .i64 0,.int .i64 0,.int .u64 0,.string ⟨#[]⟩]),4,40):=by kernel_rfl
theorem B0s (B:Nat) (y l i g:Value) (s:Ps) (k:Nat) (rest:LU8) (w:World) (h:PR B w y l i g s) (C:Nn i g) (x:s.items.length<=10000000):
 Calls Tryz.prog 186 #[.pointer (some ⟨B,0,none⟩),.int .i64 (k:Int),.string (ofL rest)] w λe w'=>e=.returned (.tuple #[])/\PSt B (own B y l i g) w w' (C2w s k rest):=by
 have H:=hid (PC.start h);obtain⟨D,A,p,r,m⟩:=info_parts Tryz.info29;have o:=h.oi;obtain⟨a,n,cap,rfl⟩:=A0h o;have E:=A0a h.blk (show(A0f s (.slice a n cap) l i g)[5]? =some (.slice a n cap)from rfl);have G:=A0b (j:=5) h.blk;clear h;go_enter Tryz.func186,Tryz.ntmps186
 go_wp2_with (first
  |(at_builtin;refine A0g _ rfl _ _ 22 rfl 29 D (.agg #[.int .i64 0,.int .i64 0,.int .u64 0,.string ⟨#[]⟩]) 4 40 Tryz.underlying22 A p r m rfl (by decide) _ _ _ rfl (o.alloc _) ⟨w.heap.size,0,none⟩ 1 1 (A1f ⟨k,0,0,[]⟩) rfl rfl ?c1 ?c2 ?c3 ?c4 ?_)
  |go_in)
 case c1=>exact A3p _ _ _ _ _ _
 case c2=>intro u z;simp[A1f]at z;rcases z with rfl|rfl|rfl|rfl<;>rfl
 case c3=>unfold maxLen;omega
 case c4=>omega
 intro L O c d f;obtain⟨P,I,v,rfl⟩:=A0h c;obtain⟨b,t⟩:=H.growI ⟨k,0,0,[]⟩ c d f;have N:=A0a b (show(A0f s (.slice a n cap) l i g)[4]? =some (.int .i64 (s.st:Int))from rfl);have M:=A0a b (show(A0f s (.slice a n cap) l i g)[5]? =some (.slice a n cap)from rfl);have K:=A0a b (show(A0f s (.slice a n cap) l i g)[7]? =some (.string (ofL s.word))from rfl);have J:=A0b (j:=4) b;have p5:=A0b (j:=5) b;have Q:=A0b (j:=7) b;have F:=hid ((t.cell 7 (.string (ofL rest)) ⟨s.depth,s.came,s.st,s.items++[⟨k,0,0,[]⟩],s.opn,rest,s.tok,s.tx⟩ rfl rfl rfl rfl rfl).cell 4 (.int .i64 6) (C2w s k rest) rfl rfl rfl rfl rfl);clear c d f b t o E G;go_wp2;go_end0;exact⟨rfl,_,_,_,_,F.out,C.q _⟩
theorem B4m (a:List It) (c:List Nat) (i:Nat):bump a (c++[i])=a.modify i (λx=>⟨x.k,x.n+1,x.b,x.s⟩):=by
 induction c with
 |nil=>rfl
 |cons j c ih=>
  cases c with
  |nil=>exact ih
  |cons k c=>exact ih
theorem PC.bump {B:Nat} {S:Nat->Prop} {w0 W:World} {l n cap:Nat} {p r q:Value} {s:Ps} (i:Nat) (x:It) (h:PC B S w0 (.slice (some ⟨l,0,none⟩) n cap) p r q W s) (t:s.items[i]? =some x):
 PC B S w0 (.slice (some ⟨l,0,none⟩) n cap) p r q (W.setCell ⟨l,i*4+1,none⟩ (.int .i64 ((x.n+1:Nat):Int))) ⟨s.depth,s.came,s.st,s.items.modify i (λx=>⟨x.k,x.n+1,x.b,x.s⟩),s.opn,s.word,s.tok,s.tx⟩:=by
 obtain⟨⟨a,b,c,d,e,f⟩,g,k⟩:=h;have o:l≠B:=λh=>A8y b a (show 113≠29 by decide) (by rw[<-h];rfl)
 have u:n=s.items.length:=by
  rcases b.2 with⟨h,_⟩|⟨_,_,_,h,_⟩
  ·cases h
  ·simp at h;exact h.2.1
 subst u
 have j:∀{e2 s2 m:Nat} {v:Value} {ys:List Value},e2≠29->W.ownsRow 0 e2 s2 v m ys->v.ownBlock≠some l:=λhe hv=>by
  rcases F0g hv b he with h|h
  ·rw[h];simp
  ·exact h
 refine⟨⟨?_,?_,?_,?_,?_,f⟩,?_,k⟩
 ·show(W.setCell ⟨l,i*4+1,none⟩ _).heap[B]? =_
  rw[Below.heap_setCell W ⟨l,i*4+1,none⟩ _ B (λe=>o e.symm)];exact a
 ·show(W.setCell ⟨l,i*4+1,none⟩ _).ownsRow 0 29 4 _ (s.items.modify i _).length (B3e (s.items.modify i _))
  rw[D1v s.items i x t,List.length_modify];exact B1s b (i*4+1) _
 ·exact A0q c (j (by decide) c) _
 ·exact A0q d (j (by decide) d) _
 ·exact A0q e (j (by decide) e) _
 ·exact g.setCell (k l (.inr (.inl rfl))) _
theorem C5m (B:Nat) (f k d c:Value) (s:Ps) (w:World) (h:PR B w f k d c s) (m:Nn d c) (g:s.opn=[]):
 Calls Tryz.prog 135 #[.pointer (some ⟨B,0,none⟩)] w λe w'=>e=.returned (.tuple #[])/\PSt B (own B f k d c) w w' (A2h s):=by
 have i:=(PC.start h).cell 4 (.int .i64 5) (A2h s) rfl (by unfold A2h;rw[g];rfl) rfl rfl rfl;have o:=hid i;have b:=h.oo;rw[g]at b;obtain⟨a,n,cap,rfl⟩:=A0h b
 have l:n=0:=by
  rcases b.2 with⟨h,_⟩|⟨_,_,_,h,_⟩
  ·simp at h;exact h.2.1
  ·simp at h;exact h.2.1
 subst l;have p:=A0a h.blk (show(A0f s f (.slice a 0 cap) d c)[6]? =some (.slice a 0 cap)from rfl);have r:=A0a h.blk (show(A0f s f (.slice a 0 cap) d c)[4]? =some (.int .i64 (s.st:Int))from rfl);have t:=A0b (j:=4) h.blk;clear h b i g;go_enter Tryz.func135,Tryz.ntmps135;go_wp2;go_end0;exact⟨rfl,_,_,_,_,o.out,m.q _⟩
theorem C5n (B:Nat) (z v f d:Value) (s:Ps) (a:List Nat) (i:Nat) (x:It) (w:World) (h:PR B w z v f d s) (A:Nn f d) (t:s.opn=a++[i]) (g:s.items[i]? =some x) (L:x.n<=10000000) (y:s.items.length<=10000000) (C:a.length<=10000000):
 Calls Tryz.prog 135 #[.pointer (some ⟨B,0,none⟩)] w λe w'=>e=.returned (.tuple #[])/\PSt B (own B z v f d) w w' (A2h s):=by
 have D:i<s.items.length:=by
  rcases Nat.lt_or_ge i s.items.length with u|u
  ·exact u
  ·rw[List.getElem?_eq_none u]at g;cases g
 obtain⟨m,p,rfl⟩:=A9r h.oi (by omega);have c:=h.oo;rw[t]at c;have l:(a++[i]).length=a.length+1:=by simp
 rw[l]at c;obtain⟨r,o,rfl⟩:=A9r c (by omega);have F:=hid (show A2h s=C1m ⟨s.depth,s.came,s.st,s.items.modify i (λx=>⟨x.k,x.n+1,x.b,x.s⟩),s.opn,s.word,s.tok,s.tx⟩ 5 by unfold A2h C1m;rw[t,B4m]);have I:=hid (((PC.start h).drew.bump i x g).cell 4 (.int .i64 5) (C1m ⟨s.depth,s.came,s.st,s.items.modify i (λx=>⟨x.k,x.n+1,x.b,x.s⟩),s.opn,s.word,s.tok,s.tx⟩ 5) rfl rfl rfl rfl rfl);have Q:=A0a h.blk (show(A0f s (.slice (some ⟨m,0,none⟩) s.items.length p) (.slice (some ⟨r,0,none⟩) (a.length+1) o) f d)[5]? =some (.slice (some ⟨m,0,none⟩) s.items.length p)from rfl);have K:=A0a h.blk (show(A0f s (.slice (some ⟨m,0,none⟩) s.items.length p) (.slice (some ⟨r,0,none⟩) (a.length+1) o) f d)[6]? =some (.slice (some ⟨r,0,none⟩) (a.length+1) o)from rfl);have O:=A0a h.blk (show(A0f s (.slice (some ⟨m,0,none⟩) s.items.length p) (.slice (some ⟨r,0,none⟩) (a.length+1) o) f d)[4]? =some (.int .i64 (s.st:Int))from rfl);have S:=A0b (j:=4) h.blk;have P:=A2c c a.length (.int .i64 (i:Int)) (by simp[opV]);have R:=A2c h.oi (i*4+1) (.int .i64 (x.n:Int)) (by rw[D4j s.items i 1 x g (by omega)];rfl);have J:=C5k h.oi (i*4+1);have E:m≠B:=λe=>A8y h.oi h.blk (show 113≠29 by decide) (by rw[<-e];rfl)
 have H:=A2a h.oi;have G:=A2a c;clear h c t g l;generalize s.items.length=N at*;generalize a.length=M at*;go_enter Tryz.func135,Tryz.ntmps135;go_wp2;go_region
 all_goals
  go_wp2;go_end0;rw[F.out];exact⟨rfl,_,_,_,_,I.out,A.q _⟩
def E2x (s:Ps):Prop:=∀i∈s.opn,∃x,s.items[i]? =some x/\x.n<=10000000
theorem A7a (B:Nat) (g f c a:Value) (s:Ps) (w:World) (h:PR B w g f c a s) (l:Nn c a) (p:E2x s) (d:s.items.length<=10000000) (b:s.opn.length<=10000000):
 Calls Tryz.prog 135 #[.pointer (some ⟨B,0,none⟩)] w λe w'=>e=.returned (.tuple #[])/\PSt B (own B g f c a) w w' (A2h s):=by
 rcases List.eq_nil_or_concat s.opn with o|⟨k,i,j⟩
 ·exact C5m B g f c a s w h l o
 ·rw[List.concat_eq_append]at j
  obtain⟨x,n,m⟩:=p i (by rw[j];simp);exact C5n B g f c a s k i x w h l j n m d (by rw[j]at b;simp at b;omega)
theorem PC.trans {B:Nat} {S:Nat->Prop} {w0 W w':World} {e a c b:Value} {s d:Ps} (h:PC B S w0 e a c b W s) (k:PSt B (own B e a c b) W w' d):PSt B S w0 w' d:=by
 obtain⟨l,m,j,o,k,n⟩:=k;have p:=h.fr.size;refine⟨l,m,j,o,⟨k.pr,h.fr.trans' k.fr h.ow,?_⟩,n⟩;intro i g;rcases k.ow i g with f|f
 ·exact h.ow i f
 ·exact .inr (by omega)
theorem PC.cut {B:Nat} {S:Nat->Prop} {w0 W:World} {n m:Nat} {r p o:Value} {s:Ps} {j:List Nat} {i:Nat} (h:PC B S w0 r (.slice (some ⟨n,0,none⟩) (j.length+1) m) p o W s) (t:s.opn=j++[i]):
 PC B S w0 r (.slice (some ⟨n,0,none⟩) j.length m) p o (W.setCell ⟨B,6,none⟩ (.slice (some ⟨n,0,none⟩) j.length m)) ⟨s.depth,s.came,s.st,s.items,s.opn.dropLast,s.word,s.tok,s.tx⟩:=by
 obtain⟨⟨a,b,c,d,e,f⟩,g,k⟩:=h;refine⟨⟨heap_setCell_same W B 6 _ 113 _ a,A0q b (A8y b a (by decide)) _,?_,A0q d (A8y d a (by decide)) _,A0q e (A8y e a (by decide)) _,f⟩,g.setCell (k B (.inl rfl)) _,k⟩;have v:s.opn.dropLast=j:=by rw[t];simp
 show(W.setCell ⟨B,6,none⟩ _).ownsRow 0 3 1 _ s.opn.dropLast.length (opV s.opn.dropLast)
 rw[v];have l:=c;rw[t]at l;have w:opV (j++[i])=opV j++[.int .i64 (i:Int)]:=by simp[opV]
 have u:(j++[i]).length=j.length+1:=by simp
 rw[w,u]at l;have q:=G0z l;exact A0q q (A8y q a (by decide)) _
theorem B1t (B:Nat) (k q f d:Value) (s:Ps) (a:List Nat) (i:Nat) (w:World) (h:PR B w k q f d s) (t:Nn f d) (p:s.opn=a++[i]) (l:E2x s) (c:s.items.length<=10000000) (u:a.length<=10000000):
 Calls Tryz.prog 138 #[.pointer (some ⟨B,0,none⟩)] w λe w'=>e=.returned (.tuple #[])/\PSt B (own B k q f d) w w' (A5d s):=by
 have b:=h.oo;rw[p]at b;have g:(a++[i]).length=a.length+1:=by simp
 rw[g]at b;obtain⟨o,m,rfl⟩:=A9r b (by omega);have y:=A2a b;have r:=hid ((PC.start h).drew.cut p);have x:=hid (λ(w:World) (n:PR B w k (.slice (some ⟨o,0,none⟩) a.length m) f d ⟨s.depth,s.came,s.st,s.items,s.opn.dropLast,s.word,s.tok,s.tx⟩)=>A7a B k (.slice (some ⟨o,0,none⟩) a.length m) f d ⟨s.depth,s.came,s.st,s.items,s.opn.dropLast,s.word,s.tok,s.tx⟩ w n t (λj hj=>l j (List.dropLast_subset _ hj)) c (by show s.opn.dropLast.length<=_;rw[p];simp;omega));have A:=A0a h.blk (show(A0f s k (.slice (some ⟨o,0,none⟩) (a.length+1) m) f d)[6]? =some (.slice (some ⟨o,0,none⟩) (a.length+1) m)from rfl);have z:=A0b (j:=6) h.blk;clear h b p g l c;generalize a.length=M at*;go_enter Tryz.func138,Tryz.ntmps138;go_wp2;go_region
 all_goals
  go_wp2_with fail
  refine Calls.mono (x.out _ r.pr) ?_;rintro e C ⟨rfl,n⟩;have v:=hid (r.trans n);clear n;go_wp2;go_end0;exact⟨rfl,v.out⟩
theorem Tryz.info3P:(Tryz.prog.info? 3).map (λi=>(i.zero,i.size,i.bytes))=some (some (.int .i64 0),1,8):=by kernel_rfl
def B5p (B came:Nat) (S:Nat->Prop) (w w':World):Prop:=∃cs,w'.heap[B]? =some (.cells cs 113 (0,0))/\cs.size=22/\cs[1]? =some (.int .i64 (came:Int))/\Fr S w w'
theorem PC.err {B:Nat} {S:Nat->Prop} {w0 W:World} {d b a c:Value} {s:Ps} (h:PC B S w0 d b a c W s):B5p B s.came S w0 W:=⟨_,h.pr.blk,rfl,rfl,h.fr⟩
def A3v (B came:Nat) (S:Nat->Prop) (w:World) (r:Except Nat Ps) (e:Ending) (w':World):Prop:=
 match r with
 |.ok s'=>e=.returned (.tuple #[])/\PSt B S w w' s'
 |.error n=>e=E0s n/\B5p B came S w w'
theorem B4n (B:Nat) (vi Y n m:Value) (s:Ps) (k st:Nat) (w:World) (h:PR B w vi Y n m s) (hq:Nn n m) (U:s.items.length<=10000000) (a0:s.opn.length<=10000000):
 Calls Tryz.prog 187 #[.pointer (some ⟨B,0,none⟩),.int .i64 (k:Int),.int .i64 (st:Int)] w (A3v B s.came (own B vi Y n m) w (A6b s k st)):=by
 have H:=hid (PC.start h);have I:=h.oi;have z:=h.oo;obtain⟨g,ni,f,rfl⟩:=A0h I;obtain⟨r,no,t,rfl⟩:=A0h z
 have M:ni=s.items.length:=by
  rcases I.2 with⟨h,h2⟩|⟨_,_,_,h,_⟩
  ·simp at h;omega
  ·simp at h;exact h.2.1
 have R:no=s.opn.length:=by
  rcases z.2 with⟨h,h2⟩|⟨_,_,_,h,_⟩
  ·simp at h;omega
  ·simp at h;exact h.2.1
 subst M;subst R;have C:=lt_of_block h.blk;have k0:=A0a h.blk (show(A0f s (.slice g s.items.length f) (.slice r s.opn.length t) n m)[0]? =some (.int .i64 (s.depth:Int))from rfl);have V:=A0a h.blk (show(A0f s (.slice g s.items.length f) (.slice r s.opn.length t) n m)[5]? =some (.slice g s.items.length f)from rfl);have Z:=A0a h.blk (show(A0f s (.slice g s.items.length f) (.slice r s.opn.length t) n m)[6]? =some (.slice r s.opn.length t)from rfl);have f6:=A0b (j:=6) h.blk;have T:∀ob,(w.alloc ob).cell? ⟨B,5,none⟩=some (.slice g s.items.length f):=λob=>(World.cell?_of_block (w:=w) (Below.heap_alloc _ _ _ C)).trans V
 have a6:∀ob,(w.alloc ob).cell? ⟨B,6,none⟩=some (.slice r s.opn.length t):=λob=>(World.cell?_of_block (w:=w) (Below.heap_alloc _ _ _ C)).trans Z
 unfold A6b;by_cases G:s.opn.length=s.depth
 ·rw[if_pos G]
  have N:((s.opn.length:Int)==(s.depth:Int))=true:=beq_iff_eq.2 (by omega);have HK:=hid H.drew.err;clear h I z G T a6;go_enter Tryz.func187,Tryz.ntmps187;go_wp2;go_region
  all_goals
   go_wp2;exact⟨rfl,rfl,HK.out⟩
 ·rw[if_neg G]
  have N:((s.opn.length:Int)==(s.depth:Int))=false:=bqF (by omega);obtain⟨i0,hi,K,L,P⟩:=info_parts Tryz.info3P;obtain⟨j0,gi,S,J,Q⟩:=info_parts Tryz.info29;have HD:=hid H.drew.drew;have OO:=hid (show w.drew.drew.ownsRow 0 3 1 (.slice r s.opn.length t) s.opn.length (opV s.opn)from z);clear h I z G;go_enter Tryz.func187,Tryz.ntmps187
  go_upto_region 0 with fail
  go_cut [15] (λb wc=>b=.bool false/\wc=w.drew)
  case first=>
   go_region
   all_goals
    go_wp2;go_meet;exact⟨rfl,rfl⟩
  case rest=>
   obtain⟨rfl,rfl⟩:=hcut;go_wp2
   go_region_law (refine A7q rfl _ _ 59 rfl 3 i0 (.int .i64 0) 1 8 Tryz.underlying59 hi K L P rfl (by decide) (.slice r s.opn.length t) _ _ rfl (OO.alloc _) ⟨w.drew.drew.heap.size,0,none⟩ 1 1 [.int .i64 (s.items.length:Int)] rfl rfl (cell_one_new _ _ _) (by intro u A;simp at A;subst A;rfl) (by unfold maxLen;omega) (by omega) ?_;intro v' w1 a l v;obtain⟨E,D,d,rfl⟩:=A0h a;obtain⟨p,W⟩:=HD.growO s.items.length a l (by simpa using v);have q5:=A0a p (show(A0f s (.slice g s.items.length f) (.slice r s.opn.length t) n m)[5]? =some (.slice g s.items.length f)from rfl);have q6:=A0a p (show(A0f s (.slice g s.items.length f) (.slice r s.opn.length t) n m)[6]? =some (.slice r s.opn.length t)from rfl);have p6:=A0b (j:=6) p;have p5:=A0b (j:=5) p;have F:=hid W;clear a l v p W)
   all_goals
    generalize w1.setCell ⟨B,6,none⟩ (.slice E D d)=W2 at*;have x:=F.pr.oi;have r5:=A0a F.pr.blk (show(A0f ⟨s.depth,s.came,s.st,s.items,s.opn++[s.items.length],s.word,s.tok,s.tx⟩ (.slice g s.items.length f) (.slice E D d) n m)[5]? =some (.slice g s.items.length f)from rfl);have t5:=A0b (j:=5) F.pr.blk;clear q5 q6 p5 p6 k0 V Z f6 T a6
    go_wp2_with (at_builtin;refine A0g _ rfl _ _ 22 rfl 29 j0 (.agg #[.int .i64 0,.int .i64 0,.int .u64 0,.string ⟨#[]⟩]) 4 40 Tryz.underlying22 gi S J Q rfl (by decide) _ _ _ rfl (x.alloc _) ⟨W2.heap.size,0,none⟩ 1 1 (A1f ⟨k,0,0,[]⟩) rfl rfl ?c1 ?c2 ?c3 ?c4 ?_)
    case c1=>first|exact A3p _ _ _ _ _ _|exactλj u hj=>hj
    case c2=>intro u A;simp[A1f]at A;rcases A with rfl|rfl|rfl|rfl<;>rfl
    case c3=>unfold maxLen;omega
    case c4=>omega
    intro v2 w2 c e o;obtain⟨a2,n2,X,rfl⟩:=A0h c;obtain⟨i,y⟩:=F.growI ⟨k,0,0,[]⟩ c e o;have u4:=A0a i (show(A0f ⟨s.depth,s.came,s.st,s.items,s.opn++[s.items.length],s.word,s.tok,s.tx⟩ (.slice g s.items.length f) (.slice E D d) n m)[4]? =some (.int .i64 (s.st:Int))from rfl);have u5:=A0a i (show(A0f ⟨s.depth,s.came,s.st,s.items,s.opn++[s.items.length],s.word,s.tok,s.tx⟩ (.slice g s.items.length f) (.slice E D d) n m)[5]? =some (.slice g s.items.length f)from rfl);have x4:=A0b (j:=4) i;have x5:=A0b (j:=5) i;have O:=hid (y.cell 4 (.int .i64 (st:Int)) ⟨s.depth,s.came,st,s.items++[⟨k,0,0,[]⟩],s.opn++[s.items.length],s.word,s.tok,s.tx⟩ rfl rfl rfl rfl rfl);clear c e o i y x r5 t5;go_wp2;go_end0;exact⟨rfl,_,_,_,_,O.out,hq.q _⟩
end Go.Proofs.YtmkkibaacclhnaaGreatDoor
