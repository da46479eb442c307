/-
  Part Pop.
-/
import Derived.Test.YtmkkibaacclhnaaGreatDoorPg
import Derived.Test.YtmkkibaacclhnaaGreatDoorPl
namespace Go.Proofs.YtmkkibaacclhnaaGreatDoor
open Go.RowKit
set_option maxRecDepth 100000
set_option maxHeartbeats 16000000
theorem F0g {w:World} {a b i j n m:Nat} {v u:Value} {xs ys:List Value} (h:w.ownsRow 0 a i v n xs) (k:w.ownsRow 0 b j u m ys) (d:a≠b):v.ownBlock=none\/v.ownBlock≠u.ownBlock:=by
 rcases h.2 with⟨rfl,_⟩|⟨g,cap,c,rfl,_,f,_⟩
 ·exact .inl rfl
 ·right
  intro e;exact A8y k f d e.symm
theorem B6b {W e:World} {a b d i n m:Nat} {v u:Value} {xs ys:List Value} {c:Obj} (h:W.ownsRow 0 a d v n xs) (k:W.ownsRow 0 b i u m ys) (f:a≠b) (g:(W.alloc c).grownBy e u.ownBlock):e.ownsRow 0 a d v n xs:=(h.alloc c).kept g (F0g h k f)
theorem PC.growI {B:Nat} {S:Nat->Prop} {w0 W o:World} {q j t u r:Value} {s:Ps} {A:Obj} (x:It) (h:PC B S w0 q t u r W s) (m:o.ownsRow 0 29 4 j (s.items.length+1) (B3e s.items++A1f x)) (p:(W.alloc A).grownBy o q.ownBlock)
 (D:∀g,j.ownBlock=some g->q.ownBlock=some g\/W.heap.size+1<=g):
 o.heap[B]? =some (.cells (A0f s q t u r) 113 (0,0))/\PC B S w0 j t u r (o.setCell ⟨B,5,none⟩ j) ⟨s.depth,s.came,s.st,s.items++[x],s.opn,s.word,s.tok,s.tx⟩:=by
 obtain⟨⟨a,b,c,d,e,f⟩,g,k⟩:=h;have v:=lt_of_block a;have hro:=A8y b a (show 113≠29 by decide)
 have n:o.heap[B]? =some (.cells (A0f s q t u r) 113 (0,0)):=by
  rw[p.block B (by simp;omega) (λe=>hro e.symm),Below.heap_alloc _ _ _ v];exact a
 have C:=g.size;refine⟨n,⟨heap_setCell_same o B 5 _ 113 j n,?_,?_,?_,?_,f⟩,?_,?_⟩
 ·have:=A0q m (a:=⟨B,5,none⟩) (A8y m n (by decide)) j
  rw[B0r,List.length_append];exact this
 ·have w:=B6b c b (by decide) p
  exact A0q w (A8y w n (by decide)) j
 ·have y:=B6b d b (by decide) p
  exact A0q y (A8y y n (by decide)) j
 ·have e':=B6b e b (by decide) p
  exact A0q e' (A8y e' n (by decide)) j
 ·exact((g.alloc A).grown p (λi l=>k i (.inr (.inl l)))).setCell (k B (.inl rfl)) _
 ·intro i l
  rcases l with l|l|l
  ·exact k i (.inl l)
  ·rcases D i l with z|z
   ·exact k i (.inr (.inl z))
   ·exact .inr (by omega)
  ·exact k i (.inr (.inr l))
theorem PC.growO {B:Nat} {S:Nat->Prop} {w0 W n:World} {r q j u t:Value} {s:Ps} {A:Obj} (x:Nat) (h:PC B S w0 r q u t W s) (m:n.ownsRow 0 3 1 j (s.opn.length+1) (opV s.opn++[.int .i64 (x:Int)])) (p:(W.alloc A).grownBy n q.ownBlock)
 (E:∀g,j.ownBlock=some g->q.ownBlock=some g\/W.heap.size+1<=g):
 n.heap[B]? =some (.cells (A0f s r q u t) 113 (0,0))/\PC B S w0 r j u t (n.setCell ⟨B,6,none⟩ j) ⟨s.depth,s.came,s.st,s.items,s.opn++[x],s.word,s.tok,s.tx⟩:=by
 obtain⟨⟨a,b,c,d,e,f⟩,g,k⟩:=h;have v:=lt_of_block a;have hro:=A8y c a (show 113≠3 by decide)
 have o:n.heap[B]? =some (.cells (A0f s r q u t) 113 (0,0)):=by
  rw[p.block B (by simp;omega) (λe=>hro e.symm),Below.heap_alloc _ _ _ v];exact a
 have D:=g.size;refine⟨o,⟨heap_setCell_same n B 6 _ 113 j o,?_,?_,?_,?_,f⟩,?_,?_⟩
 ·have w:=B6b b c (by decide) p
  exact A0q w (A8y w o (by decide)) j
 ·have:=A0q m (a:=⟨B,6,none⟩) (A8y m o (by decide)) j
  have C:opV (s.opn++[x])=opV s.opn++[.int .i64 (x:Int)]:=by simp[opV]
  show(n.setCell ⟨B,6,none⟩ j).ownsRow 0 3 1 j (s.opn++[x]).length (opV (s.opn++[x]))
  rw[C,List.length_append];exact this
 ·have y:=B6b d c (by decide) p
  exact A0q y (A8y y o (by decide)) j
 ·have e':=B6b e c (by decide) p
  exact A0q e' (A8y e' o (by decide)) j
 ·exact((g.alloc A).grown p (λi l=>k i (.inr (.inr (.inl l))))).setCell (k B (.inl rfl)) _
 ·intro i l
  rcases l with l|l|l|l
  ·exact k i (.inl l)
  ·exact k i (.inr (.inl l))
  ·rcases E i l with z|z
   ·exact k i (.inr (.inr (.inl z)))
   ·exact .inr (by omega)
  ·exact k i (.inr (.inr (.inr l)))
theorem A3p (w:World) (a b c d:Value) (e:Nat):∀j u,[a,b,c,d][j]? =some u->(w.alloc (.cells #[a,b,c,d] e)).cell? ((⟨w.heap.size,0,none⟩:Addr).add j)=some u:=by
 intro j u f;have g:=heap_alloc_new w (.cells #[a,b,c,d] e)
 match j,f with
 |0,f=>simp at f;subst f;exact A0a g rfl
 |1,f=>simp at f;subst f;exact A0a g rfl
 |2,f=>simp at f;subst f;exact A0a g rfl
 |3,f=>simp at f;subst f;exact A0a g rfl
 |(j+4),f=>simp at f
theorem Tryz.info29:(Tryz.prog.info? 29).map (λi=>(i.zero,i.size,i.bytes))=some (some (.agg #[.int .i64 0,.int .i64 0,.int .u64 0,.string ⟨#[]⟩]),4,40):=by kernel_rfl
theorem B0s (B:Nat) (z l i g:Value) (s:Ps) (k:Nat) (rest:LU8) (w:World) (h:PR B w z l i g s) (E:Nn i g) (x:s.items.length<=10000000):
 Calls Tryz.prog 186 #[.pointer (some ⟨B,0,none⟩),.int .i64 (k:Int),.string (ofL rest)] w λe w'=>e=.returned (.tuple #[])/\PSt B (own B z l i g) w w' (C2w s k rest):=by
 have H:=hid (PC.start h);obtain⟨F,D,m,o,p⟩:=info_parts Tryz.info29;have r:=h.oi;obtain⟨a,n,cap,rfl⟩:=A0h r;have G:=A0a h.blk (show(A0f s (.slice a n cap) l i g)[5]? =some (.slice a n cap)from rfl);have C:=A0b (j:=5) h.blk;clear h;go_enter Tryz.func186,Tryz.ntmps186
 go_wp2_with (first
  |(at_builtin;refine A0g _ rfl _ _ 22 rfl 29 F (.agg #[.int .i64 0,.int .i64 0,.int .u64 0,.string ⟨#[]⟩]) 4 40 Tryz.underlying22 D m o p rfl (by decide) _ _ _ rfl (r.alloc _) ⟨w.heap.size,0,none⟩ 1 1 (A1f ⟨k,0,0,[]⟩) rfl rfl ?c1 ?c2 ?c3 ?c4 ?_)
  |go_in)
 case c1=>exact A3p _ _ _ _ _ _
 case c2=>intro u y;simp[A1f]at y;rcases y with rfl|rfl|rfl|rfl<;>rfl
 case c3=>unfold maxLen;omega
 case c4=>omega
 intro P Q c d f;obtain⟨I,J,t,rfl⟩:=A0h c;obtain⟨b,v⟩:=H.growI ⟨k,0,0,[]⟩ c d f;have M:=A0a b (show(A0f s (.slice a n cap) l i g)[4]? =some (.int .i64 (s.st:Int))from rfl);have N:=A0a b (show(A0f s (.slice a n cap) l i g)[5]? =some (.slice a n cap)from rfl);have O:=A0a b (show(A0f s (.slice a n cap) l i g)[7]? =some (.string (ofL s.word))from rfl);have K:=A0b (j:=4) b;have p5:=A0b (j:=5) b;have L:=A0b (j:=7) b;have A:=hid ((v.cell 7 (.string (ofL rest)) ⟨s.depth,s.came,s.st,s.items++[⟨k,0,0,[]⟩],s.opn,rest,s.tok,s.tx⟩ rfl rfl rfl rfl rfl).cell 4 (.int .i64 6) (C2w s k rest) rfl rfl rfl rfl rfl);clear c d f b v r G C;go_wp2;go_end0;exact⟨rfl,_,_,_,_,A.out,E.q _⟩
theorem B4m (a:List It) (c:List Nat) (i:Nat):bump a (c++[i])=a.modify i (λx=>⟨x.k,x.n+1,x.b,x.s⟩):=by
 induction c with
 |nil=>rfl
 |cons j c ih=>
  cases c with
  |nil=>exact ih
  |cons k c=>exact ih
theorem PC.bump {B:Nat} {S:Nat->Prop} {w0 W:World} {l n cap:Nat} {q r p:Value} {s:Ps} (i:Nat) (x:It) (h:PC B S w0 (.slice (some ⟨l,0,none⟩) n cap) q r p W s) (t:s.items[i]? =some x):
 PC B S w0 (.slice (some ⟨l,0,none⟩) n cap) q r p (W.setCell ⟨l,i*4+1,none⟩ (.int .i64 ((x.n+1:Nat):Int))) ⟨s.depth,s.came,s.st,s.items.modify i (λx=>⟨x.k,x.n+1,x.b,x.s⟩),s.opn,s.word,s.tok,s.tx⟩:=by
 obtain⟨⟨a,b,c,d,e,f⟩,g,k⟩:=h;have o:l≠B:=λh=>A8y b a (show 113≠29 by decide) (by rw[<-h];rfl)
 have u:n=s.items.length:=by
  rcases b.2 with⟨h,_⟩|⟨_,_,_,h,_⟩
  ·cases h
  ·simp at h;exact h.2.1
 subst u
 have j:∀{e2 s2 m:Nat} {v:Value} {ys:List Value},e2≠29->W.ownsRow 0 e2 s2 v m ys->v.ownBlock≠some l:=λhe hv=>by
  rcases F0g hv b he with h|h
  ·rw[h];simp
  ·exact h
 refine⟨⟨?_,?_,?_,?_,?_,f⟩,?_,k⟩
 ·show(W.setCell ⟨l,i*4+1,none⟩ _).heap[B]? =_
  rw[Below.heap_setCell W ⟨l,i*4+1,none⟩ _ B (λe=>o e.symm)];exact a
 ·show(W.setCell ⟨l,i*4+1,none⟩ _).ownsRow 0 29 4 _ (s.items.modify i _).length (B3e (s.items.modify i _))
  rw[D1v s.items i x t,List.length_modify];exact B1s b (i*4+1) _
 ·exact A0q c (j (by decide) c) _
 ·exact A0q d (j (by decide) d) _
 ·exact A0q e (j (by decide) e) _
 ·exact g.setCell (k l (.inr (.inl rfl))) _
theorem C5m (B:Nat) (f k d c:Value) (s:Ps) (w:World) (h:PR B w f k d c s) (o:Nn d c) (g:s.opn=[]):
 Calls Tryz.prog 135 #[.pointer (some ⟨B,0,none⟩)] w λe w'=>e=.returned (.tuple #[])/\PSt B (own B f k d c) w w' (A2h s):=by
 have i:=(PC.start h).cell 4 (.int .i64 5) (A2h s) rfl (by unfold A2h;rw[g];rfl) rfl rfl rfl;have l:=hid i;have b:=h.oo;rw[g]at b;obtain⟨a,n,cap,rfl⟩:=A0h b
 have m:n=0:=by
  rcases b.2 with⟨h,_⟩|⟨_,_,_,h,_⟩
  ·simp at h;exact h.2.1
  ·simp at h;exact h.2.1
 subst m;have t:=A0a h.blk (show(A0f s f (.slice a 0 cap) d c)[6]? =some (.slice a 0 cap)from rfl);have r:=A0a h.blk (show(A0f s f (.slice a 0 cap) d c)[4]? =some (.int .i64 (s.st:Int))from rfl);have p:=A0b (j:=4) h.blk;clear h b i g;go_enter Tryz.func135,Tryz.ntmps135;go_wp2;go_end0;exact⟨rfl,_,_,_,_,l.out,o.q _⟩
theorem C5n (B:Nat) (y z f d:Value) (s:Ps) (a:List Nat) (i:Nat) (x:It) (w:World) (h:PR B w y z f d s) (I:Nn f d) (u:s.opn=a++[i]) (l:s.items[i]? =some x) (L:x.n<=10000000) (v:s.items.length<=10000000) (H:a.length<=10000000):
 Calls Tryz.prog 135 #[.pointer (some ⟨B,0,none⟩)] w λe w'=>e=.returned (.tuple #[])/\PSt B (own B y z f d) w w' (A2h s):=by
 have G:i<s.items.length:=by
  rcases Nat.lt_or_ge i s.items.length with t|t
  ·exact t
  ·rw[List.getElem?_eq_none t]at l;cases l
 obtain⟨g,o,rfl⟩:=A9r h.oi (by omega);have c:=h.oo;rw[u]at c;have m:(a++[i]).length=a.length+1:=by simp
 rw[m]at c;obtain⟨r,p,rfl⟩:=A9r c (by omega);have A:=hid (show A2h s=C1m ⟨s.depth,s.came,s.st,s.items.modify i (λx=>⟨x.k,x.n+1,x.b,x.s⟩),s.opn,s.word,s.tok,s.tx⟩ 5 by unfold A2h C1m;rw[u,B4m]);have C:=hid (((PC.start h).drew.bump i x l).cell 4 (.int .i64 5) (C1m ⟨s.depth,s.came,s.st,s.items.modify i (λx=>⟨x.k,x.n+1,x.b,x.s⟩),s.opn,s.word,s.tok,s.tx⟩ 5) rfl rfl rfl rfl rfl);have P:=A0a h.blk (show(A0f s (.slice (some ⟨g,0,none⟩) s.items.length o) (.slice (some ⟨r,0,none⟩) (a.length+1) p) f d)[5]? =some (.slice (some ⟨g,0,none⟩) s.items.length o)from rfl);have Q:=A0a h.blk (show(A0f s (.slice (some ⟨g,0,none⟩) s.items.length o) (.slice (some ⟨r,0,none⟩) (a.length+1) p) f d)[6]? =some (.slice (some ⟨r,0,none⟩) (a.length+1) p)from rfl);have O:=A0a h.blk (show(A0f s (.slice (some ⟨g,0,none⟩) s.items.length o) (.slice (some ⟨r,0,none⟩) (a.length+1) p) f d)[4]? =some (.int .i64 (s.st:Int))from rfl);have J:=A0b (j:=4) h.blk;have S:=A2c c a.length (.int .i64 (i:Int)) (by simp[opV]);have R:=A2c h.oi (i*4+1) (.int .i64 (x.n:Int)) (by rw[D4j s.items i 1 x l (by omega)];rfl);have K:=C5k h.oi (i*4+1);have F:g≠B:=λe=>A8y h.oi h.blk (show 113≠29 by decide) (by rw[<-e];rfl)
 have D:=A2a h.oi;have E:=A2a c;clear h c u l m;generalize s.items.length=N at*;generalize a.length=M at*;go_enter Tryz.func135,Tryz.ntmps135;go_wp2;go_region
 all_goals
  go_wp2;go_end0;rw[A.out];exact⟨rfl,_,_,_,_,C.out,I.q _⟩
def E2x (s:Ps):Prop:=∀i∈s.opn,∃x,s.items[i]? =some x/\x.n<=10000000
theorem A7a (B:Nat) (g j d c:Value) (s:Ps) (w:World) (h:PR B w g j d c s) (l:Nn d c) (o:E2x s) (a:s.items.length<=10000000) (b:s.opn.length<=10000000):
 Calls Tryz.prog 135 #[.pointer (some ⟨B,0,none⟩)] w λe w'=>e=.returned (.tuple #[])/\PSt B (own B g j d c) w w' (A2h s):=by
 rcases List.eq_nil_or_concat s.opn with m|⟨k,i,f⟩
 ·exact C5m B g j d c s w h l m
 ·rw[List.concat_eq_append]at f
  obtain⟨x,p,n⟩:=o i (by rw[f];simp);exact C5n B g j d c s k i x w h l f p n a (by rw[f]at b;simp at b;omega)
theorem PC.trans {B:Nat} {S:Nat->Prop} {w0 W w':World} {c e f d:Value} {s b:Ps} (h:PC B S w0 c e f d W s) (k:PSt B (own B c e f d) W w' b):PSt B S w0 w' b:=by
 obtain⟨l,n,o,m,k,j⟩:=k;have p:=h.fr.size;refine⟨l,n,o,m,⟨k.pr,h.fr.trans' k.fr h.ow,?_⟩,j⟩;intro i g;rcases k.ow i g with a|a
 ·exact h.ow i a
 ·exact .inr (by omega)
theorem PC.cut {B:Nat} {S:Nat->Prop} {w0 W:World} {n m:Nat} {q t r:Value} {s:Ps} {j:List Nat} {i:Nat} (h:PC B S w0 q (.slice (some ⟨n,0,none⟩) (j.length+1) m) t r W s) (p:s.opn=j++[i]):
 PC B S w0 q (.slice (some ⟨n,0,none⟩) j.length m) t r (W.setCell ⟨B,6,none⟩ (.slice (some ⟨n,0,none⟩) j.length m)) ⟨s.depth,s.came,s.st,s.items,s.opn.dropLast,s.word,s.tok,s.tx⟩:=by
 obtain⟨⟨a,b,c,d,e,f⟩,g,k⟩:=h;refine⟨⟨heap_setCell_same W B 6 _ 113 _ a,A0q b (A8y b a (by decide)) _,?_,A0q d (A8y d a (by decide)) _,A0q e (A8y e a (by decide)) _,f⟩,g.setCell (k B (.inl rfl)) _,k⟩;have w:s.opn.dropLast=j:=by rw[p];simp
 show(W.setCell ⟨B,6,none⟩ _).ownsRow 0 3 1 _ s.opn.dropLast.length (opV s.opn.dropLast)
 rw[w];have l:=c;rw[p]at l;have u:opV (j++[i])=opV j++[.int .i64 (i:Int)]:=by simp[opV]
 have v:(j++[i]).length=j.length+1:=by simp
 rw[u,v]at l;have o:=G0z l;exact A0q o (A8y o a (by decide)) _
theorem B1t (B:Nat) (l r f d:Value) (s:Ps) (a:List Nat) (i:Nat) (w:World) (h:PR B w l r f d s) (y:Nn f d) (o:s.opn=a++[i]) (g:E2x s) (c:s.items.length<=10000000) (x:a.length<=10000000):
 Calls Tryz.prog 138 #[.pointer (some ⟨B,0,none⟩)] w λe w'=>e=.returned (.tuple #[])/\PSt B (own B l r f d) w w' (A5d s):=by
 have b:=h.oo;rw[o]at b;have k:(a++[i]).length=a.length+1:=by simp
 rw[k]at b;obtain⟨n,m,rfl⟩:=A9r b (by omega);have v:=A2a b;have q:=hid ((PC.start h).drew.cut o);have t:=hid (λ(w:World) (p:PR B w l (.slice (some ⟨n,0,none⟩) a.length m) f d ⟨s.depth,s.came,s.st,s.items,s.opn.dropLast,s.word,s.tok,s.tx⟩)=>A7a B l (.slice (some ⟨n,0,none⟩) a.length m) f d ⟨s.depth,s.came,s.st,s.items,s.opn.dropLast,s.word,s.tok,s.tx⟩ w p y (λj hj=>g j (List.dropLast_subset _ hj)) c (by show s.opn.dropLast.length<=_;rw[o];simp;omega));have A:=A0a h.blk (show(A0f s l (.slice (some ⟨n,0,none⟩) (a.length+1) m) f d)[6]? =some (.slice (some ⟨n,0,none⟩) (a.length+1) m)from rfl);have z:=A0b (j:=6) h.blk;clear h b o k g c;generalize a.length=M at*;go_enter Tryz.func138,Tryz.ntmps138;go_wp2;go_region
 all_goals
  go_wp2_with fail
  refine Calls.mono (t.out _ q.pr) ?_;rintro e C ⟨rfl,p⟩;have u:=hid (q.trans p);clear p;go_wp2;go_end0;exact⟨rfl,u.out⟩
theorem Tryz.info3P:(Tryz.prog.info? 3).map (λi=>(i.zero,i.size,i.bytes))=some (some (.int .i64 0),1,8):=by kernel_rfl
def B5p (B came:Nat) (S:Nat->Prop) (w w':World):Prop:=∃cs,w'.heap[B]? =some (.cells cs 113 (0,0))/\cs.size=22/\cs[1]? =some (.int .i64 (came:Int))/\Fr S w w'
theorem PC.err {B:Nat} {S:Nat->Prop} {w0 W:World} {a c d b:Value} {s:Ps} (h:PC B S w0 a c d b W s):B5p B s.came S w0 W:=⟨_,h.pr.blk,rfl,rfl,h.fr⟩
def A3v (B came:Nat) (S:Nat->Prop) (w:World) (r:Except Nat Ps) (e:Ending) (w':World):Prop:=
 match r with
 |.ok s'=>e=.returned (.tuple #[])/\PSt B S w w' s'
 |.error n=>e=E0s n/\B5p B came S w w'
theorem B4n (B:Nat) (vi vo p o:Value) (s:Ps) (k st:Nat) (w:World) (h:PR B w vi vo p o s) (hq:Nn p o) (X:s.items.length<=10000000) (a0:s.opn.length<=10000000):
 Calls Tryz.prog 187 #[.pointer (some ⟨B,0,none⟩),.int .i64 (k:Int),.int .i64 (st:Int)] w (A3v B s.came (own B vi vo p o) w (A6b s k st)):=by
 have H:=hid (PC.start h);have I:=h.oi;have C:=h.oo;obtain⟨f,ni,g,rfl⟩:=A0h I;obtain⟨r,no,t,rfl⟩:=A0h C
 have N:ni=s.items.length:=by
  rcases I.2 with⟨h,h2⟩|⟨_,_,_,h,_⟩
  ·simp at h;omega
  ·simp at h;exact h.2.1
 have O:no=s.opn.length:=by
  rcases C.2 with⟨h,h2⟩|⟨_,_,_,h,_⟩
  ·simp at h;omega
  ·simp at h;exact h.2.1
 subst N;subst O;have x:=lt_of_block h.blk;have k0:=A0a h.blk (show(A0f s (.slice f s.items.length g) (.slice r s.opn.length t) p o)[0]? =some (.int .i64 (s.depth:Int))from rfl);have Y:=A0a h.blk (show(A0f s (.slice f s.items.length g) (.slice r s.opn.length t) p o)[5]? =some (.slice f s.items.length g)from rfl);have Z:=A0a h.blk (show(A0f s (.slice f s.items.length g) (.slice r s.opn.length t) p o)[6]? =some (.slice r s.opn.length t)from rfl);have f6:=A0b (j:=6) h.blk;have T:∀ob,(w.alloc ob).cell? ⟨B,5,none⟩=some (.slice f s.items.length g):=λob=>(World.cell?_of_block (w:=w) (Below.heap_alloc _ _ _ x)).trans Y
 have U:∀ob,(w.alloc ob).cell? ⟨B,6,none⟩=some (.slice r s.opn.length t):=λob=>(World.cell?_of_block (w:=w) (Below.heap_alloc _ _ _ x)).trans Z
 unfold A6b;by_cases F:s.opn.length=s.depth
 ·rw[if_pos F]
  have P:((s.opn.length:Int)==(s.depth:Int))=true:=beq_iff_eq.2 (by omega);have HK:=hid H.drew.err;clear h I C F T U;go_enter Tryz.func187,Tryz.ntmps187;go_wp2;go_region
  all_goals
   go_wp2;exact⟨rfl,rfl,HK.out⟩
 ·rw[if_neg F]
  have P:((s.opn.length:Int)==(s.depth:Int))=false:=bqF (by omega);obtain⟨i0,hi,Q,R,S⟩:=info_parts Tryz.info3P;obtain⟨j0,gi,K,L,M⟩:=info_parts Tryz.info29;have HD:=hid H.drew.drew;have OO:=hid (show w.drew.drew.ownsRow 0 3 1 (.slice r s.opn.length t) s.opn.length (opV s.opn)from C);clear h I C F;go_enter Tryz.func187,Tryz.ntmps187
  go_upto_region 0 with fail
  go_cut [15] (λb wc=>b=.bool false/\wc=w.drew)
  case first=>
   go_region
   all_goals
    go_wp2;go_meet;exact⟨rfl,rfl⟩
  case rest=>
   obtain⟨rfl,rfl⟩:=hcut;go_wp2
   go_region_law (refine A7q rfl _ _ 59 rfl 3 i0 (.int .i64 0) 1 8 Tryz.underlying59 hi Q R S rfl (by decide) (.slice r s.opn.length t) _ _ rfl (OO.alloc _) ⟨w.drew.drew.heap.size,0,none⟩ 1 1 [.int .i64 (s.items.length:Int)] rfl rfl (cell_one_new _ _ _) (by intro u z;simp at z;subst z;rfl) (by unfold maxLen;omega) (by omega) ?_;intro v' w1 a i v;obtain⟨E,G,d,rfl⟩:=A0h a;obtain⟨l,W⟩:=HD.growO s.items.length a i (by simpa using v);have q5:=A0a l (show(A0f s (.slice f s.items.length g) (.slice r s.opn.length t) p o)[5]? =some (.slice f s.items.length g)from rfl);have q6:=A0a l (show(A0f s (.slice f s.items.length g) (.slice r s.opn.length t) p o)[6]? =some (.slice r s.opn.length t)from rfl);have p6:=A0b (j:=6) l;have p5:=A0b (j:=5) l;have D:=hid W;clear a i v l W)
   all_goals
    generalize w1.setCell ⟨B,6,none⟩ (.slice E G d)=W2 at*;have A:=D.pr.oi;have r5:=A0a D.pr.blk (show(A0f ⟨s.depth,s.came,s.st,s.items,s.opn++[s.items.length],s.word,s.tok,s.tx⟩ (.slice f s.items.length g) (.slice E G d) p o)[5]? =some (.slice f s.items.length g)from rfl);have t5:=A0b (j:=5) D.pr.blk;clear q5 q6 p5 p6 k0 Y Z f6 T U
    go_wp2_with (at_builtin;refine A0g _ rfl _ _ 22 rfl 29 j0 (.agg #[.int .i64 0,.int .i64 0,.int .u64 0,.string ⟨#[]⟩]) 4 40 Tryz.underlying22 gi K L M rfl (by decide) _ _ _ rfl (A.alloc _) ⟨W2.heap.size,0,none⟩ 1 1 (A1f ⟨k,0,0,[]⟩) rfl rfl ?c1 ?c2 ?c3 ?c4 ?_)
    case c1=>first|exact A3p _ _ _ _ _ _|exactλj u hj=>hj
    case c2=>intro u z;simp[A1f]at z;rcases z with rfl|rfl|rfl|rfl<;>rfl
    case c3=>unfold maxLen;omega
    case c4=>omega
    intro v2 w2 c e n;obtain⟨a2,n2,V,rfl⟩:=A0h c;obtain⟨m,y⟩:=D.growI ⟨k,0,0,[]⟩ c e n;have u4:=A0a m (show(A0f ⟨s.depth,s.came,s.st,s.items,s.opn++[s.items.length],s.word,s.tok,s.tx⟩ (.slice f s.items.length g) (.slice E G d) p o)[4]? =some (.int .i64 (s.st:Int))from rfl);have u5:=A0a m (show(A0f ⟨s.depth,s.came,s.st,s.items,s.opn++[s.items.length],s.word,s.tok,s.tx⟩ (.slice f s.items.length g) (.slice E G d) p o)[5]? =some (.slice f s.items.length g)from rfl);have x4:=A0b (j:=4) m;have x5:=A0b (j:=5) m;have J:=hid (y.cell 4 (.int .i64 (st:Int)) ⟨s.depth,s.came,st,s.items++[⟨k,0,0,[]⟩],s.opn++[s.items.length],s.word,s.tok,s.tx⟩ rfl rfl rfl rfl rfl);clear c e n m y A r5 t5;go_wp2;go_end0;exact⟨rfl,_,_,_,_,J.out,hq.q _⟩
end Go.Proofs.YtmkkibaacclhnaaGreatDoor
