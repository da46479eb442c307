/-
  Part Pg.
-/
import Derived.Test.YtmkkibaacclhnaaGreatDoorPd
import Derived.Deep.DeepCutAuto
namespace Go.Proofs.YtmkkibaacclhnaaGreatDoor
open Go.RowKit
set_option maxRecDepth 100000
set_option maxHeartbeats 16000000
structure TrIn (cs:Array Value) (o:Nat) (v:Value) (t:Tr):Prop where
 c0:cs[o]? =some (.int .i64 (t.st:Int))
 c1:cs[o+1]? =some v
 c2:cs[o+2]? =some (.int .i64 (t.lack:Int))
 c3:cs[o+3]? =some (.int .u8 (t.lo:Int))
 c4:cs[o+4]? =some (.int .u8 (t.hi:Int))
 c5:cs[o+5]? =some (.int .i64 (t.dg:Int))
 c6:cs[o+6]? =some (.int .i32 (t.code:Int))
 c7:cs[o+7]? =some (.int .i32 (t.high:Int))
theorem TrIn.size {a:Array Value} {o:Nat} {v:Value} {t:Tr} (h:TrIn a o v t):o+7<a.size:=by
 rcases Nat.lt_or_ge (o+7) a.size with b|b
 ·exact b
 ·have:=h.c7
  rw[Array.getElem?_eq_none b]at this;cases this
theorem A7p {a:Array Value} {j:Nat} {v:Value} (h:j<a.size):(a.setIfInBounds j v)[j]? =some v:=by
 rw[Array.getElem?_setIfInBounds,if_pos rfl,if_pos h]
def A5e (o:Nat) (cs cs':Array Value):Prop:=cs'.size=cs.size/\∀j,j<o\/o+7<j->cs'[j]? =cs[j]?
theorem A5e.refl (o:Nat) (a:Array Value):A5e o a a:=⟨rfl,λ_ _=>rfl⟩
theorem A5e.set {o:Nat} {b a:Array Value} (h:A5e o b a) (i:Nat) (c:i<=7) (v:Value):A5e o b (a.setIfInBounds (o+i) v):=
 ⟨by rw[Array.size_setIfInBounds];exact h.1,λj hj=>by rw[A0d (by omega)];exact h.2 j hj⟩
def C2x (base:Nat) (w:World) (B o T:Nat) (cs:Array Value) (v:Value) (t:Tr):Prop:=
 w.heap[B]? =some (.cells cs T (0,0))/\TrIn cs o v t/\w.ownsRow base 5 1 v t.made.length (us t.made)
structure TrR (base B o T:Nat) (cs0:Array Value) (v0:Value) (w0:World) (cs:Array Value) (v:Value) (W:World) (t:Tr):Prop where
 is:C2x base W B o T cs v t
 ap:A5e o cs0 cs
 fr:Fr (λi=>i=B\/v0.ownBlock=some i) w0 W
 ow:∀g,v.ownBlock=some g->v0.ownBlock=some g\/w0.heap.size<=g
theorem TrR.start {base B o T:Nat} {a:Array Value} {v:Value} {w:World} {t:Tr} (h:C2x base w B o T a v t):TrR base B o T a v w a v w t:=⟨h,A5e.refl _ _,Fr.refl _ _,λ_ h=>.inl h⟩
theorem TrR.s0 {base B o T:Nat} {g i:Array Value} {j v:Value} {w0 W:World} {t:Tr} (k:T≠5) (h:TrR base B o T g j w0 i v W t) (x:Nat):TrR base B o T g j w0 (i.setIfInBounds (o) (.int .i64 (x:Int))) v (W.setCell ⟨B,o,none⟩ (.int .i64 (x:Int))) ⟨x,t.made,t.lack,t.lo,t.hi,t.dg,t.code,t.high⟩:=by
 obtain⟨⟨a,b,c⟩,d,e,f⟩:=h;have l:=b.size;refine⟨⟨heap_setCell_same W B (o) i T _ a,⟨A7p (by omega),by rw[A0d (by omega)];exact b.c1,by rw[A0d (by omega)];exact b.c2,by rw[A0d (by omega)];exact b.c3,by rw[A0d (by omega)];exact b.c4,by rw[A0d (by omega)];exact b.c5,by rw[A0d (by omega)];exact b.c6,by rw[A0d (by omega)];exact b.c7⟩,ownsRow_setCell_other c (a:=⟨B,o,none⟩) (A2i c a k) _⟩,d.set 0 (by omega) _,e.setCell (.inl (.inl rfl)) _,f⟩
theorem TrR.s2 {base B o T:Nat} {g i:Array Value} {j v:Value} {w0 W:World} {t:Tr} (k:T≠5) (h:TrR base B o T g j w0 i v W t) (x:Nat):TrR base B o T g j w0 (i.setIfInBounds (o+2) (.int .i64 (x:Int))) v (W.setCell ⟨B,o+2,none⟩ (.int .i64 (x:Int))) ⟨t.st,t.made,x,t.lo,t.hi,t.dg,t.code,t.high⟩:=by
 obtain⟨⟨a,b,c⟩,d,e,f⟩:=h;have l:=b.size;refine⟨⟨heap_setCell_same W B (o+2) i T _ a,⟨by rw[A0d (by omega)];exact b.c0,by rw[A0d (by omega)];exact b.c1,A7p (by omega),by rw[A0d (by omega)];exact b.c3,by rw[A0d (by omega)];exact b.c4,by rw[A0d (by omega)];exact b.c5,by rw[A0d (by omega)];exact b.c6,by rw[A0d (by omega)];exact b.c7⟩,ownsRow_setCell_other c (a:=⟨B,o+2,none⟩) (A2i c a k) _⟩,d.set 2 (by omega) _,e.setCell (.inl (.inl rfl)) _,f⟩
theorem TrR.s3 {base B o T:Nat} {g i:Array Value} {j v:Value} {w0 W:World} {t:Tr} (k:T≠5) (h:TrR base B o T g j w0 i v W t) (x:Nat):TrR base B o T g j w0 (i.setIfInBounds (o+3) (.int .u8 (x:Int))) v (W.setCell ⟨B,o+3,none⟩ (.int .u8 (x:Int))) ⟨t.st,t.made,t.lack,x,t.hi,t.dg,t.code,t.high⟩:=by
 obtain⟨⟨a,b,c⟩,d,e,f⟩:=h;have l:=b.size;refine⟨⟨heap_setCell_same W B (o+3) i T _ a,⟨by rw[A0d (by omega)];exact b.c0,by rw[A0d (by omega)];exact b.c1,by rw[A0d (by omega)];exact b.c2,A7p (by omega),by rw[A0d (by omega)];exact b.c4,by rw[A0d (by omega)];exact b.c5,by rw[A0d (by omega)];exact b.c6,by rw[A0d (by omega)];exact b.c7⟩,ownsRow_setCell_other c (a:=⟨B,o+3,none⟩) (A2i c a k) _⟩,d.set 3 (by omega) _,e.setCell (.inl (.inl rfl)) _,f⟩
theorem TrR.s4 {base B o T:Nat} {g i:Array Value} {j v:Value} {w0 W:World} {t:Tr} (k:T≠5) (h:TrR base B o T g j w0 i v W t) (x:Nat):TrR base B o T g j w0 (i.setIfInBounds (o+4) (.int .u8 (x:Int))) v (W.setCell ⟨B,o+4,none⟩ (.int .u8 (x:Int))) ⟨t.st,t.made,t.lack,t.lo,x,t.dg,t.code,t.high⟩:=by
 obtain⟨⟨a,b,c⟩,d,e,f⟩:=h;have l:=b.size;refine⟨⟨heap_setCell_same W B (o+4) i T _ a,⟨by rw[A0d (by omega)];exact b.c0,by rw[A0d (by omega)];exact b.c1,by rw[A0d (by omega)];exact b.c2,by rw[A0d (by omega)];exact b.c3,A7p (by omega),by rw[A0d (by omega)];exact b.c5,by rw[A0d (by omega)];exact b.c6,by rw[A0d (by omega)];exact b.c7⟩,ownsRow_setCell_other c (a:=⟨B,o+4,none⟩) (A2i c a k) _⟩,d.set 4 (by omega) _,e.setCell (.inl (.inl rfl)) _,f⟩
theorem TrR.s5 {base B o T:Nat} {g i:Array Value} {j v:Value} {w0 W:World} {t:Tr} (k:T≠5) (h:TrR base B o T g j w0 i v W t) (x:Nat):TrR base B o T g j w0 (i.setIfInBounds (o+5) (.int .i64 (x:Int))) v (W.setCell ⟨B,o+5,none⟩ (.int .i64 (x:Int))) ⟨t.st,t.made,t.lack,t.lo,t.hi,x,t.code,t.high⟩:=by
 obtain⟨⟨a,b,c⟩,d,e,f⟩:=h;have l:=b.size;refine⟨⟨heap_setCell_same W B (o+5) i T _ a,⟨by rw[A0d (by omega)];exact b.c0,by rw[A0d (by omega)];exact b.c1,by rw[A0d (by omega)];exact b.c2,by rw[A0d (by omega)];exact b.c3,by rw[A0d (by omega)];exact b.c4,A7p (by omega),by rw[A0d (by omega)];exact b.c6,by rw[A0d (by omega)];exact b.c7⟩,ownsRow_setCell_other c (a:=⟨B,o+5,none⟩) (A2i c a k) _⟩,d.set 5 (by omega) _,e.setCell (.inl (.inl rfl)) _,f⟩
theorem TrR.s6 {base B o T:Nat} {g i:Array Value} {j v:Value} {w0 W:World} {t:Tr} (k:T≠5) (h:TrR base B o T g j w0 i v W t) (x:Nat):TrR base B o T g j w0 (i.setIfInBounds (o+6) (.int .i32 (x:Int))) v (W.setCell ⟨B,o+6,none⟩ (.int .i32 (x:Int))) ⟨t.st,t.made,t.lack,t.lo,t.hi,t.dg,x,t.high⟩:=by
 obtain⟨⟨a,b,c⟩,d,e,f⟩:=h;have l:=b.size;refine⟨⟨heap_setCell_same W B (o+6) i T _ a,⟨by rw[A0d (by omega)];exact b.c0,by rw[A0d (by omega)];exact b.c1,by rw[A0d (by omega)];exact b.c2,by rw[A0d (by omega)];exact b.c3,by rw[A0d (by omega)];exact b.c4,by rw[A0d (by omega)];exact b.c5,A7p (by omega),by rw[A0d (by omega)];exact b.c7⟩,ownsRow_setCell_other c (a:=⟨B,o+6,none⟩) (A2i c a k) _⟩,d.set 6 (by omega) _,e.setCell (.inl (.inl rfl)) _,f⟩
theorem TrR.s7 {base B o T:Nat} {g i:Array Value} {j v:Value} {w0 W:World} {t:Tr} (k:T≠5) (h:TrR base B o T g j w0 i v W t) (x:Nat):TrR base B o T g j w0 (i.setIfInBounds (o+7) (.int .i32 (x:Int))) v (W.setCell ⟨B,o+7,none⟩ (.int .i32 (x:Int))) ⟨t.st,t.made,t.lack,t.lo,t.hi,t.dg,t.code,x⟩:=by
 obtain⟨⟨a,b,c⟩,d,e,f⟩:=h;have l:=b.size;refine⟨⟨heap_setCell_same W B (o+7) i T _ a,⟨by rw[A0d (by omega)];exact b.c0,by rw[A0d (by omega)];exact b.c1,by rw[A0d (by omega)];exact b.c2,by rw[A0d (by omega)];exact b.c3,by rw[A0d (by omega)];exact b.c4,by rw[A0d (by omega)];exact b.c5,by rw[A0d (by omega)];exact b.c6,A7p (by omega)⟩,ownsRow_setCell_other c (a:=⟨B,o+7,none⟩) (A2i c a k) _⟩,d.set 7 (by omega) _,e.setCell (.inl (.inl rfl)) _,f⟩
theorem TrR.grow {base B o T:Nat} {p n:Array Value} {C v l:Value} {w0 W m:World} {t:Tr} {x:Obj} {k:Nat} {xs:List Value} {e:LU8} (y:T≠5) (h:TrR base B o T p C w0 n v W t)
 (j:m.ownsRow base 5 1 l (t.made.length+k) (us t.made++xs)) (z:(W.alloc x).grownBy m v.ownBlock) (F:∀g,l.ownBlock=some g->v.ownBlock=some g\/W.heap.size+1<=g) (G:us e=xs) (w:e.length=k):
 m.heap[B]? =some (.cells n T (0,0))/\TrR base B o T p C w0 (n.setIfInBounds (o+1) l) l (m.setCell ⟨B,o+1,none⟩ l) ⟨t.st,t.made++e,t.lack,t.lo,t.hi,t.dg,t.code,t.high⟩:=by
 obtain⟨⟨a,b,c⟩,d,f,A⟩:=h;subst G;subst w;have hro:=A2i c a y;have r:=lt_of_block a
 have u:m.heap[B]? =some (.cells n T (0,0)):=by
  rw[z.block B (by simp;omega) (λe=>hro e.symm),Below.heap_alloc _ _ _ r];exact a
 have H:=b.size;have q:=A2i j u y;have D:=f.size;refine⟨u,⟨heap_setCell_same m B (o+1) n T l u,⟨by rw[A0d (by omega)];exact b.c0,A7p (by omega),by rw[A0d (by omega)];exact b.c2,by rw[A0d (by omega)];exact b.c3,by rw[A0d (by omega)];exact b.c4,by rw[A0d (by omega)];exact b.c5,by rw[A0d (by omega)];exact b.c6,by rw[A0d (by omega)];exact b.c7⟩,?_⟩,d.set 1 (by omega) _,?_,?_⟩
 ·have:=ownsRow_setCell_other j (a:=⟨B,o+1,none⟩) q l
  rw[B9n,List.length_append];exact this
 ·refine((f.alloc x).trans' (k:=(Fr.refl (λi=>v.ownBlock=some i) (W.alloc x)).grown z (λk w=>.inl w)) ?_).setCell (.inl (.inl rfl)) _
  intro i E;rcases A i E with h|h
  ·exact .inl (.inr h)
  ·exact .inr h
 ·intro g s
  rcases F g s with h|h
  ·exact A g h
  ·exact .inr (by omega)
def A7k (base B o T:Nat) (cs:Array Value) (v:Value) (w w':World) (t':Tr):Prop:=∃cs' v',TrR base B o T cs v w cs' v' w' t'
def B7p (B o T:Nat) (cs:Array Value) (v:Value) (w w':World):Prop:=∃cs',w'.heap[B]? =some (.cells cs' T (0,0))/\A5e o cs cs'/\Fr (λi=>i=B\/v.ownBlock=some i) w w'
def A1f (x:It):List Value:=[.int .i64 (x.k:Int),.int .i64 (x.n:Int),.int .u64 (x.b:Int),.string (ofL x.s)]
def B3e (l:List It):List Value:=l.flatMap A1f
def opV (l:List Nat):List Value:=l.map (λi:Nat=>Value.int .i64 (i:Int))
theorem B0r (a b:List It):B3e (a++b)=B3e a++B3e b:=by simp[B3e]
theorem D1u (l:List It):(B3e l).length=l.length*4:=by
 induction l with
 |nil=>rfl
 |cons x l ih=>
  have:B3e (x::l)=A1f x++B3e l:=rfl;rw[this,List.length_append,ih,List.length_cons];simp[A1f];omega
theorem D4j (l:List It) (i j:Nat) (x:It) (a:l[i]? =some x) (c:j<4):(B3e l)[i*4+j]? =(A1f x)[j]? :=by
 induction l generalizing i with
 |nil=>simp at a
 |cons y l ih=>
  have e:B3e (y::l)=A1f y++B3e l:=rfl;have b:(A1f y).length=4:=rfl;cases i with
  |zero=>
   simp at a;subst a;rw[e,List.getElem?_append_left (by rw[b];omega)];simp
  |succ i=>
   rw[e,List.getElem?_append_right (by rw[b];omega),b,show(i+1)*4+j-4=i*4+j by omega];exact ih i (by simpa using a)
theorem D1v (l:List It) (i:Nat) (x:It) (a:l[i]? =some x):B3e (l.modify i (λx=>⟨x.k,x.n+1,x.b,x.s⟩))=(B3e l).set (i*4+1) (.int .i64 ((x.n+1:Nat):Int)):=by
 induction l generalizing i with
 |nil=>simp at a
 |cons y l ih=>
  have e:∀z r,B3e (z::r)=A1f z++B3e r:=λ_ _=>rfl
  cases i with
  |zero=>
   simp at a;subst a;rw[List.modify_zero_cons,e,e];rfl
  |succ i=>
   rw[List.modify_succ_cons,e,e,ih i (by simpa using a),show(i+1)*4+1=(A1f y).length+(i*4+1) by show _=4+_;omega,List.set_append,if_neg (by omega),Nat.add_sub_cancel_left]
theorem A8y {w:World} {base e size n:Nat} {v:Value} {xs:List Value} {B T:Nat} {a:Array Value} (h:w.ownsRow base e size v n xs) (b:w.heap[B]? =some (.cells a T (0,0))) (f:T≠e):v.ownBlock≠some B:=by
 intro c;rcases h.2 with⟨rfl,_⟩|⟨g,cap,d,rfl,_,i,_⟩
 ·simp[Value.ownBlock]at c
 ·simp[Value.ownBlock]at c
  subst c;rw[i]at b;simp at b;exact f b.2.symm
theorem A7e {S:Nat->Prop} {w w':World} {base e size n:Nat} {v:Value} {xs:List Value} (h:w.ownsRow base e size v n xs) (j:Fr S w w') (k:∀i,v.ownBlock=some i->¬S i):w'.ownsRow base e size v n xs:=by
 refine⟨h.1,?_⟩;rcases h.2 with c|⟨g,cap,a,b,d,l,f⟩
 ·exact .inl c
 ·exact .inr ⟨g,cap,a,b,d,j.heap l (k g (by rw[b];rfl)),f⟩
theorem A0q {w:World} {base e size n:Nat} {v:Value} {xs:List Value} (h:w.ownsRow base e size v n xs) {a:Addr} (j:v.ownBlock≠some a.block) (u:Value):(w.setCell a u).ownsRow base e size v n xs:=by
 refine⟨h.1,?_⟩;rcases h.2 with d|⟨g,cap,b,c,f,k,i⟩
 ·exact .inl d
 ·refine .inr ⟨g,cap,b,c,f,?_,i⟩
  rw[Below.heap_setCell w a u g (by intro e;apply j;rw[c,<-e];rfl)];exact k
theorem B1s {w:World} {e size n g cap:Nat} {xs:List Value} (h:w.ownsRow 0 e size (.slice (some ⟨g,0,none⟩) n cap) n xs) (j:Nat) (u:Value):(w.setCell ⟨g,j,none⟩ u).ownsRow 0 e size (.slice (some ⟨g,0,none⟩) n cap) n (xs.set j u):=by
 refine⟨by rw[List.length_set];exact h.1,?_⟩;rcases h.2 with⟨d,_⟩|⟨p,b,a,c,f,o,i,k,l,m⟩
 ·cases d
 ·simp at c
  obtain⟨rfl,rfl⟩:=c;refine .inr ⟨g,cap,a.setIfInBounds j u,rfl,f,heap_setCell_same w g j a e u o,i,k,by simpa using l,?_⟩;rw[<-m,Array.toList_setIfInBounds,List.take_set]
theorem G0z {w:World} {e n g cap:Nat} {xs:List Value} {x:Value} (h:w.ownsRow 0 e 1 (.slice (some ⟨g,0,none⟩) (n+1) cap) (n+1) (xs++[x])):w.ownsRow 0 e 1 (.slice (some ⟨g,0,none⟩) n cap) n xs:=by
 have c:=h.1;simp at c;refine⟨by omega,?_⟩;rcases h.2 with⟨f,_⟩|⟨o,b,a,d,i,m,p,j,k,l⟩
 ·cases f
 ·simp at d
  obtain⟨rfl,rfl⟩:=d;refine .inr ⟨g,cap,a,rfl,i,m,by omega,j,k,?_⟩;have:=congrArg (List.take n) l;rw[List.take_take]at this;simpa[c]using this
theorem A2c {w:World} {e size n g cap:Nat} {xs:List Value} (h:w.ownsRow 0 e size (.slice (some ⟨g,0,none⟩) n cap) n xs) (j:Nat) (u:Value) (a:xs[j]? =some u):w.cell? ⟨g,j,none⟩=some u:=by
 have:=h.cells (g:=g) rfl j u a;cases j<;>simpa[Addr.add]using this
theorem C5k {w:World} {e size n g cap:Nat} {xs:List Value} (h:w.ownsRow 0 e size (.slice (some ⟨g,0,none⟩) n cap) n xs) (j:Nat):w.frozen? ⟨g,j,none⟩=false:=by
 rcases h.2 with⟨d,_⟩|⟨i,a,c,b,k,f,l⟩
 ·cases d
 ·simp at b
  obtain⟨rfl,rfl⟩:=b;simp[World.frozen?,f]
def A0f (s:Ps) (vi vo vt vm:Value):Array Value:=
 #[.int .i64 (s.depth:Int),.int .i64 (s.came:Int),.int .i64 0,.bool false,.int .i64 (s.st:Int),vi,vo,.string (ofL s.word),
  .int .i64 (s.tok.st:Int),.bool s.tok.neg,vt,.int .i64 s.tok.P,.int .i64 (s.tok.pw:Int),.bool s.tok.pn,
  .int .i64 (s.tx.st:Int),vm,.int .i64 (s.tx.lack:Int),.int .u8 (s.tx.lo:Int),.int .u8 (s.tx.hi:Int),.int .i64 (s.tx.dg:Int),.int .i32 (s.tx.code:Int),.int .i32 (s.tx.high:Int)]
structure PR (B:Nat) (w:World) (vi vo vt vm:Value) (s:Ps):Prop where
 blk:w.heap[B]? =some (.cells (A0f s vi vo vt vm) 113 (0,0))
 oi:w.ownsRow 0 29 4 vi s.items.length (B3e s.items)
 oo:w.ownsRow 0 3 1 vo s.opn.length (opV s.opn)
 ot:w.ownsRow 0 5 1 vt s.tok.D.length (bs s.tok.D)
 om:w.ownsRow 0 5 1 vm s.tx.made.length (us s.tx.made)
 one:vt.ownBlock=none\/vm.ownBlock=none
def own (B:Nat) (vi vo vt vm:Value) (i:Nat):Prop:=i=B\/vi.ownBlock=some i\/vo.ownBlock=some i\/vt.ownBlock=some i\/vm.ownBlock=some i
structure PC (B:Nat) (S:Nat->Prop) (w0:World) (vi vo vt vm:Value) (W:World) (s:Ps):Prop where
 pr:PR B W vi vo vt vm s
 fr:Fr S w0 W
 ow:∀i,own B vi vo vt vm i->S i\/w0.heap.size<=i
theorem PC.start {B:Nat} {a c d b:Value} {w:World} {s:Ps} (h:PR B w a c d b s):PC B (own B a c d b) w a c d b w s:=⟨h,Fr.refl _ _,λ_ h=>.inl h⟩
def Nn (vt vm:Value):Prop:=vt.ownBlock=none/\vm.ownBlock=none
def Qv (s:Ps) (vt vm:Value):Prop:=(s.st≠7->vt.ownBlock=none)/\(s.st≠8->s.st≠9->vm.ownBlock=none)
theorem Nn.q {b a:Value} (h:Nn b a) (s:Ps):Qv s b a:=⟨λ_=>h.1,λ_ _=>h.2⟩
def PSt (B:Nat) (S:Nat->Prop) (w w':World) (s':Ps):Prop:=∃vi vo vt vm,PC B S w vi vo vt vm w' s'/\Qv s' vt vm
theorem PC.drew {B:Nat} {S:Nat->Prop} {w0 W:World} {a c d b:Value} {s:Ps} (h:PC B S w0 a c d b W s):PC B S w0 a c d b W.drew s:=⟨⟨h.pr.blk,h.pr.oi,h.pr.oo,h.pr.ot,h.pr.om,h.pr.one⟩,h.fr.drew,h.ow⟩
theorem PC.cell {B:Nat} {S:Nat->Prop} {w0 W:World} {l n o m:Value} {s:Ps} (h:PC B S w0 l n o m W s) (j:Nat) (u:Value) (i:Ps) (v:(A0f s l n o m).setIfInBounds j u=A0f i l n o m)
 (p:i.items=s.items) (q:i.opn=s.opn) (r:i.tok.D=s.tok.D) (t:i.tx.made=s.tx.made):PC B S w0 l n o m (W.setCell ⟨B,j,none⟩ u) i:=by
 obtain⟨⟨a,b,c,d,e,f⟩,g,k⟩:=h;refine⟨⟨?_,?_,?_,?_,?_,f⟩,g.setCell (k B (.inl rfl)) _,k⟩
 ·rw[<-v];exact heap_setCell_same W B j _ 113 u a
 ·rw[p];exact A0q b (A8y b a (by decide)) u
 ·rw[q];exact A0q c (A8y c a (by decide)) u
 ·rw[r];exact A0q d (A8y d a (by decide)) u
 ·rw[t];exact A0q e (A8y e a (by decide)) u
theorem C8e (c:UInt8):us [c]=[.int .u8 ((c.toNat:Nat):Int)]:=rfl
theorem F0f (B o T:Nat) (x:Array Value) (v:Value) (t:Tr) (k:Nat) (c:UInt8) (w:World) (N:T≠5) (h:C2x 0 w B o T x v t) (q:TrOk t k) (hk:k<=10000000) (y:t.st=1):
 Calls Tryz.prog 182 #[.pointer (some ⟨B,o,none⟩),.int .u8 (c.toNat:Int)] w λe w'=>match E9k t c with
  |.ok t'=>e=.returned (.tuple #[])/\A7k 0 B o T x v w w' t'
  |.error n=>e=E0s n/\w'=w:=by
 obtain⟨p,m,s⟩:=h;have R:=q.lack1 y;have S:=q.lack;have V:=q.len;have A:=A0a p m.c1;have C:=A0a p m.c3;have D:=A0a p m.c4;have H:=hid (show C2x 0 w B o T x v t from⟨p,m,s⟩);have i:=hid N;obtain⟨a,cap,rfl⟩:=A3y s;unfold E9k;by_cases d:c.toNat<t.lo\/t.hi<c.toNat
 ·rw[if_pos d]
  simp only;clear p m s y;rcases d with O|O
  ·go_enter Tryz.func182,Tryz.ntmps182
   go_wp2;exact⟨rfl,rfl,rfl⟩
  ·by_cases z:c.toNat<t.lo
   ·go_enter Tryz.func182,Tryz.ntmps182
    go_wp2;exact⟨rfl,rfl,rfl⟩
   ·go_enter Tryz.func182,Tryz.ntmps182
    go_wp2;exact⟨rfl,rfl,rfl⟩
 ·rw[if_neg d]
  simp only;have P:¬c.toNat<t.lo:=λh=>d (.inl h)
  have z:¬t.hi<c.toNat:=λh=>d (.inr h)
  clear d y;have E:=A0b (j:=o+1) p;have r:=hid m;clear p m;obtain⟨X,Q,F,G,I⟩:=info_parts Tryz.info5;go_enter Tryz.func182,Tryz.ntmps182
  go_wp2_with (first
   |(at_builtin;refine A0g _ rfl _ _ 65 rfl 5 X (.int .u8 0) 1 1 Tryz.underlying65 Q F G I rfl (by decide) _ _ _ rfl (s.alloc _) ⟨w.heap.size,0,none⟩ 1 1 [.int .u8 (c.toNat:Int)] rfl rfl ?c1 ?c2 ?c3 ?c4 ?_)
   |go_in)
  case c1=>exact cell_one_new _ _ _
  case c2=>intro u M;simp at M;subst M;rfl
  case c3=>unfold maxLen;omega
  case c4=>omega
  intro v' w1 f g l;obtain⟨g',K,rfl⟩:=A4g f;obtain⟨b,L⟩:=(TrR.start H.out).grow i.out f g l (C8e c) rfl;have k1:=A0a b r.c1;have k2:=A0a b r.c2;have k3:=A0a b r.c3;have k4:=A0a b r.c4;have k0:=A0a b r.c0;have Z:=A0b (j:=o) b;have f1:=A0b (j:=o+1) b;have f2:=A0b (j:=o+2) b;have f3:=A0b (j:=o+3) b;have f4:=A0b (j:=o+4) b;have J:=hid L;clear f g l b L s A C D E;by_cases W:t.lack-1=0
  ·have Y:=hid (show t.lack=1 by omega)
   have U:(t.lack:Int)=1:=by omega
   go_wp2;go_end0;have:=((((J.s3 i.out 128).s4 i.out 191).s2 i.out 0).s0 i.out 0);exact⟨rfl,_,_,this⟩
  ·go_wp2
   go_end0;have:=(((J.s3 i.out 128).s4 i.out 191).s2 i.out (t.lack-1));rw[show((t.lack-1:Nat):Int)=(t.lack:Int)-1 by omega]at this
   try rw[if_neg W]
   exact⟨rfl,_,_,this⟩
theorem B6y (B o T:Nat) (r:Array Value) (v:Value) (t:Tr) (c:UInt8) (n:Int) (w:World) (N:T≠5) (h:C2x 0 w B o T r v t) (Y:t.made.length<=40000000) (O:(c.toNat:Int)=n) (s lb x:Nat) (W:(194<=n/\n<=223/\s=1/\lb=128/\x=191)\/(n=224/\s=2/\lb=160/\x=191)\/(225<=n/\n<=236/\s=2/\lb=128/\x=191)\/(n=237/\s=2/\lb=128/\x=159)\/(238<=n/\n<=239/\s=2/\lb=128/\x=191)\/(n=240/\s=3/\lb=144/\x=191)\/(241<=n/\n<=243/\s=3/\lb=128/\x=191)\/(n=244/\s=3/\lb=128/\x=143)):
 Calls Tryz.prog 214 #[.pointer (some ⟨B,o,none⟩),.int .u8 n] w λe w'=>e=.returned (.tuple #[])/\A7k 0 B o T r v w w' ⟨1,t.made++[c],s,lb,x,t.dg,t.code,t.high⟩:=by
 have H:=hid h;have g:=hid N;have E:=hid O;obtain⟨k,C,D⟩:=h;obtain⟨a,cap,rfl⟩:=A3y D;have k0:=A0a k C.c0;have K:=A0a k C.c1;have k2:=A0a k C.c2;have k3:=A0a k C.c3;have k4:=A0a k C.c4;have R:=A0b (j:=o) k;have F:=A0b (j:=o+1) k;have S:=A0b (j:=o+2) k;have U:=A0b (j:=o+3) k;have V:=A0b (j:=o+4) k;clear k C D O N;obtain⟨Z,X,G,I,J⟩:=info_parts Tryz.info5;rcases W with⟨z,A,rfl,rfl,rfl⟩|⟨rfl,rfl,rfl,rfl⟩|⟨z,A,rfl,rfl,rfl⟩|⟨rfl,rfl,rfl,rfl⟩|⟨z,A,rfl,rfl,rfl⟩|⟨rfl,rfl,rfl,rfl⟩|⟨z,A,rfl,rfl,rfl⟩|⟨rfl,rfl,rfl,rfl⟩
 all_goals
  go_enter Tryz.func214,Tryz.ntmps214
  go_upto_region 17 with fail
 focus
  obtain⟨b,f,d,i⟩:∃b f,((w.setCell ⟨B,o+2,none⟩ (.int .i64 1)).setCell ⟨B,o+3,none⟩ (.int .u8 128)).setCell ⟨B,o+4,none⟩ (.int .u8 191)=f/\Hid (TrR 0 B o T r (.slice a t.made.length cap) w b (.slice a t.made.length cap) f ⟨t.st,t.made,1,128,191,t.dg,t.code,t.high⟩):=⟨_,_,rfl,hid ((((TrR.start H.out).s2 g.out 1).s3 g.out 128).s4 g.out 191)⟩;rw[d];clear d;clear z A;generalize n=m at*
 rotate_left
 focus
  obtain⟨b,f,d,i⟩:∃b f,(((w.setCell ⟨B,o+2,none⟩ (.int .i64 2)).setCell ⟨B,o+3,none⟩ (.int .u8 128)).setCell ⟨B,o+4,none⟩ (.int .u8 191)).setCell ⟨B,o+3,none⟩ (.int .u8 160)=f/\Hid (TrR 0 B o T r (.slice a t.made.length cap) w b (.slice a t.made.length cap) f ⟨t.st,t.made,2,160,191,t.dg,t.code,t.high⟩):=⟨_,_,rfl,hid (((((TrR.start H.out).s2 g.out 2).s3 g.out 128).s4 g.out 191).s3 g.out 160)⟩;rw[d];clear d;generalize (224:Int)=m at E ⊢
 rotate_left
 focus
  obtain⟨b,f,d,i⟩:∃b f,((w.setCell ⟨B,o+2,none⟩ (.int .i64 2)).setCell ⟨B,o+3,none⟩ (.int .u8 128)).setCell ⟨B,o+4,none⟩ (.int .u8 191)=f/\Hid (TrR 0 B o T r (.slice a t.made.length cap) w b (.slice a t.made.length cap) f ⟨t.st,t.made,2,128,191,t.dg,t.code,t.high⟩):=⟨_,_,rfl,hid ((((TrR.start H.out).s2 g.out 2).s3 g.out 128).s4 g.out 191)⟩;rw[d];clear d;clear z A;generalize n=m at*
 rotate_left
 focus
  obtain⟨b,f,d,i⟩:∃b f,(((w.setCell ⟨B,o+2,none⟩ (.int .i64 2)).setCell ⟨B,o+3,none⟩ (.int .u8 128)).setCell ⟨B,o+4,none⟩ (.int .u8 191)).setCell ⟨B,o+4,none⟩ (.int .u8 159)=f/\Hid (TrR 0 B o T r (.slice a t.made.length cap) w b (.slice a t.made.length cap) f ⟨t.st,t.made,2,128,159,t.dg,t.code,t.high⟩):=⟨_,_,rfl,hid (((((TrR.start H.out).s2 g.out 2).s3 g.out 128).s4 g.out 191).s4 g.out 159)⟩;rw[d];clear d;generalize (237:Int)=m at E ⊢
 rotate_left
 focus
  obtain⟨b,f,d,i⟩:∃b f,((w.setCell ⟨B,o+2,none⟩ (.int .i64 2)).setCell ⟨B,o+3,none⟩ (.int .u8 128)).setCell ⟨B,o+4,none⟩ (.int .u8 191)=f/\Hid (TrR 0 B o T r (.slice a t.made.length cap) w b (.slice a t.made.length cap) f ⟨t.st,t.made,2,128,191,t.dg,t.code,t.high⟩):=⟨_,_,rfl,hid ((((TrR.start H.out).s2 g.out 2).s3 g.out 128).s4 g.out 191)⟩;rw[d];clear d;clear z A;generalize n=m at*
 rotate_left
 focus
  obtain⟨b,f,d,i⟩:∃b f,(((w.setCell ⟨B,o+2,none⟩ (.int .i64 3)).setCell ⟨B,o+3,none⟩ (.int .u8 128)).setCell ⟨B,o+4,none⟩ (.int .u8 191)).setCell ⟨B,o+3,none⟩ (.int .u8 144)=f/\Hid (TrR 0 B o T r (.slice a t.made.length cap) w b (.slice a t.made.length cap) f ⟨t.st,t.made,3,144,191,t.dg,t.code,t.high⟩):=⟨_,_,rfl,hid (((((TrR.start H.out).s2 g.out 3).s3 g.out 128).s4 g.out 191).s3 g.out 144)⟩;rw[d];clear d;generalize (240:Int)=m at E ⊢
 rotate_left
 focus
  obtain⟨b,f,d,i⟩:∃b f,((w.setCell ⟨B,o+2,none⟩ (.int .i64 3)).setCell ⟨B,o+3,none⟩ (.int .u8 128)).setCell ⟨B,o+4,none⟩ (.int .u8 191)=f/\Hid (TrR 0 B o T r (.slice a t.made.length cap) w b (.slice a t.made.length cap) f ⟨t.st,t.made,3,128,191,t.dg,t.code,t.high⟩):=⟨_,_,rfl,hid ((((TrR.start H.out).s2 g.out 3).s3 g.out 128).s4 g.out 191)⟩;rw[d];clear d;clear z A;generalize n=m at*
 rotate_left
 focus
  obtain⟨b,f,d,i⟩:∃b f,(((w.setCell ⟨B,o+2,none⟩ (.int .i64 3)).setCell ⟨B,o+3,none⟩ (.int .u8 128)).setCell ⟨B,o+4,none⟩ (.int .u8 191)).setCell ⟨B,o+4,none⟩ (.int .u8 143)=f/\Hid (TrR 0 B o T r (.slice a t.made.length cap) w b (.slice a t.made.length cap) f ⟨t.st,t.made,3,128,143,t.dg,t.code,t.high⟩):=⟨_,_,rfl,hid (((((TrR.start H.out).s2 g.out 3).s3 g.out 128).s4 g.out 191).s4 g.out 143)⟩;rw[d];clear d;generalize (244:Int)=m at E ⊢
 rotate_left
 all_goals
  clear k0 K k2 k3 k4 R F S U V;have k:=i.is.1;have D:=i.is.2.2;have K:=A0a k i.is.2.1.c1;have F:=A0b (j:=o+1) k;clear k;simp only at D
  go_wp2_with (at_builtin;refine A0g _ rfl _ _ 65 rfl 5 Z (.int .u8 0) 1 1 Tryz.underlying65 X G I J rfl (by decide) _ _ _ rfl (D.alloc _) ⟨f.heap.size,0,none⟩ 1 1 [.int .u8 m] rfl rfl ?c1 ?c2 ?c3 ?c4 ?_)
  case c1=>exact cell_one_new _ _ _
  case c2=>intro u P;simp at P;subst P;rfl
  case c3=>unfold maxLen;omega
  case c4=>omega
  intro v' w1 l p y;obtain⟨g',L,rfl⟩:=A4g l;obtain⟨q,M⟩:=i.grow g.out l p y (show us [c]=[.int .u8 m] by rw[C8e,E.out]) rfl;have q0:=A0a q i.is.2.1.c0;have q1:=A0a q i.is.2.1.c1;have p0:=A0b (j:=o) q;have p1:=A0b (j:=o+1) q;have Q:=hid M;clear l p y q M D K F;go_wp2;go_end0;have:=Q.s0 g.out 1;exact⟨rfl,_,_,this⟩
theorem G1a (B o:Nat) (n:Int) (w:World) (h:n<194\/244<n):Calls Tryz.prog 214 #[.pointer (some ⟨B,o,none⟩),.int .u8 n] w λe w'=>e=E0s 2/\w'=w:=by
 rcases h with h|h
 all_goals
  go_enter Tryz.func214,Tryz.ntmps214;go_wp2;exact⟨rfl,rfl,rfl⟩
theorem E2s (B o T:Nat) (b:Array Value) (v:Value) (t:Tr) (k:Nat) (c:UInt8) (w:World) (d:T≠5) (h:C2x 0 w B o T b v t) (g:TrOk t k) (x:k<=10000000):
 Calls Tryz.prog 214 #[.pointer (some ⟨B,o,none⟩),.int .u8 (c.toNat:Int)] w λe w'=>match C4s t c with
  |.ok t'=>e=.returned (.tuple #[])/\A7k 0 B o T b v w w' t'
  |.error n=>e=E0s n/\w'=w:=by
 have a:t.made.length<=40000000:=by have:=g.len;omega
 unfold C4s;by_cases f:194<=c.toNat/\c.toNat<=244
 ·rw[if_pos f]
  simp only;obtain⟨s,u⟩:=f;by_cases i:c.toNat<=223
  ·rw[if_pos i,if_neg (by omega),if_neg (by omega),if_neg (by omega),if_neg (by omega)]
   exact B6y B o T b v t c _ w d h a rfl _ _ _ (.inl ⟨by omega,by omega,rfl,rfl,rfl⟩)
  rw[if_neg i];by_cases j:c.toNat=224
  ·rw[if_pos (by omega),if_pos j,if_neg (by omega),if_neg (by omega)]
   exact B6y B o T b v t c _ w d h a rfl _ _ _ (.inr (.inl ⟨by omega,rfl,rfl,rfl⟩))
  rw[if_neg j];by_cases r:c.toNat<=236
  ·rw[if_pos (by omega),if_neg (by omega),if_neg (by omega),if_neg (by omega)]
   exact B6y B o T b v t c _ w d h a rfl _ _ _ (.inr (.inr (.inl ⟨by omega,by omega,rfl,rfl,rfl⟩)))
  by_cases l:c.toNat=237
  ·rw[if_pos (by omega),if_neg (by omega),if_pos l]
   exact B6y B o T b v t c _ w d h a rfl _ _ _ (.inr (.inr (.inr (.inl ⟨by omega,rfl,rfl,rfl⟩))))
  rw[if_neg l];by_cases m:c.toNat<=239
  ·rw[if_pos m,if_neg (by omega),if_neg (by omega)]
   exact B6y B o T b v t c _ w d h a rfl _ _ _ (.inr (.inr (.inr (.inr (.inl ⟨by omega,by omega,rfl,rfl,rfl⟩)))))
  rw[if_neg m];by_cases p:c.toNat=240
  ·rw[if_pos p,if_neg (by omega)]
   exact B6y B o T b v t c _ w d h a rfl _ _ _ (.inr (.inr (.inr (.inr (.inr (.inl ⟨by omega,rfl,rfl,rfl⟩))))))
  rw[if_neg p];by_cases q:c.toNat=244
  ·rw[if_pos q]
   exact B6y B o T b v t c _ w d h a rfl _ _ _ (.inr (.inr (.inr (.inr (.inr (.inr (.inr (⟨by omega,rfl,rfl,rfl⟩))))))))
  ·rw[if_neg q]
   exact B6y B o T b v t c _ w d h a rfl _ _ _ (.inr (.inr (.inr (.inr (.inr (.inr (.inl ⟨by omega,by omega,rfl,rfl,rfl⟩)))))))
 ·rw[if_neg f]
  exact G1a B o _ w (by omega)
end Go.Proofs.YtmkkibaacclhnaaGreatDoor
