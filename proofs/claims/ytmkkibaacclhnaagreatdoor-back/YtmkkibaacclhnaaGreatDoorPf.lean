/-
  A step of the walk, the part named Pf. No theorem of the row.
-/
import Derived.Test.YtmkkibaacclhnaaGreatDoorPd
namespace Go.Proofs.YtmkkibaacclhnaaGreatDoor
open Go.RowKit
set_option maxRecDepth 100000
set_option maxHeartbeats 16000000
structure TrIn (cs:Array Value) (o:Nat) (v:Value) (t:Tr):Prop where
 c0:cs[o]? =some (.int .i64 (t.st:Int))
 c1:cs[o+1]? =some v
 c2:cs[o+2]? =some (.int .i64 (t.lack:Int))
 c3:cs[o+3]? =some (.int .u8 (t.lo:Int))
 c4:cs[o+4]? =some (.int .u8 (t.hi:Int))
 c5:cs[o+5]? =some (.int .i64 (t.dg:Int))
 c6:cs[o+6]? =some (.int .i32 (t.code:Int))
 c7:cs[o+7]? =some (.int .i32 (t.high:Int))
theorem TrIn.size {cs:Array Value} {o:Nat} {v:Value} {t:Tr} (h:TrIn cs o v t):o+7<cs.size:=by
 rcases Nat.lt_or_ge (o+7) cs.size with h1|h1
 ·exact h1
 ·have:=h.c7
  rw[Array.getElem?_eq_none h1]at this;cases this
theorem get_setP {cs:Array Value} {j:Nat} {v:Value} (h:j<cs.size):(cs.setIfInBounds j v)[j]? =some v:=by
 rw[Array.getElem?_setIfInBounds,if_pos rfl,if_pos h]
def ApartR (o:Nat) (cs cs':Array Value):Prop:=cs'.size=cs.size∧∀j,j<o∨o+7<j→cs'[j]? =cs[j]?
theorem ApartR.refl (o:Nat) (cs:Array Value):ApartR o cs cs:=⟨rfl,fun _ _=>rfl⟩
theorem ApartR.set {o:Nat} {cs cs':Array Value} (h:ApartR o cs cs') (i:Nat) (hi:i≤7) (v:Value):ApartR o cs (cs'.setIfInBounds (o+i) v):=
 ⟨by rw[Array.size_setIfInBounds];exact h.1,fun j hj=>by rw[set_get_ne (by omega)];exact h.2 j hj⟩
def TrAt (base:Nat) (w:World) (B o T:Nat) (cs:Array Value) (v:Value) (t:Tr):Prop:=
 w.heap[B]? =some (.cells cs T (0,0))∧TrIn cs o v t∧w.ownsRow base 5 1 v t.made.length (us t.made)
structure TrR (base B o T:Nat) (cs0:Array Value) (v0:Value) (w0:World) (cs:Array Value) (v:Value) (W:World) (t:Tr):Prop where
 is:TrAt base W B o T cs v t
 ap:ApartR o cs0 cs
 fr:Fr (fun i=>i=B∨v0.ownBlock=some i) w0 W
 ow:∀g,v.ownBlock=some g→v0.ownBlock=some g∨w0.heap.size≤g
theorem TrR.start {base B o T:Nat} {cs:Array Value} {v:Value} {w:World} {t:Tr} (h:TrAt base w B o T cs v t):TrR base B o T cs v w cs v w t:=⟨h,ApartR.refl _ _,Fr.refl _ _,fun _ h=>.inl h⟩
theorem TrR.s0 {base B o T:Nat} {cs0 cs:Array Value} {v0 v:Value} {w0 W:World} {t:Tr} (hT:T≠5) (h:TrR base B o T cs0 v0 w0 cs v W t) (x:Nat):TrR base B o T cs0 v0 w0 (cs.setIfInBounds (o) (.int .i64 (x:Int))) v (W.setCell ⟨B,o,none⟩ (.int .i64 (x:Int))) ⟨x,t.made,t.lack,t.lo,t.hi,t.dg,t.code,t.high⟩:=by
 obtain⟨⟨a,b,c⟩,d,e,f⟩:=h;have hs:=b.size;refine⟨⟨heap_setCell_same W B (o) cs T _ a,⟨get_setP (by omega),by rw[set_get_ne (by omega)];exact b.c1,by rw[set_get_ne (by omega)];exact b.c2,by rw[set_get_ne (by omega)];exact b.c3,by rw[set_get_ne (by omega)];exact b.c4,by rw[set_get_ne (by omega)];exact b.c5,by rw[set_get_ne (by omega)];exact b.c6,by rw[set_get_ne (by omega)];exact b.c7⟩,ownsRow_setCell_other c (a:=⟨B,o,none⟩) (row_other c a hT) _⟩,d.set 0 (by omega) _,e.setCell (.inl (.inl rfl)) _,f⟩
theorem TrR.s2 {base B o T:Nat} {cs0 cs:Array Value} {v0 v:Value} {w0 W:World} {t:Tr} (hT:T≠5) (h:TrR base B o T cs0 v0 w0 cs v W t) (x:Nat):TrR base B o T cs0 v0 w0 (cs.setIfInBounds (o+2) (.int .i64 (x:Int))) v (W.setCell ⟨B,o+2,none⟩ (.int .i64 (x:Int))) ⟨t.st,t.made,x,t.lo,t.hi,t.dg,t.code,t.high⟩:=by
 obtain⟨⟨a,b,c⟩,d,e,f⟩:=h;have hs:=b.size;refine⟨⟨heap_setCell_same W B (o+2) cs T _ a,⟨by rw[set_get_ne (by omega)];exact b.c0,by rw[set_get_ne (by omega)];exact b.c1,get_setP (by omega),by rw[set_get_ne (by omega)];exact b.c3,by rw[set_get_ne (by omega)];exact b.c4,by rw[set_get_ne (by omega)];exact b.c5,by rw[set_get_ne (by omega)];exact b.c6,by rw[set_get_ne (by omega)];exact b.c7⟩,ownsRow_setCell_other c (a:=⟨B,o+2,none⟩) (row_other c a hT) _⟩,d.set 2 (by omega) _,e.setCell (.inl (.inl rfl)) _,f⟩
theorem TrR.s3 {base B o T:Nat} {cs0 cs:Array Value} {v0 v:Value} {w0 W:World} {t:Tr} (hT:T≠5) (h:TrR base B o T cs0 v0 w0 cs v W t) (x:Nat):TrR base B o T cs0 v0 w0 (cs.setIfInBounds (o+3) (.int .u8 (x:Int))) v (W.setCell ⟨B,o+3,none⟩ (.int .u8 (x:Int))) ⟨t.st,t.made,t.lack,x,t.hi,t.dg,t.code,t.high⟩:=by
 obtain⟨⟨a,b,c⟩,d,e,f⟩:=h;have hs:=b.size;refine⟨⟨heap_setCell_same W B (o+3) cs T _ a,⟨by rw[set_get_ne (by omega)];exact b.c0,by rw[set_get_ne (by omega)];exact b.c1,by rw[set_get_ne (by omega)];exact b.c2,get_setP (by omega),by rw[set_get_ne (by omega)];exact b.c4,by rw[set_get_ne (by omega)];exact b.c5,by rw[set_get_ne (by omega)];exact b.c6,by rw[set_get_ne (by omega)];exact b.c7⟩,ownsRow_setCell_other c (a:=⟨B,o+3,none⟩) (row_other c a hT) _⟩,d.set 3 (by omega) _,e.setCell (.inl (.inl rfl)) _,f⟩
theorem TrR.s4 {base B o T:Nat} {cs0 cs:Array Value} {v0 v:Value} {w0 W:World} {t:Tr} (hT:T≠5) (h:TrR base B o T cs0 v0 w0 cs v W t) (x:Nat):TrR base B o T cs0 v0 w0 (cs.setIfInBounds (o+4) (.int .u8 (x:Int))) v (W.setCell ⟨B,o+4,none⟩ (.int .u8 (x:Int))) ⟨t.st,t.made,t.lack,t.lo,x,t.dg,t.code,t.high⟩:=by
 obtain⟨⟨a,b,c⟩,d,e,f⟩:=h;have hs:=b.size;refine⟨⟨heap_setCell_same W B (o+4) cs T _ a,⟨by rw[set_get_ne (by omega)];exact b.c0,by rw[set_get_ne (by omega)];exact b.c1,by rw[set_get_ne (by omega)];exact b.c2,by rw[set_get_ne (by omega)];exact b.c3,get_setP (by omega),by rw[set_get_ne (by omega)];exact b.c5,by rw[set_get_ne (by omega)];exact b.c6,by rw[set_get_ne (by omega)];exact b.c7⟩,ownsRow_setCell_other c (a:=⟨B,o+4,none⟩) (row_other c a hT) _⟩,d.set 4 (by omega) _,e.setCell (.inl (.inl rfl)) _,f⟩
theorem TrR.s5 {base B o T:Nat} {cs0 cs:Array Value} {v0 v:Value} {w0 W:World} {t:Tr} (hT:T≠5) (h:TrR base B o T cs0 v0 w0 cs v W t) (x:Nat):TrR base B o T cs0 v0 w0 (cs.setIfInBounds (o+5) (.int .i64 (x:Int))) v (W.setCell ⟨B,o+5,none⟩ (.int .i64 (x:Int))) ⟨t.st,t.made,t.lack,t.lo,t.hi,x,t.code,t.high⟩:=by
 obtain⟨⟨a,b,c⟩,d,e,f⟩:=h;have hs:=b.size;refine⟨⟨heap_setCell_same W B (o+5) cs T _ a,⟨by rw[set_get_ne (by omega)];exact b.c0,by rw[set_get_ne (by omega)];exact b.c1,by rw[set_get_ne (by omega)];exact b.c2,by rw[set_get_ne (by omega)];exact b.c3,by rw[set_get_ne (by omega)];exact b.c4,get_setP (by omega),by rw[set_get_ne (by omega)];exact b.c6,by rw[set_get_ne (by omega)];exact b.c7⟩,ownsRow_setCell_other c (a:=⟨B,o+5,none⟩) (row_other c a hT) _⟩,d.set 5 (by omega) _,e.setCell (.inl (.inl rfl)) _,f⟩
theorem TrR.s6 {base B o T:Nat} {cs0 cs:Array Value} {v0 v:Value} {w0 W:World} {t:Tr} (hT:T≠5) (h:TrR base B o T cs0 v0 w0 cs v W t) (x:Nat):TrR base B o T cs0 v0 w0 (cs.setIfInBounds (o+6) (.int .i32 (x:Int))) v (W.setCell ⟨B,o+6,none⟩ (.int .i32 (x:Int))) ⟨t.st,t.made,t.lack,t.lo,t.hi,t.dg,x,t.high⟩:=by
 obtain⟨⟨a,b,c⟩,d,e,f⟩:=h;have hs:=b.size;refine⟨⟨heap_setCell_same W B (o+6) cs T _ a,⟨by rw[set_get_ne (by omega)];exact b.c0,by rw[set_get_ne (by omega)];exact b.c1,by rw[set_get_ne (by omega)];exact b.c2,by rw[set_get_ne (by omega)];exact b.c3,by rw[set_get_ne (by omega)];exact b.c4,by rw[set_get_ne (by omega)];exact b.c5,get_setP (by omega),by rw[set_get_ne (by omega)];exact b.c7⟩,ownsRow_setCell_other c (a:=⟨B,o+6,none⟩) (row_other c a hT) _⟩,d.set 6 (by omega) _,e.setCell (.inl (.inl rfl)) _,f⟩
theorem TrR.s7 {base B o T:Nat} {cs0 cs:Array Value} {v0 v:Value} {w0 W:World} {t:Tr} (hT:T≠5) (h:TrR base B o T cs0 v0 w0 cs v W t) (x:Nat):TrR base B o T cs0 v0 w0 (cs.setIfInBounds (o+7) (.int .i32 (x:Int))) v (W.setCell ⟨B,o+7,none⟩ (.int .i32 (x:Int))) ⟨t.st,t.made,t.lack,t.lo,t.hi,t.dg,t.code,x⟩:=by
 obtain⟨⟨a,b,c⟩,d,e,f⟩:=h;have hs:=b.size;refine⟨⟨heap_setCell_same W B (o+7) cs T _ a,⟨by rw[set_get_ne (by omega)];exact b.c0,by rw[set_get_ne (by omega)];exact b.c1,by rw[set_get_ne (by omega)];exact b.c2,by rw[set_get_ne (by omega)];exact b.c3,by rw[set_get_ne (by omega)];exact b.c4,by rw[set_get_ne (by omega)];exact b.c5,by rw[set_get_ne (by omega)];exact b.c6,get_setP (by omega)⟩,ownsRow_setCell_other c (a:=⟨B,o+7,none⟩) (row_other c a hT) _⟩,d.set 7 (by omega) _,e.setCell (.inl (.inl rfl)) _,f⟩
theorem TrR.grow {base B o T:Nat} {cs0 cs:Array Value} {v0 v v':Value} {w0 W w1:World} {t:Tr} {ob:Obj} {k:Nat} {xs:List Value} {e:List UInt8} (hT:T≠5) (h:TrR base B o T cs0 v0 w0 cs v W t)
 (hown:w1.ownsRow base 5 1 v' (t.made.length+k) (us t.made++xs)) (hg:(W.alloc ob).grownBy w1 v.ownBlock) (hn:∀g,v'.ownBlock=some g→v.ownBlock=some g∨W.heap.size+1≤g) (hx:us e=xs) (hk:e.length=k):
 w1.heap[B]? =some (.cells cs T (0,0))∧TrR base B o T cs0 v0 w0 (cs.setIfInBounds (o+1) v') v' (w1.setCell ⟨B,o+1,none⟩ v') ⟨t.st,t.made++e,t.lack,t.lo,t.hi,t.dg,t.code,t.high⟩:=by
 obtain⟨⟨a,b,c⟩,d,f,ow⟩:=h;subst hx;subst hk;have hro:=row_other c a hT;have hBl:=lt_of_block a
 have hh:w1.heap[B]? =some (.cells cs T (0,0)):=by
  rw[hg.block B (by simp;omega) (fun e=>hro e.symm),Below.heap_alloc _ _ _ hBl];exact a
 have hs:=b.size;have hro1:=row_other hown hh hT;have hfs:=f.size;refine⟨hh,⟨heap_setCell_same w1 B (o+1) cs T v' hh,⟨by rw[set_get_ne (by omega)];exact b.c0,get_setP (by omega),by rw[set_get_ne (by omega)];exact b.c2,by rw[set_get_ne (by omega)];exact b.c3,by rw[set_get_ne (by omega)];exact b.c4,by rw[set_get_ne (by omega)];exact b.c5,by rw[set_get_ne (by omega)];exact b.c6,by rw[set_get_ne (by omega)];exact b.c7⟩,?_⟩,d.set 1 (by omega) _,?_,?_⟩
 ·have:=ownsRow_setCell_other hown (a:=⟨B,o+1,none⟩) hro1 v'
  rw[us_append,List.length_append];exact this
 ·refine((f.alloc ob).trans' (k:=(Fr.refl (fun i=>v.ownBlock=some i) (W.alloc ob)).grown hg (fun k hk=>.inl hk)) ?_).setCell (.inl (.inl rfl)) _
  intro i hi;rcases ow i hi with h|h
  ·exact .inl (.inr h)
  ·exact .inr h
 ·intro g hg'
  rcases hn g hg' with h|h
  ·exact ow g h
  ·exact .inr (by omega)
def TrPost (base B o T:Nat) (cs:Array Value) (v:Value) (w w':World) (t':Tr):Prop:=∃cs' v',TrR base B o T cs v w cs' v' w' t'
def TrErr (B o T:Nat) (cs:Array Value) (v:Value) (w w':World):Prop:=∃cs',w'.heap[B]? =some (.cells cs' T (0,0))∧ApartR o cs cs'∧Fr (fun i=>i=B∨v.ownBlock=some i) w w'
theorem TrR.err {base B o T:Nat} {cs0 cs:Array Value} {v0 v:Value} {w0 W:World} {t:Tr} (h:TrR base B o T cs0 v0 w0 cs v W t):TrErr B o T cs0 v0 w0 W:=⟨cs,h.is.1,h.ap,h.fr⟩
def itCells (x:It):List Value:=[.int .i64 (x.k:Int),.int .i64 (x.n:Int),.int .u64 (x.b:Int),.string (ofL x.s)]
def itsV (l:List It):List Value:=l.flatMap itCells
def opV (l:List Nat):List Value:=l.map (fun i:Nat=>Value.int .i64 (i:Int))
theorem itsV_append (a b:List It):itsV (a++b)=itsV a++itsV b:=by simp[itsV]
theorem itsV_get (l:List It) (i j:Nat) (x:It) (hi:l[i]? =some x) (hj:j<4):(itsV l)[i*4+j]? =(itCells x)[j]? :=by
 induction l generalizing i with
 |nil=>simp at hi
 |cons y l ih=>
  have e:itsV (y::l)=itCells y++itsV l:=rfl;have hl:(itCells y).length=4:=rfl;cases i with
  |zero=>
   simp at hi;subst hi;rw[e,List.getElem?_append_left (by rw[hl];omega)];simp
  |succ i=>
   rw[e,List.getElem?_append_right (by rw[hl];omega),hl,show(i+1)*4+j-4=i*4+j by omega];exact ih i (by simpa using hi)
theorem itsV_modify (l:List It) (i:Nat) (x:It) (hi:l[i]? =some x):itsV (l.modify i (fun x=>⟨x.k,x.n+1,x.b,x.s⟩))=(itsV l).set (i*4+1) (.int .i64 ((x.n+1:Nat):Int)):=by
 induction l generalizing i with
 |nil=>simp at hi
 |cons y l ih=>
  have e:∀z r,itsV (z::r)=itCells z++itsV r:=fun _ _=>rfl
  cases i with
  |zero=>
   simp at hi;subst hi;rw[List.modify_zero_cons,e,e];rfl
  |succ i=>
   rw[List.modify_succ_cons,e,e,ih i (by simpa using hi),show(i+1)*4+1=(itCells y).length+(i*4+1) by show _=4+_;omega,List.set_append,if_neg (by omega),Nat.add_sub_cancel_left]
theorem rowT {w:World} {base e size n:Nat} {v:Value} {xs:List Value} {B T:Nat} {a:Array Value} (h:w.ownsRow base e size v n xs) (hB:w.heap[B]? =some (.cells a T (0,0))) (hT:T≠e):v.ownBlock≠some B:=by
 intro he;rcases h.2 with⟨rfl,_⟩|⟨g,cap,cur,rfl,_,hg,_⟩
 ·simp[Value.ownBlock]at he
 ·simp[Value.ownBlock]at he
  subst he;rw[hg]at hB;simp at hB;exact hT hB.2.symm
theorem rowFr {S:Nat→Prop} {w w':World} {base e size n:Nat} {v:Value} {xs:List Value} (h:w.ownsRow base e size v n xs) (hF:Fr S w w') (hS:∀i,v.ownBlock=some i→¬S i):w'.ownsRow base e size v n xs:=by
 refine⟨h.1,?_⟩;rcases h.2 with h2|⟨g,cap,cur,hv,h3,hg,h4⟩
 ·exact .inl h2
 ·exact .inr ⟨g,cap,cur,hv,h3,hF.heap hg (hS g (by rw[hv];rfl)),h4⟩
theorem rowSetOther {w:World} {base e size n:Nat} {v:Value} {xs:List Value} (h:w.ownsRow base e size v n xs) {a:Addr} (ha:v.ownBlock≠some a.block) (u:Value):(w.setCell a u).ownsRow base e size v n xs:=by
 refine⟨h.1,?_⟩;rcases h.2 with h2|⟨g,cap,cur,hv,h3,hg,h4⟩
 ·exact .inl h2
 ·refine .inr ⟨g,cap,cur,hv,h3,?_,h4⟩
  rw[Below.heap_setCell w a u g (by intro e;apply ha;rw[hv,←e];rfl)];exact hg
theorem rowSet {w:World} {e size n g cap:Nat} {xs:List Value} (h:w.ownsRow 0 e size (.slice (some ⟨g,0,none⟩) n cap) n xs) (j:Nat) (u:Value):(w.setCell ⟨g,j,none⟩ u).ownsRow 0 e size (.slice (some ⟨g,0,none⟩) n cap) n (xs.set j u):=by
 refine⟨by rw[List.length_set];exact h.1,?_⟩;rcases h.2 with⟨h2,_⟩|⟨g',cap',cur,hv,h3,hg,h4,h5,h6,h7⟩
 ·cases h2
 ·simp at hv
  obtain⟨rfl,rfl⟩:=hv;refine .inr ⟨g,cap,cur.setIfInBounds j u,rfl,h3,heap_setCell_same w g j cur e u hg,h4,h5,by simpa using h6,?_⟩;rw[←h7,Array.toList_setIfInBounds,List.take_set]
theorem rowCut {w:World} {e n g cap:Nat} {xs:List Value} {x:Value} (h:w.ownsRow 0 e 1 (.slice (some ⟨g,0,none⟩) (n+1) cap) (n+1) (xs++[x])):w.ownsRow 0 e 1 (.slice (some ⟨g,0,none⟩) n cap) n xs:=by
 have hl:=h.1;simp at hl;refine⟨by omega,?_⟩;rcases h.2 with⟨h2,_⟩|⟨g',cap',cur,hv,h3,hg,h4,h5,h6,h7⟩
 ·cases h2
 ·simp at hv
  obtain⟨rfl,rfl⟩:=hv;refine .inr ⟨g,cap,cur,rfl,h3,hg,by omega,h5,h6,?_⟩;have:=congrArg (List.take n) h7;rw[List.take_take]at this;simpa[hl]using this
theorem rowCell {w:World} {e size n g cap:Nat} {xs:List Value} (h:w.ownsRow 0 e size (.slice (some ⟨g,0,none⟩) n cap) n xs) (j:Nat) (u:Value) (hj:xs[j]? =some u):w.cell? ⟨g,j,none⟩=some u:=by
 have:=h.cells (g:=g) rfl j u hj;cases j<;>simpa[Addr.add]using this
theorem rowFree {w:World} {e size n g cap:Nat} {xs:List Value} (h:w.ownsRow 0 e size (.slice (some ⟨g,0,none⟩) n cap) n xs) (j:Nat):w.frozen? ⟨g,j,none⟩=false:=by
 rcases h.2 with⟨h2,_⟩|⟨g',cap',cur,hv,h3,hg,h4⟩
 ·cases h2
 ·simp at hv
  obtain⟨rfl,rfl⟩:=hv;simp[World.frozen?,hg]
def psCells (s:Ps) (vi vo vt vm:Value):Array Value:=
 #[.int .i64 (s.depth:Int),.int .i64 (s.came:Int),.int .i64 0,.bool false,.int .i64 (s.st:Int),vi,vo,.string (ofL s.word),
  .int .i64 (s.tok.st:Int),.bool s.tok.neg,vt,.int .i64 s.tok.P,.int .i64 (s.tok.pw:Int),.bool s.tok.pn,
  .int .i64 (s.tx.st:Int),vm,.int .i64 (s.tx.lack:Int),.int .u8 (s.tx.lo:Int),.int .u8 (s.tx.hi:Int),.int .i64 (s.tx.dg:Int),.int .i32 (s.tx.code:Int),.int .i32 (s.tx.high:Int)]
structure PR (B:Nat) (w:World) (vi vo vt vm:Value) (s:Ps):Prop where
 blk:w.heap[B]? =some (.cells (psCells s vi vo vt vm) 113 (0,0))
 oi:w.ownsRow 0 29 4 vi s.items.length (itsV s.items)
 oo:w.ownsRow 0 3 1 vo s.opn.length (opV s.opn)
 ot:w.ownsRow 0 5 1 vt s.tok.D.length (bs s.tok.D)
 om:w.ownsRow 0 5 1 vm s.tx.made.length (us s.tx.made)
 one:vt.ownBlock=none∨vm.ownBlock=none
def own (B:Nat) (vi vo vt vm:Value) (i:Nat):Prop:=i=B∨vi.ownBlock=some i∨vo.ownBlock=some i∨vt.ownBlock=some i∨vm.ownBlock=some i
structure PC (B:Nat) (S:Nat→Prop) (w0:World) (vi vo vt vm:Value) (W:World) (s:Ps):Prop where
 pr:PR B W vi vo vt vm s
 fr:Fr S w0 W
 ow:∀i,own B vi vo vt vm i→S i∨w0.heap.size≤i
theorem PC.start {B:Nat} {vi vo vt vm:Value} {w:World} {s:Ps} (h:PR B w vi vo vt vm s):PC B (own B vi vo vt vm) w vi vo vt vm w s:=⟨h,Fr.refl _ _,fun _ h=>.inl h⟩
def Nn (vt vm:Value):Prop:=vt.ownBlock=none∧vm.ownBlock=none
def Qv (s:Ps) (vt vm:Value):Prop:=(s.st≠7→vt.ownBlock=none)∧(s.st≠8→s.st≠9→vm.ownBlock=none)
theorem Nn.q {vt vm:Value} (h:Nn vt vm) (s:Ps):Qv s vt vm:=⟨fun _=>h.1,fun _ _=>h.2⟩
def PSt (B:Nat) (S:Nat→Prop) (w w':World) (s':Ps):Prop:=∃vi vo vt vm,PC B S w vi vo vt vm w' s'∧Qv s' vt vm
theorem PC.drew {B:Nat} {S:Nat→Prop} {w0 W:World} {vi vo vt vm:Value} {s:Ps} (h:PC B S w0 vi vo vt vm W s):PC B S w0 vi vo vt vm W.drew s:=⟨⟨h.pr.blk,h.pr.oi,h.pr.oo,h.pr.ot,h.pr.om,h.pr.one⟩,h.fr.drew,h.ow⟩
theorem PC.cell {B:Nat} {S:Nat→Prop} {w0 W:World} {vi vo vt vm:Value} {s:Ps} (h:PC B S w0 vi vo vt vm W s) (j:Nat) (u:Value) (s':Ps) (hc:(psCells s vi vo vt vm).setIfInBounds j u=psCells s' vi vo vt vm)
 (h1:s'.items=s.items) (h2:s'.opn=s.opn) (h3:s'.tok.D=s.tok.D) (h4:s'.tx.made=s.tx.made):PC B S w0 vi vo vt vm (W.setCell ⟨B,j,none⟩ u) s':=by
 obtain⟨⟨a,b,c,d,e,f⟩,g,k⟩:=h;refine⟨⟨?_,?_,?_,?_,?_,f⟩,g.setCell (k B (.inl rfl)) _,k⟩
 ·rw[←hc];exact heap_setCell_same W B j _ 113 u a
 ·rw[h1];exact rowSetOther b (rowT b a (by decide)) u
 ·rw[h2];exact rowSetOther c (rowT c a (by decide)) u
 ·rw[h3];exact rowSetOther d (rowT d a (by decide)) u
 ·rw[h4];exact rowSetOther e (rowT e a (by decide)) u
theorem us_one (c:UInt8):us [c]=[.int .u8 ((c.toNat:Nat):Int)]:=rfl
theorem trGo_any (B o T:Nat) (cs:Array Value) (v:Value) (t:Tr) (k:Nat) (c:UInt8) (w:World) (hT:T≠5) (h:TrAt 0 w B o T cs v t) (hok:TrOk t k) (hk:k≤10000000) (h1:t.st=1):
 Calls Tryz.prog 182 #[.pointer (some ⟨B,o,none⟩),.int .u8 (c.toNat:Int)] w fun e w'=>match trGo t c with
  |.ok t'=>e=.returned (.tuple #[])∧TrPost 0 B o T cs v w w' t'
  |.error n=>e=gave n∧w'=w:=by
 obtain⟨hh,hI,ho⟩:=h;have hl1:=hok.lack1 h1;have hl3:=hok.lack;have hln:=hok.len;have hc1:=blk_cell hh hI.c1;have hc3:=blk_cell hh hI.c3;have hc4:=blk_cell hh hI.c4;have H:=hid (show TrAt 0 w B o T cs v t from⟨hh,hI,ho⟩);have HT:=hid hT;obtain⟨a,cap,rfl⟩:=row_shape ho;unfold trGo;by_cases hbad:c.toNat<t.lo∨t.hi<c.toNat
 ·rw[if_pos hbad]
  simp only;clear hh hI ho h1;rcases hbad with hb|hb
  ·go_enter Tryz.func182,Tryz.ntmps182
   go_wp2;exact⟨rfl,rfl,rfl⟩
  ·by_cases hb2:c.toNat<t.lo
   ·go_enter Tryz.func182,Tryz.ntmps182
    go_wp2;exact⟨rfl,rfl,rfl⟩
   ·go_enter Tryz.func182,Tryz.ntmps182
    go_wp2;exact⟨rfl,rfl,rfl⟩
 ·rw[if_neg hbad]
  simp only;have hb1:¬c.toNat<t.lo:=fun h=>hbad (.inl h)
  have hb2:¬t.hi<c.toNat:=fun h=>hbad (.inr h)
  clear hbad h1;have hf1:=blk_free (j:=o+1) hh;have HI:=hid hI;clear hh hI;obtain⟨i0,hi,hz0,hz1,hz2⟩:=info_parts Tryz.info5;go_enter Tryz.func182,Tryz.ntmps182
  go_wp2_with (first
   |(at_builtin;refine wpList_append_d _ rfl _ _ 65 rfl 5 i0 (.int .u8 0) 1 1 Tryz.underlying65 hi hz0 hz1 hz2 rfl (by decide) _ _ _ rfl (ho.alloc _) ⟨w.heap.size,0,none⟩ 1 1 [.int .u8 (c.toNat:Int)] rfl rfl ?c1 ?c2 ?c3 ?c4 ?_)
   |go_in)
  case c1=>exact cell_one_new _ _ _
  case c2=>intro u hu;simp at hu;subst hu;rfl
  case c3=>unfold maxLen;omega
  case c4=>omega
  intro v' w1 hown' hgrow hnew;obtain⟨g',cap',rfl⟩:=row_succ hown';obtain⟨hh1,hR⟩:=(TrR.start H.out).grow HT.out hown' hgrow hnew (us_one c) rfl;have k1:=blk_cell hh1 HI.out.c1;have k2:=blk_cell hh1 HI.out.c2;have k3:=blk_cell hh1 HI.out.c3;have k4:=blk_cell hh1 HI.out.c4;have k0:=blk_cell hh1 HI.out.c0;have f0:=blk_free (j:=o) hh1;have f1:=blk_free (j:=o+1) hh1;have f2:=blk_free (j:=o+2) hh1;have f3:=blk_free (j:=o+3) hh1;have f4:=blk_free (j:=o+4) hh1;have HR:=hid hR;clear hown' hgrow hnew hh1 hR ho hc1 hc3 hc4 hf1;by_cases hz:t.lack-1=0
  ·have HL:=hid (show t.lack=1 by omega)
   have hlk:(t.lack:Int)=1:=by omega
   go_wp2;go_end0;have:=((((HR.out.s3 HT.out 128).s4 HT.out 191).s2 HT.out 0).s0 HT.out 0);exact⟨rfl,_,_,this⟩
  ·go_wp2
   go_end0;have:=(((HR.out.s3 HT.out 128).s4 HT.out 191).s2 HT.out (t.lack-1));rw[show((t.lack-1:Nat):Int)=(t.lack:Int)-1 by omega]at this
   try rw[if_neg hz]
   exact⟨rfl,_,_,this⟩
end Go.Proofs.YtmkkibaacclhnaaGreatDoor
