/-
  Part Prs.
-/
import Derived.Test.YtmkkibaacclhnaaGreatDoorPop
namespace Go.Proofs.YtmkkibaacclhnaaGreatDoor
open Go.RowKit
set_option maxRecDepth 100000
set_option maxHeartbeats 16000000
theorem D2e (c:UInt8) (w:World):Calls Tryz.prog 84 #[.int .u8 (c.toNat:Int)] w λe w'=>e=.returned (.bool (B2x c))/\w'=w:=by
 by_cases b:c=32
 ·subst b
  show Calls Tryz.prog 84 #[.int .u8 (32:Int)] w λe w'=>e=.returned (.bool true)/\w'=w
  go_enter Tryz.func84,Tryz.ntmps84;go_wp2;go_ret;exact⟨rfl,rfl⟩
 have h:((c.toNat:Int)==32)=false:=bqF (by have:=A0k b;simp at this;omega);by_cases a:c=10
 ·subst a
  show Calls Tryz.prog 84 #[.int .u8 (10:Int)] w λe w'=>e=.returned (.bool true)/\w'=w
  go_enter Tryz.func84,Tryz.ntmps84;go_wp2;go_ret;exact⟨rfl,rfl⟩
 have i:((c.toNat:Int)==10)=false:=bqF (by have:=A0k a;simp at this;omega);by_cases d:c=13
 ·subst d
  show Calls Tryz.prog 84 #[.int .u8 (13:Int)] w λe w'=>e=.returned (.bool true)/\w'=w
  go_enter Tryz.func84,Tryz.ntmps84;go_wp2;go_ret;exact⟨rfl,rfl⟩
 have j:((c.toNat:Int)==13)=false:=bqF (by have:=A0k d;simp at this;omega);by_cases f:c=9
 ·subst f
  show Calls Tryz.prog 84 #[.int .u8 (9:Int)] w λe w'=>e=.returned (.bool true)/\w'=w
  go_enter Tryz.func84,Tryz.ntmps84;go_wp2;go_ret;exact⟨rfl,rfl⟩
 have k:((c.toNat:Int)==9)=false:=bqF (by have:=A0k f;simp at this;omega);have g:B2x c=false:=by simp[B2x,b,a,d,f]
 rw[g];clear g b a d f;go_enter Tryz.func84,Tryz.ntmps84;go_wp2;go_ret;exact⟨rfl,rfl⟩
theorem B5p.same {B:Nat} {e c b d:Value} {s:Ps} {w w':World} {S:Nat->Prop} (h:PR B w e c b d s) (a:Fr (λ_=>False) w w'):B5p B s.came S w w':=
 ⟨_,a.heap h.blk id,rfl,rfl,a.mono (λ_ h=>h.elim)⟩
theorem C1p (B:Nat) (k g f d:Value) (s:Ps) (x:UInt8) (r:LU8) (c:UInt8) (w:World) (h:PR B w k g f d s) (v:Nn f d) (l:s.word=x::r) (hr:r.length<=10) (n:E2x s) (i:s.items.length<=10000000) (o:s.opn.length<=10000000):
 Calls Tryz.prog 81 #[.pointer (some ⟨B,0,none⟩),.int .u8 (c.toNat:Int)] w (A3v B s.came (own B k g f d) w (A6t s c)):=by
 have H:=hid (PC.start h);have D:=hid h;have z:=A0a h.blk (show(A0f s k g f d)[7]? =some (.string (ofL s.word))from rfl);have G:=A0b (j:=7) h.blk;rw[l]at z;have t:(ofL (x::r)).size=r.length+1:=by rw[A0c];rfl
 have F:(ofL (x::r))[0]'(by rw[t];omega)=x:=rfl;have A:(ofL (x::r)).extract 1 (r.length+1)=ofL r:=by rw[A0r];simp
 unfold A6t;rw[l];simp only;by_cases b:c≠x
 ·rw[if_pos b]
  have C:((c.toNat:Int)!=(x.toNat:Int))=true:=bne_iff_ne.2 (by have:=A0k b;omega);clear h l b n;go_enter Tryz.func81,Tryz.ntmps81;go_wp2;exact⟨rfl,rfl,B5p.same D.out (Fr.refl _ _)⟩
 ·rw[if_neg b]
  have C:((c.toNat:Int)!=(x.toNat:Int))=false:=by
   have:c=x:=by
    rcases UInt8.decEq c x with h|h
    ·exact absurd h b
    ·exact h
   rw[this];simp
  have u:=hid (H.cell 7 (.string (ofL r)) ⟨s.depth,s.came,s.st,s.items,s.opn,r,s.tok,s.tx⟩ rfl rfl rfl rfl rfl);by_cases a:r=[]
  ·rw[if_pos a]
   subst a;have p:(ofL []).toList.isEmpty=true:=by rw[A0y];rfl
   have E:=hid (λ(w:World) (m:PR B w k g f d ⟨s.depth,s.came,s.st,s.items,s.opn,[],s.tok,s.tx⟩)=>A7a B k g f d ⟨s.depth,s.came,s.st,s.items,s.opn,[],s.tok,s.tx⟩ w m v n i o);clear h l b n;go_enter Tryz.func81,Tryz.ntmps81
   go_wp2_with fail
   refine Calls.mono (E.out _ u.pr) ?_;rintro e I ⟨rfl,m⟩;have y:=hid (u.trans m);clear m;go_wp2;go_end0;exact⟨rfl,y.out⟩
  ·rw[if_neg a]
   have p:(ofL r).toList.isEmpty=false:=by rw[A0y];cases r with|nil=>exact absurd rfl a|cons=>rfl
   clear h l b n a;go_enter Tryz.func81,Tryz.ntmps81;go_wp2;go_end0;exact⟨rfl,_,_,_,_,u.out,v.q _⟩
theorem C1q (B:Nat) (L I u t:Value) (s:Ps) (l:List Nat) (i:Nat) (x:It) (c:UInt8) (w:World) (h:PR B w L I u t s) (T:Nn u t) (P:s.opn=l++[i]) (A:s.items[i]? =some x) (F:E2x s) (E:s.items.length<=10000000) (V:l.length<=10000000):
 Calls Tryz.prog 140 #[.pointer (some ⟨B,0,none⟩),.int .u8 (c.toNat:Int)] w (A3v B s.came (own B L I u t) w (A4m s c)):=by
 have a0:i<s.items.length:=by
  rcases Nat.lt_or_ge i s.items.length with W|W
  ·exact W
  ·rw[List.getElem?_eq_none W]at A;cases A
 have v:C8c s=decide (x.k=5):=by unfold C8c;rw[P];simp[A]
 have X:=hid (λ(w:World) (y:PR B w L I u t s)=>B1t B L I u t s l i w y T P F E V);have H:=hid (PC.start h).drew;obtain⟨Q,K,rfl⟩:=A9r h.oi (by omega);have r:=h.oo;rw[P]at r;have C:(l++[i]).length=l.length+1:=by simp
 rw[C]at r;obtain⟨O,J,rfl⟩:=A9r r (by omega);have k5:=A0a h.blk (show(A0f s (.slice (some ⟨Q,0,none⟩) s.items.length K) (.slice (some ⟨O,0,none⟩) (l.length+1) J) u t)[5]? =some (.slice (some ⟨Q,0,none⟩) s.items.length K)from rfl);have k6:=A0a h.blk (show(A0f s (.slice (some ⟨Q,0,none⟩) s.items.length K) (.slice (some ⟨O,0,none⟩) (l.length+1) J) u t)[6]? =some (.slice (some ⟨O,0,none⟩) (l.length+1) J)from rfl);have k4:=A0a h.blk (show(A0f s (.slice (some ⟨Q,0,none⟩) s.items.length K) (.slice (some ⟨O,0,none⟩) (l.length+1) J) u t)[4]? =some (.int .i64 (s.st:Int))from rfl);have f4:=A0b (j:=4) h.blk;have ko:=A2c r l.length (.int .i64 (i:Int)) (by simp[opV]);have kk:=A2c h.oi (i*4) (.int .i64 (x.k:Int)) (by rw[<-Nat.add_zero (i*4),D4j s.items i 0 x A (by omega)];rfl);have a2:=A2a h.oi;have a1:=A2a r;unfold A4m;rw[v];clear v h r A C F;have g:c=44->((c.toNat:Int)==44)=true:=λh=>by rw[h];rfl
 have f:c≠44->((c.toNat:Int)==44)=false:=λh=>bqF (by have:=A0k h;simp at this;omega)
 have n:c=93->((c.toNat:Int)==93)=true:=λh=>by rw[h];rfl
 have m:c≠93->((c.toNat:Int)==93)=false:=λh=>bqF (by have:=A0k h;simp at this;omega)
 have a:c=125->((c.toNat:Int)==125)=true:=λh=>by rw[h];rfl
 have d:c≠125->((c.toNat:Int)==125)=false:=λh=>bqF (by have:=A0k h;simp at this;omega)
 generalize Z:s.items.length=N at*;generalize hM:l.length=M at*;have Y:=hid H.err;have H0:=hid (H.cell 4 (.int .i64 0) (C1m s 0) rfl rfl rfl rfl rfl);have H2:=hid (H.cell 4 (.int .i64 2) (C1m s 2) rfl rfl rfl rfl rfl);clear P Z hM;by_cases D:x.k=5
 ·rw[dcT D]
  have U:((x.k:Int)==5)=true:=by rw[D];rfl
  clear D;simp only[true_and,Bool.true_eq_false,false_and,or_false,if_false];by_cases b:c=44
  ·rw[if_pos b]
   have z:=g b;clear g f n m a d b;go_enter Tryz.func140,Tryz.ntmps140;go_wp2;go_region
   all_goals
    go_wp2;go_end0;exact⟨rfl,_,_,_,_,H0.out,T.q _⟩
  rw[if_neg b];have z:=f b;by_cases p:c=93
  ·rw[if_pos p]
   have S:=n p;clear g f n m a d b p;go_enter Tryz.func140,Tryz.ntmps140;go_wp2;go_region
   all_goals
    go_wp2_with fail
    refine Calls.mono (X.out _ H.pr) ?_;rintro e w2 ⟨rfl,y⟩;have R:=hid (H.trans y);clear y;go_wp2;go_end0;exact⟨rfl,R.out⟩
  ·rw[if_neg p]
   have S:=m p;clear g f n m a d b p;go_enter Tryz.func140,Tryz.ntmps140;go_wp2;go_region
   all_goals
    go_wp2;exact⟨rfl,rfl,Y.out⟩
 ·rw[dcF D]
  have U:((x.k:Int)==5)=false:=bqF (by omega);clear D;simp only[Bool.false_eq_true,false_and,true_and,false_or,if_false];by_cases b:c=44
  ·rw[if_pos b]
   have z:=g b;clear g f n m a d b;go_enter Tryz.func140,Tryz.ntmps140;go_wp2;go_region
   all_goals
    go_wp2;go_end0;exact⟨rfl,_,_,_,_,H2.out,T.q _⟩
  rw[if_neg b];have z:=f b;by_cases o:c=125
  ·rw[if_pos o]
   have G:=a o;clear g f n m a d b o;go_enter Tryz.func140,Tryz.ntmps140;go_wp2;go_region
   all_goals
    go_wp2_with fail
    refine Calls.mono (X.out _ H.pr) ?_;rintro e w2 ⟨rfl,y⟩;have R:=hid (H.trans y);clear y;go_wp2;go_end0;exact⟨rfl,R.out⟩
  ·rw[if_neg o]
   have G:=d o;clear g f n m a d b o;go_enter Tryz.func140,Tryz.ntmps140;go_wp2;go_region
   all_goals
    go_wp2;exact⟨rfl,rfl,Y.out⟩
theorem E3n {s:Ps} {g e i f d:Value} {b:Array Value} {h:Tk} (c:TkIn b 8 d h) (a:B1f 8 (A0f s g e i f) b):b=A0f ⟨s.depth,s.came,s.st,s.items,s.opn,s.word,h,s.tx⟩ g e d f:=by
 apply Array.ext_getElem?;intro j
 match j with
 |0=>exact(a.2 0 (by omega)).trans rfl
 |1=>exact(a.2 1 (by omega)).trans rfl
 |2=>exact(a.2 2 (by omega)).trans rfl
 |3=>exact(a.2 3 (by omega)).trans rfl
 |4=>exact(a.2 4 (by omega)).trans rfl
 |5=>exact(a.2 5 (by omega)).trans rfl
 |6=>exact(a.2 6 (by omega)).trans rfl
 |7=>exact(a.2 7 (by omega)).trans rfl
 |8=>exact c.c0
 |9=>exact c.c1
 |10=>exact c.c2
 |11=>exact c.c3
 |12=>exact c.c4
 |13=>exact c.c5
 |14=>exact(a.2 14 (by omega)).trans rfl
 |15=>exact(a.2 15 (by omega)).trans rfl
 |16=>exact(a.2 16 (by omega)).trans rfl
 |17=>exact(a.2 17 (by omega)).trans rfl
 |18=>exact(a.2 18 (by omega)).trans rfl
 |19=>exact(a.2 19 (by omega)).trans rfl
 |20=>exact(a.2 20 (by omega)).trans rfl
 |21=>exact(a.2 21 (by omega)).trans rfl
 |(j+22)=>
  rw[Array.getElem?_eq_none (by rw[a.1];show 22<=_;omega),Array.getElem?_eq_none (by show 22<=_;omega)]
theorem F0s {s:Ps} {g f e i d:Value} {c:Array Value} {h:Tr} (b:TrIn c 14 d h) (a:A5e 14 (A0f s g f e i) c):c=A0f ⟨s.depth,s.came,s.st,s.items,s.opn,s.word,s.tok,h⟩ g f e d:=by
 apply Array.ext_getElem?;intro j
 match j with
 |0=>exact(a.2 0 (by omega)).trans rfl
 |1=>exact(a.2 1 (by omega)).trans rfl
 |2=>exact(a.2 2 (by omega)).trans rfl
 |3=>exact(a.2 3 (by omega)).trans rfl
 |4=>exact(a.2 4 (by omega)).trans rfl
 |5=>exact(a.2 5 (by omega)).trans rfl
 |6=>exact(a.2 6 (by omega)).trans rfl
 |7=>exact(a.2 7 (by omega)).trans rfl
 |8=>exact(a.2 8 (by omega)).trans rfl
 |9=>exact(a.2 9 (by omega)).trans rfl
 |10=>exact(a.2 10 (by omega)).trans rfl
 |11=>exact(a.2 11 (by omega)).trans rfl
 |12=>exact(a.2 12 (by omega)).trans rfl
 |13=>exact(a.2 13 (by omega)).trans rfl
 |14=>exact b.c0
 |15=>exact b.c1
 |16=>exact b.c2
 |17=>exact b.c3
 |18=>exact b.c4
 |19=>exact b.c5
 |20=>exact b.c6
 |21=>exact b.c7
 |(j+22)=>
  rw[Array.getElem?_eq_none (by rw[a.1];show 22<=_;omega),Array.getElem?_eq_none (by show 22<=_;omega)]
theorem PC.tok {B:Nat} {S:Nat->Prop} {w0 W w':World} {w t r p:Value} {s:Ps} {y:Tk} (h:PC B S w0 w t r p W s) (m:p.ownBlock=none) (D:C5c 0 B 8 113 (A0f s w t r p) r W w' y):
 ∃l,PC B S w0 w t l p w' ⟨s.depth,s.came,s.st,s.items,s.opn,s.word,y,s.tx⟩:=by
 obtain⟨⟨a,b,c,d,e,f⟩,g,k⟩:=h;obtain⟨K,l,⟨J,H,F⟩,L,fr,G⟩:=D;have I:=E3n H L;subst I;have M:=g.size
 have o:∀{q z n:Nat} {v:Value} {xs:List Value},W.ownsRow 0 q z v n xs->q≠113->q≠5->∀i,v.ownBlock=some i->¬(i=B\/r.ownBlock=some i):=by
  intro q z n v xs C x E i j u;rcases u with rfl|u
  ·exact A8y C a (λh=>x h.symm) j
  ·rcases F0g C d E with h|h
   ·rw[h]at j;cases j
   ·exact h (j.trans u.symm)
 refine⟨l,⟨J,A7e b fr (o b (by decide) (by decide)),A7e c fr (o c (by decide) (by decide)),F,A7e e fr (λi j=>by rw[m]at j;cases j),.inr m⟩,?_,?_⟩
 ·exact g.trans' fr (λi j=>k i (j.elim .inl (λh=>.inr (.inr (.inr (.inl h))))))
 ·intro i j
  rcases j with j|j|j|j|j
  ·exact k i (.inl j)
  ·exact k i (.inr (.inl j))
  ·exact k i (.inr (.inr (.inl j)))
  ·rcases G i j with A|A
   ·exact k i (.inr (.inr (.inr (.inl A))))
   ·exact .inr (by omega)
  ·exact k i (.inr (.inr (.inr (.inr j))))
theorem PR.tkAt {B:Nat} {w:World} {d b a c:Value} {s:Ps} (h:PR B w d b a c s):B3c 0 w B 8 113 (A0f s d b a c) a s.tok:=⟨h.blk,⟨rfl,rfl,rfl,rfl,rfl,rfl⟩,h.ot⟩
theorem PR.trAt {B:Nat} {w:World} {d c b a:Value} {s:Ps} (h:PR B w d c b a s):C2x 0 w B 14 113 (A0f s d c b a) a s.tx:=⟨h.blk,⟨rfl,rfl,rfl,rfl,rfl,rfl,rfl,rfl⟩,h.om⟩
theorem B3g (B:Nat) (v u r t:Value) (s:Ps) (c:UInt8) (w:World) (h:PR B w v u r t s) (x:Nn r t) (G:s.tok=t0) (k:s.items.length<=10000000) (C:s.opn.length<=10000000):
 Calls Tryz.prog 139 #[.pointer (some ⟨B,0,none⟩),.int .u8 (c.toNat:Int)] w (A3v B s.came (own B v u r t) w (A3c s c)):=by
 have H:=hid (PC.start h);have P:=hid h;have T:=A0b (j:=4) h.blk;have R:=A0a h.blk (show(A0f s v u r t)[4]? =some (.int .i64 (s.st:Int))from rfl);have O:=hid G;clear G;unfold A3c;by_cases a:c=110
 ·rw[if_pos a]
  have A:((c.toNat:Int)==110)=true:=by rw[a];rfl
  clear a;have g:=hid (B0s B v u r t s 0 [117,108,108] w h x k);clear h;go_enter Tryz.func139,Tryz.ntmps139
  go_wp2_with fail
  refine Calls.mono g.out ?_;rintro e y ⟨rfl,i⟩;have o:=hid i;clear i;go_wp2;go_end0;exact⟨rfl,o.out⟩
 rw[if_neg a];have A:((c.toNat:Int)==110)=false:=bqF (by have:=A0k a;simp at this;omega);clear a;by_cases d:c=102
 ·rw[if_pos d]
  have I:((c.toNat:Int)==102)=true:=by rw[d];rfl
  clear d;have g:=hid (B0s B v u r t s 1 [97,108,115,101] w h x k);clear h;go_enter Tryz.func139,Tryz.ntmps139
  go_wp2_with fail
  refine Calls.mono g.out ?_;rintro e y ⟨rfl,i⟩;have o:=hid i;clear i;go_wp2;go_end0;exact⟨rfl,o.out⟩
 rw[if_neg d];have I:((c.toNat:Int)==102)=false:=bqF (by have:=A0k d;simp at this;omega);clear d;by_cases b:c=116
 ·rw[if_pos b]
  have D:((c.toNat:Int)==116)=true:=by rw[b];rfl
  clear b;have g:=hid (B0s B v u r t s 2 [114,117,101] w h x k);clear h;go_enter Tryz.func139,Tryz.ntmps139
  go_wp2_with fail
  refine Calls.mono g.out ?_;rintro e y ⟨rfl,i⟩;have o:=hid i;clear i;go_wp2;go_end0;exact⟨rfl,o.out⟩
 rw[if_neg b];have D:((c.toNat:Int)==116)=false:=bqF (by have:=A0k b;simp at this;omega);clear b;by_cases m:c=34
 ·rw[if_pos m]
  have M:((c.toNat:Int)==34)=true:=by rw[m];rfl
  clear m;have o:=hid (H.cell 4 (.int .i64 9) (C1m s 9) rfl rfl rfl rfl rfl);clear h;go_enter Tryz.func139,Tryz.ntmps139;go_wp2;go_end0;exact⟨rfl,_,_,_,_,o.out,x.q _⟩
 rw[if_neg m];have M:((c.toNat:Int)==34)=false:=bqF (by have:=A0k m;simp at this;omega);clear m;by_cases l:c=91
 ·rw[if_pos l]
  have L:((c.toNat:Int)==91)=true:=by rw[l];rfl
  clear l;have p:=B4n B v u r t s 5 1 w h x k C;clear h;cases hr:A6b s 5 1 with
  |error n=>
   rw[hr]at p;have g:=hid p;clear p hr;go_enter Tryz.func139,Tryz.ntmps139
   go_wp2_with fail
   refine Calls.mono g.out ?_;rintro e y ⟨rfl,N⟩;exact⟨rfl,rfl,N⟩
  |ok s'=>
   rw[hr]at p;have g:=hid p;clear p hr;go_enter Tryz.func139,Tryz.ntmps139
   go_wp2_with fail
   refine Calls.mono g.out ?_;rintro e y ⟨rfl,i⟩;have o:=hid i;clear i;go_wp2;go_end0;exact⟨rfl,o.out⟩
 rw[if_neg l];have L:((c.toNat:Int)==91)=false:=bqF (by have:=A0k l;simp at this;omega);clear l;by_cases f:c=123
 ·rw[if_pos f]
  have F:((c.toNat:Int)==123)=true:=by rw[f];rfl
  clear f;have p:=B4n B v u r t s 6 3 w h x k C;clear h;cases hr:A6b s 6 3 with
  |error n=>
   rw[hr]at p;have g:=hid p;clear p hr;go_enter Tryz.func139,Tryz.ntmps139
   go_wp2_with fail
   refine Calls.mono g.out ?_;rintro e y ⟨rfl,N⟩;exact⟨rfl,rfl,N⟩
  |ok s'=>
   rw[hr]at p;have g:=hid p;clear p hr;go_enter Tryz.func139,Tryz.ntmps139
   go_wp2_with fail
   refine Calls.mono g.out ?_;rintro e y ⟨rfl,i⟩;have o:=hid i;clear i;go_wp2;go_end0;exact⟨rfl,o.out⟩
 rw[if_neg f];have F:((c.toNat:Int)==123)=false:=bqF (by have:=A0k f;simp at this;omega);clear f;by_cases z:beh s.tok.st c=0
 ·have E:nxt s.tok c=none:=by rw[nxt,if_pos z]
  rw[E];have g:=hid (B9g 0 B 8 113 _ r s.tok c w (by rw[O.out];decide) h.tkAt z);clear h z E;go_enter Tryz.func139,Tryz.ntmps139
  go_wp2_with fail
  refine Calls.mono g.out ?_;rintro e y ⟨rfl,rfl⟩;go_wp2;exact⟨rfl,rfl,B5p.same P.out (Fr.refl _ _)⟩
 ·have E:nxt s.tok c=some (A4q s.tok c (beh s.tok.st c)):=by rw[nxt,if_neg z]
  rw[E];have g:=hid (B9h 0 B 8 113 _ r s.tok c w 0 (by decide) (by omega) (by omega) (by rw[O.out];exact E9g) h.tkAt z);generalize A4q s.tok c (beh s.tok.st c)=t' at*;clear h z E;go_enter Tryz.func139,Tryz.ntmps139
  go_wp2_with fail
  refine Calls.mono g.out ?_;rintro e y ⟨rfl,i⟩;obtain⟨K,J⟩:=H.tok x.2 i;have S:=A0a J.pr.blk (show(A0f ⟨s.depth,s.came,s.st,s.items,s.opn,s.word,t',s.tx⟩ v u K t)[4]? =some (.int .i64 (s.st:Int))from rfl);have Q:=A0b (j:=4) J.pr.blk;have o:=hid (J.cell 4 (.int .i64 7) ⟨s.depth,s.came,7,s.items,s.opn,s.word,t',s.tx⟩ rfl rfl rfl rfl rfl);clear i J;go_wp2;go_end0;exact⟨rfl,_,_,_,_,o.out,λh=>absurd rfl h,λ_ _=>x.2⟩
end Go.Proofs.YtmkkibaacclhnaaGreatDoor
