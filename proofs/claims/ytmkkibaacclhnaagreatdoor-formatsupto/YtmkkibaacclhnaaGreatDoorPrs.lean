/-
  Part Prs.
-/
import Derived.Test.YtmkkibaacclhnaaGreatDoorPop
namespace Go.Proofs.YtmkkibaacclhnaaGreatDoor
open Go.RowKit
set_option maxRecDepth 100000
set_option maxHeartbeats 16000000
theorem D2e (c:UInt8) (w:World):Calls Tryz.prog 84 #[.int .u8 (c.toNat:Int)] w λe w'=>e=.returned (.bool (B2x c))/\w'=w:=by
 by_cases d:c=32
 ·subst d
  show Calls Tryz.prog 84 #[.int .u8 (32:Int)] w λe w'=>e=.returned (.bool true)/\w'=w
  go_enter Tryz.func84,Tryz.ntmps84;go_wp2;go_ret;exact⟨rfl,rfl⟩
 have j:((c.toNat:Int)==32)=false:=bqF (by have:=A0k d;simp at this;omega);by_cases a:c=10
 ·subst a
  show Calls Tryz.prog 84 #[.int .u8 (10:Int)] w λe w'=>e=.returned (.bool true)/\w'=w
  go_enter Tryz.func84,Tryz.ntmps84;go_wp2;go_ret;exact⟨rfl,rfl⟩
 have h:((c.toNat:Int)==10)=false:=bqF (by have:=A0k a;simp at this;omega);by_cases b:c=13
 ·subst b
  show Calls Tryz.prog 84 #[.int .u8 (13:Int)] w λe w'=>e=.returned (.bool true)/\w'=w
  go_enter Tryz.func84,Tryz.ntmps84;go_wp2;go_ret;exact⟨rfl,rfl⟩
 have i:((c.toNat:Int)==13)=false:=bqF (by have:=A0k b;simp at this;omega);by_cases f:c=9
 ·subst f
  show Calls Tryz.prog 84 #[.int .u8 (9:Int)] w λe w'=>e=.returned (.bool true)/\w'=w
  go_enter Tryz.func84,Tryz.ntmps84;go_wp2;go_ret;exact⟨rfl,rfl⟩
 have k:((c.toNat:Int)==9)=false:=bqF (by have:=A0k f;simp at this;omega);have g:B2x c=false:=by simp[B2x,d,a,b,f]
 rw[g];clear g d a b f;go_enter Tryz.func84,Tryz.ntmps84;go_wp2;go_ret;exact⟨rfl,rfl⟩
theorem B5p.same {B:Nat} {b d e c:Value} {s:Ps} {w w':World} {S:Nat->Prop} (h:PR B w b d e c s) (a:Fr (λ_=>False) w w'):B5p B s.came S w w':=
 ⟨_,a.heap h.blk id,rfl,rfl,a.mono (λ_ h=>h.elim)⟩
theorem C1p (B:Nat) (k l f d:Value) (s:Ps) (x:UInt8) (r:LU8) (c:UInt8) (w:World) (h:PR B w k l f d s) (v:Nn f d) (i:s.word=x::r) (hr:r.length<=10) (m:E2x s) (g:s.items.length<=10000000) (t:s.opn.length<=10000000):
 Calls Tryz.prog 81 #[.pointer (some ⟨B,0,none⟩),.int .u8 (c.toNat:Int)] w (A3v B s.came (own B k l f d) w (A6t s c)):=by
 have H:=hid (PC.start h);have z:=hid h;have F:=A0a h.blk (show(A0f s k l f d)[7]? =some (.string (ofL s.word))from rfl);have G:=A0b (j:=7) h.blk;rw[i]at F;have u:(ofL (x::r)).size=r.length+1:=by rw[A0c];rfl
 have D:(ofL (x::r))[0]'(by rw[u];omega)=x:=rfl;have C:(ofL (x::r)).extract 1 (r.length+1)=ofL r:=by rw[A0r];simp
 unfold A6t;rw[i];simp only;by_cases b:c≠x
 ·rw[if_pos b]
  have E:((c.toNat:Int)!=(x.toNat:Int))=true:=bne_iff_ne.2 (by have:=A0k b;omega);clear h i b m;go_enter Tryz.func81,Tryz.ntmps81;go_wp2;exact⟨rfl,rfl,B5p.same z.out (Fr.refl _ _)⟩
 ·rw[if_neg b]
  have E:((c.toNat:Int)!=(x.toNat:Int))=false:=by
   have:c=x:=by
    rcases UInt8.decEq c x with h|h
    ·exact absurd h b
    ·exact h
   rw[this];simp
  have o:=hid (H.cell 7 (.string (ofL r)) ⟨s.depth,s.came,s.st,s.items,s.opn,r,s.tok,s.tx⟩ rfl rfl rfl rfl rfl);by_cases a:r=[]
  ·rw[if_pos a]
   subst a;have p:(ofL []).toList.isEmpty=true:=by rw[A0y];rfl
   have y:=hid (λ(w:World) (n:PR B w k l f d ⟨s.depth,s.came,s.st,s.items,s.opn,[],s.tok,s.tx⟩)=>A7a B k l f d ⟨s.depth,s.came,s.st,s.items,s.opn,[],s.tok,s.tx⟩ w n v m g t);clear h i b m;go_enter Tryz.func81,Tryz.ntmps81
   go_wp2_with fail
   refine Calls.mono (y.out _ o.pr) ?_;rintro e I ⟨rfl,n⟩;have A:=hid (o.trans n);clear n;go_wp2;go_end0;exact⟨rfl,A.out⟩
  ·rw[if_neg a]
   have p:(ofL r).toList.isEmpty=false:=by rw[A0y];cases r with|nil=>exact absurd rfl a|cons=>rfl
   clear h i b m a;go_enter Tryz.func81,Tryz.ntmps81;go_wp2;go_end0;exact⟨rfl,_,_,_,_,o.out,v.q _⟩
theorem C1q (B:Nat) (P Q v u:Value) (s:Ps) (n:List Nat) (i:Nat) (x:It) (c:UInt8) (w:World) (h:PR B w P Q v u s) (W:Nn v u) (O:s.opn=n++[i]) (D:s.items[i]? =some x) (F:E2x s) (E:s.items.length<=10000000) (V:n.length<=10000000):
 Calls Tryz.prog 140 #[.pointer (some ⟨B,0,none⟩),.int .u8 (c.toNat:Int)] w (A3v B s.came (own B P Q v u) w (A4m s c)):=by
 have a2:i<s.items.length:=by
  rcases Nat.lt_or_ge i s.items.length with T|T
  ·exact T
  ·rw[List.getElem?_eq_none T]at D;cases D
 have t:C8c s=decide (x.k=5):=by unfold C8c;rw[O];simp[D]
 have Y:=hid (λ(w:World) (z:PR B w P Q v u s)=>B1t B P Q v u s n i w z W O F E V);have H:=hid (PC.start h).drew;obtain⟨K,I,rfl⟩:=A9r h.oi (by omega);have r:=h.oo;rw[O]at r;have G:(n++[i]).length=n.length+1:=by simp
 rw[G]at r;obtain⟨L,J,rfl⟩:=A9r r (by omega);have k5:=A0a h.blk (show(A0f s (.slice (some ⟨K,0,none⟩) s.items.length I) (.slice (some ⟨L,0,none⟩) (n.length+1) J) v u)[5]? =some (.slice (some ⟨K,0,none⟩) s.items.length I)from rfl);have k6:=A0a h.blk (show(A0f s (.slice (some ⟨K,0,none⟩) s.items.length I) (.slice (some ⟨L,0,none⟩) (n.length+1) J) v u)[6]? =some (.slice (some ⟨L,0,none⟩) (n.length+1) J)from rfl);have k4:=A0a h.blk (show(A0f s (.slice (some ⟨K,0,none⟩) s.items.length I) (.slice (some ⟨L,0,none⟩) (n.length+1) J) v u)[4]? =some (.int .i64 (s.st:Int))from rfl);have f4:=A0b (j:=4) h.blk;have ko:=A2c r n.length (.int .i64 (i:Int)) (by simp[opV]);have kk:=A2c h.oi (i*4) (.int .i64 (x.k:Int)) (by rw[<-Nat.add_zero (i*4),D4j s.items i 0 x D (by omega)];rfl);have a0:=A2a h.oi;have a1:=A2a r;unfold A4m;rw[t];clear t h r D G F;have f:c=44->((c.toNat:Int)==44)=true:=λh=>by rw[h];rfl
 have g:c≠44->((c.toNat:Int)==44)=false:=λh=>bqF (by have:=A0k h;simp at this;omega)
 have l:c=93->((c.toNat:Int)==93)=true:=λh=>by rw[h];rfl
 have m:c≠93->((c.toNat:Int)==93)=false:=λh=>bqF (by have:=A0k h;simp at this;omega)
 have b:c=125->((c.toNat:Int)==125)=true:=λh=>by rw[h];rfl
 have d:c≠125->((c.toNat:Int)==125)=false:=λh=>bqF (by have:=A0k h;simp at this;omega)
 generalize hN:s.items.length=N at*;generalize hM:n.length=M at*;have X:=hid H.err;have Z:=hid (H.cell 4 (.int .i64 0) (C1m s 0) rfl rfl rfl rfl rfl);have H2:=hid (H.cell 4 (.int .i64 2) (C1m s 2) rfl rfl rfl rfl rfl);clear O hN hM;by_cases C:x.k=5
 ·rw[dcT C]
  have U:((x.k:Int)==5)=true:=by rw[C];rfl
  clear C;simp only[true_and,Bool.true_eq_false,false_and,or_false,if_false];by_cases a:c=44
  ·rw[if_pos a]
   have y:=f a;clear f g l m b d a;go_enter Tryz.func140,Tryz.ntmps140;go_wp2;go_region
   all_goals
    go_wp2;go_end0;exact⟨rfl,_,_,_,_,Z.out,W.q _⟩
  rw[if_neg a];have y:=g a;by_cases p:c=93
  ·rw[if_pos p]
   have S:=l p;clear f g l m b d a p;go_enter Tryz.func140,Tryz.ntmps140;go_wp2;go_region
   all_goals
    go_wp2_with fail
    refine Calls.mono (Y.out _ H.pr) ?_;rintro e w2 ⟨rfl,z⟩;have R:=hid (H.trans z);clear z;go_wp2;go_end0;exact⟨rfl,R.out⟩
  ·rw[if_neg p]
   have S:=m p;clear f g l m b d a p;go_enter Tryz.func140,Tryz.ntmps140;go_wp2;go_region
   all_goals
    go_wp2;exact⟨rfl,rfl,X.out⟩
 ·rw[dcF C]
  have U:((x.k:Int)==5)=false:=bqF (by omega);clear C;simp only[Bool.false_eq_true,false_and,true_and,false_or,if_false];by_cases a:c=44
  ·rw[if_pos a]
   have y:=f a;clear f g l m b d a;go_enter Tryz.func140,Tryz.ntmps140;go_wp2;go_region
   all_goals
    go_wp2;go_end0;exact⟨rfl,_,_,_,_,H2.out,W.q _⟩
  rw[if_neg a];have y:=g a;by_cases o:c=125
  ·rw[if_pos o]
   have A:=b o;clear f g l m b d a o;go_enter Tryz.func140,Tryz.ntmps140;go_wp2;go_region
   all_goals
    go_wp2_with fail
    refine Calls.mono (Y.out _ H.pr) ?_;rintro e w2 ⟨rfl,z⟩;have R:=hid (H.trans z);clear z;go_wp2;go_end0;exact⟨rfl,R.out⟩
  ·rw[if_neg o]
   have A:=d o;clear f g l m b d a o;go_enter Tryz.func140,Tryz.ntmps140;go_wp2;go_region
   all_goals
    go_wp2;exact⟨rfl,rfl,X.out⟩
theorem E3n {s:Ps} {f h i g d:Value} {b:Array Value} {e:Tk} (c:TkIn b 8 d e) (a:B1f 8 (A0f s f h i g) b):b=A0f ⟨s.depth,s.came,s.st,s.items,s.opn,s.word,e,s.tx⟩ f h d g:=by
 apply Array.ext_getElem?;intro j
 match j with
 |0=>exact(a.2 0 (by omega)).trans rfl
 |1=>exact(a.2 1 (by omega)).trans rfl
 |2=>exact(a.2 2 (by omega)).trans rfl
 |3=>exact(a.2 3 (by omega)).trans rfl
 |4=>exact(a.2 4 (by omega)).trans rfl
 |5=>exact(a.2 5 (by omega)).trans rfl
 |6=>exact(a.2 6 (by omega)).trans rfl
 |7=>exact(a.2 7 (by omega)).trans rfl
 |8=>exact c.c0
 |9=>exact c.c1
 |10=>exact c.c2
 |11=>exact c.c3
 |12=>exact c.c4
 |13=>exact c.c5
 |14=>exact(a.2 14 (by omega)).trans rfl
 |15=>exact(a.2 15 (by omega)).trans rfl
 |16=>exact(a.2 16 (by omega)).trans rfl
 |17=>exact(a.2 17 (by omega)).trans rfl
 |18=>exact(a.2 18 (by omega)).trans rfl
 |19=>exact(a.2 19 (by omega)).trans rfl
 |20=>exact(a.2 20 (by omega)).trans rfl
 |21=>exact(a.2 21 (by omega)).trans rfl
 |(j+22)=>
  rw[Array.getElem?_eq_none (by rw[a.1];show 22<=_;omega),Array.getElem?_eq_none (by show 22<=_;omega)]
theorem F0s {s:Ps} {f g h i d:Value} {c:Array Value} {e:Tr} (b:TrIn c 14 d e) (a:A5e 14 (A0f s f g h i) c):c=A0f ⟨s.depth,s.came,s.st,s.items,s.opn,s.word,s.tok,e⟩ f g h d:=by
 apply Array.ext_getElem?;intro j
 match j with
 |0=>exact(a.2 0 (by omega)).trans rfl
 |1=>exact(a.2 1 (by omega)).trans rfl
 |2=>exact(a.2 2 (by omega)).trans rfl
 |3=>exact(a.2 3 (by omega)).trans rfl
 |4=>exact(a.2 4 (by omega)).trans rfl
 |5=>exact(a.2 5 (by omega)).trans rfl
 |6=>exact(a.2 6 (by omega)).trans rfl
 |7=>exact(a.2 7 (by omega)).trans rfl
 |8=>exact(a.2 8 (by omega)).trans rfl
 |9=>exact(a.2 9 (by omega)).trans rfl
 |10=>exact(a.2 10 (by omega)).trans rfl
 |11=>exact(a.2 11 (by omega)).trans rfl
 |12=>exact(a.2 12 (by omega)).trans rfl
 |13=>exact(a.2 13 (by omega)).trans rfl
 |14=>exact b.c0
 |15=>exact b.c1
 |16=>exact b.c2
 |17=>exact b.c3
 |18=>exact b.c4
 |19=>exact b.c5
 |20=>exact b.c6
 |21=>exact b.c7
 |(j+22)=>
  rw[Array.getElem?_eq_none (by rw[a.1];show 22<=_;omega),Array.getElem?_eq_none (by show 22<=_;omega)]
theorem PC.tok {B:Nat} {S:Nat->Prop} {w0 W w':World} {w x r q:Value} {s:Ps} {C:Tk} (h:PC B S w0 w x r q W s) (o:q.ownBlock=none) (K:C5c 0 B 8 113 (A0f s w x r q) r W w' C):
 ∃l,PC B S w0 w x l q w' ⟨s.depth,s.came,s.st,s.items,s.opn,s.word,C,s.tx⟩:=by
 obtain⟨⟨a,b,c,d,e,f⟩,g,k⟩:=h;obtain⟨H,l,⟨D,F,G⟩,E,fr,L⟩:=K;have J:=E3n F E;subst J;have M:=g.size
 have m:∀{p A n:Nat} {v:Value} {xs:List Value},W.ownsRow 0 p A v n xs->p≠113->p≠5->∀i,v.ownBlock=some i->¬(i=B\/r.ownBlock=some i):=by
  intro p A n v xs z t I i j u;rcases u with rfl|u
  ·exact A8y z a (λh=>t h.symm) j
  ·rcases F0g z d I with h|h
   ·rw[h]at j;cases j
   ·exact h (j.trans u.symm)
 refine⟨l,⟨D,A7e b fr (m b (by decide) (by decide)),A7e c fr (m c (by decide) (by decide)),G,A7e e fr (λi j=>by rw[o]at j;cases j),.inr o⟩,?_,?_⟩
 ·exact g.trans' fr (λi j=>k i (j.elim .inl (λh=>.inr (.inr (.inr (.inl h))))))
 ·intro i j
  rcases j with j|j|j|j|j
  ·exact k i (.inl j)
  ·exact k i (.inr (.inl j))
  ·exact k i (.inr (.inr (.inl j)))
  ·rcases L i j with y|y
   ·exact k i (.inr (.inr (.inr (.inl y))))
   ·exact .inr (by omega)
  ·exact k i (.inr (.inr (.inr (.inr j))))
theorem PR.tkAt {B:Nat} {w:World} {b d a c:Value} {s:Ps} (h:PR B w b d a c s):B3c 0 w B 8 113 (A0f s b d a c) a s.tok:=⟨h.blk,⟨rfl,rfl,rfl,rfl,rfl,rfl⟩,h.ot⟩
theorem PR.trAt {B:Nat} {w:World} {b c d a:Value} {s:Ps} (h:PR B w b c d a s):C2x 0 w B 14 113 (A0f s b c d a) a s.tx:=⟨h.blk,⟨rfl,rfl,rfl,rfl,rfl,rfl,rfl,rfl⟩,h.om⟩
theorem B3g (B:Nat) (u v r t:Value) (s:Ps) (c:UInt8) (w:World) (h:PR B w u v r t s) (x:Nn r t) (C:s.tok=t0) (i:s.items.length<=10000000) (A:s.opn.length<=10000000):
 Calls Tryz.prog 139 #[.pointer (some ⟨B,0,none⟩),.int .u8 (c.toNat:Int)] w (A3v B s.came (own B u v r t) w (A3c s c)):=by
 have H:=hid (PC.start h);have P:=hid h;have Q:=A0b (j:=4) h.blk;have S:=A0a h.blk (show(A0f s u v r t)[4]? =some (.int .i64 (s.st:Int))from rfl);have O:=hid C;clear C;unfold A3c;by_cases b:c=110
 ·rw[if_pos b]
  have F:((c.toNat:Int)==110)=true:=by rw[b];rfl
  clear b;have g:=hid (B0s B u v r t s 0 [117,108,108] w h x i);clear h;go_enter Tryz.func139,Tryz.ntmps139
  go_wp2_with fail
  refine Calls.mono g.out ?_;rintro e y ⟨rfl,k⟩;have l:=hid k;clear k;go_wp2;go_end0;exact⟨rfl,l.out⟩
 rw[if_neg b];have F:((c.toNat:Int)==110)=false:=bqF (by have:=A0k b;simp at this;omega);clear b;by_cases a:c=102
 ·rw[if_pos a]
  have E:((c.toNat:Int)==102)=true:=by rw[a];rfl
  clear a;have g:=hid (B0s B u v r t s 1 [97,108,115,101] w h x i);clear h;go_enter Tryz.func139,Tryz.ntmps139
  go_wp2_with fail
  refine Calls.mono g.out ?_;rintro e y ⟨rfl,k⟩;have l:=hid k;clear k;go_wp2;go_end0;exact⟨rfl,l.out⟩
 rw[if_neg a];have E:((c.toNat:Int)==102)=false:=bqF (by have:=A0k a;simp at this;omega);clear a;by_cases d:c=116
 ·rw[if_pos d]
  have G:((c.toNat:Int)==116)=true:=by rw[d];rfl
  clear d;have g:=hid (B0s B u v r t s 2 [114,117,101] w h x i);clear h;go_enter Tryz.func139,Tryz.ntmps139
  go_wp2_with fail
  refine Calls.mono g.out ?_;rintro e y ⟨rfl,k⟩;have l:=hid k;clear k;go_wp2;go_end0;exact⟨rfl,l.out⟩
 rw[if_neg d];have G:((c.toNat:Int)==116)=false:=bqF (by have:=A0k d;simp at this;omega);clear d;by_cases m:c=34
 ·rw[if_pos m]
  have L:((c.toNat:Int)==34)=true:=by rw[m];rfl
  clear m;have l:=hid (H.cell 4 (.int .i64 9) (C1m s 9) rfl rfl rfl rfl rfl);clear h;go_enter Tryz.func139,Tryz.ntmps139;go_wp2;go_end0;exact⟨rfl,_,_,_,_,l.out,x.q _⟩
 rw[if_neg m];have L:((c.toNat:Int)==34)=false:=bqF (by have:=A0k m;simp at this;omega);clear m;by_cases o:c=91
 ·rw[if_pos o]
  have M:((c.toNat:Int)==91)=true:=by rw[o];rfl
  clear o;have p:=B4n B u v r t s 5 1 w h x i A;clear h;cases hr:A6b s 5 1 with
  |error n=>
   rw[hr]at p;have g:=hid p;clear p hr;go_enter Tryz.func139,Tryz.ntmps139
   go_wp2_with fail
   refine Calls.mono g.out ?_;rintro e y ⟨rfl,K⟩;exact⟨rfl,rfl,K⟩
  |ok s'=>
   rw[hr]at p;have g:=hid p;clear p hr;go_enter Tryz.func139,Tryz.ntmps139
   go_wp2_with fail
   refine Calls.mono g.out ?_;rintro e y ⟨rfl,k⟩;have l:=hid k;clear k;go_wp2;go_end0;exact⟨rfl,l.out⟩
 rw[if_neg o];have M:((c.toNat:Int)==91)=false:=bqF (by have:=A0k o;simp at this;omega);clear o;by_cases f:c=123
 ·rw[if_pos f]
  have I:((c.toNat:Int)==123)=true:=by rw[f];rfl
  clear f;have p:=B4n B u v r t s 6 3 w h x i A;clear h;cases hr:A6b s 6 3 with
  |error n=>
   rw[hr]at p;have g:=hid p;clear p hr;go_enter Tryz.func139,Tryz.ntmps139
   go_wp2_with fail
   refine Calls.mono g.out ?_;rintro e y ⟨rfl,K⟩;exact⟨rfl,rfl,K⟩
  |ok s'=>
   rw[hr]at p;have g:=hid p;clear p hr;go_enter Tryz.func139,Tryz.ntmps139
   go_wp2_with fail
   refine Calls.mono g.out ?_;rintro e y ⟨rfl,k⟩;have l:=hid k;clear k;go_wp2;go_end0;exact⟨rfl,l.out⟩
 rw[if_neg f];have I:((c.toNat:Int)==123)=false:=bqF (by have:=A0k f;simp at this;omega);clear f;by_cases z:beh s.tok.st c=0
 ·have D:nxt s.tok c=none:=by rw[nxt,if_pos z]
  rw[D];have g:=hid (B9g 0 B 8 113 _ r s.tok c w (by rw[O.out];decide) h.tkAt z);clear h z D;go_enter Tryz.func139,Tryz.ntmps139
  go_wp2_with fail
  refine Calls.mono g.out ?_;rintro e y ⟨rfl,rfl⟩;go_wp2;exact⟨rfl,rfl,B5p.same P.out (Fr.refl _ _)⟩
 ·have D:nxt s.tok c=some (A4q s.tok c (beh s.tok.st c)):=by rw[nxt,if_neg z]
  rw[D];have g:=hid (B9h 0 B 8 113 _ r s.tok c w 0 (by decide) (by omega) (by omega) (by rw[O.out];exact E9g) h.tkAt z);generalize A4q s.tok c (beh s.tok.st c)=t' at*;clear h z D;go_enter Tryz.func139,Tryz.ntmps139
  go_wp2_with fail
  refine Calls.mono g.out ?_;rintro e y ⟨rfl,k⟩;obtain⟨N,J⟩:=H.tok x.2 k;have T:=A0a J.pr.blk (show(A0f ⟨s.depth,s.came,s.st,s.items,s.opn,s.word,t',s.tx⟩ u v N t)[4]? =some (.int .i64 (s.st:Int))from rfl);have R:=A0b (j:=4) J.pr.blk;have l:=hid (J.cell 4 (.int .i64 7) ⟨s.depth,s.came,7,s.items,s.opn,s.word,t',s.tx⟩ rfl rfl rfl rfl rfl);clear k J;go_wp2;go_end0;exact⟨rfl,_,_,_,_,l.out,λh=>absurd rfl h,λ_ _=>x.2⟩
end Go.Proofs.YtmkkibaacclhnaaGreatDoor
