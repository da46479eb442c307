/-
  Part Vr.
-/
import Derived.Test.YtmkkibaacclhnaaGreatDoorVo
import Derived.Test.YtmkkibaacclhnaaGreatDoorWq
namespace Go.Proofs.YtmkkibaacclhnaaGreatDoor
open Go.RowKit
set_option maxRecDepth 100000
set_option maxHeartbeats 16000000
structure PIn (w:World) (B g ig cap:Nat) (its:List Im) (beh:List Nat) (nx ind:Int) (so:Bool) (op:Nat) (ad vo:Value) (bs:LU8):Prop where
 wat:WAt B w (.slice (some ⟨ig,0,none⟩) its.length cap) (.slice (some ⟨g,0,none⟩) its.length its.length) nx ind so op ad vo bs
 items:B9r w (.slice (some ⟨ig,0,none⟩) its.length cap) its
 row:w.ownsRow 0 3 1 (.slice (some ⟨g,0,none⟩) its.length its.length) its.length (beh.map D1w)
 beh:C2b beh its 0 its.length
theorem PIn.fr {w w':World} {B g d cap:Nat} {its:List Im} {beh:List Nat} {i a:Int} {so:Bool} {c:Nat} {f e:Value} {bs:LU8} (h:PIn w B g d cap its beh i a so c f e bs) (b:Fr (λ_=>False) w w'):PIn w' B g d cap its beh i a so c f e bs:=
 ⟨h.wat.fr b,h.items.fr b (λ_ _=>id),A7e h.row b (λ_ _=>id),h.beh⟩
theorem PIn.cells {w:World} {B g a cap:Nat} {its:List Im} {beh:List Nat} {j d:Int} {so:Bool} {e:Nat} {i f:Value} {bs:LU8} (h:PIn w B g a cap its beh j d so e i f bs) {p:Nat} {x:Im} (c:its[p]? =some x):
 w.cell? ⟨a,p*4,none⟩=some (.int .i64 x.k)/\w.cell? ⟨a,p*4+1,none⟩=some (.int .i64 x.n)/\w.cell? ⟨a,p*4+2,none⟩=some (.int .u64 (x.b:Int))/\w.cell? ⟨a,p*4+3,none⟩=some (.string (ofL x.s)):=
 ⟨A2c h.items (p*4) _ (A4y its p 0 x c (by omega)),A2c h.items (p*4+1) _ (A4y its p 1 x c (by omega)),A2c h.items (p*4+2) _ (A4y its p 2 x c (by omega)),A2c h.items (p*4+3) _ (A4y its p 3 x c (by omega))⟩
theorem PIn.wcells {w:World} {B g c cap:Nat} {its:List Im} {beh:List Nat} {f a:Int} {so:Bool} {b:Nat} {e d:Value} {bs:LU8} (h:PIn w B g c cap its beh f a so b e d bs):
 w.cell? ⟨B,0,none⟩=some (.slice (some ⟨c,0,none⟩) its.length cap)/\w.cell? ⟨B,1,none⟩=some (.slice (some ⟨g,0,none⟩) its.length its.length)/\w.cell? ⟨B,4,none⟩=some (.bool so)/\w.cell? ⟨B,5,none⟩=some (.int .i64 (b:Int))/\∀j,w.frozen? ⟨B,j,none⟩=false:=
 ⟨A0a h.wat.blk rfl,A0a h.wat.blk rfl,A0a h.wat.blk rfl,A0a h.wat.blk rfl,λ_=>A0b h.wat.blk⟩
theorem PIn.behAt {w:World} {B g j cap:Nat} {its:List Im} {beh:List Nat} {l b:Int} {so:Bool} {i:Nat} {m e:Value} {bs:LU8} (h:PIn w B g j cap its beh l b so i m e bs) {d q:Nat} (f:d<=1000) (k:A0i d (its.drop q)≠0):q<its.length/\w.cell? ⟨g,q,none⟩=some (.int .i64 ((q+A0i d (its.drop q):Nat):Int)):=by
 have c:=A5w d (its.drop q);rw[List.length_drop]at c;have a:q<its.length:=by omega
 refine⟨a,?_⟩;have:=h.beh q (Nat.zero_le _) a;rw[B2b d 1000 _ k f]at this;exact A2c h.row q _ (by rw[List.getElem?_map,this];rfl)
theorem PIn.nextA {w:World} {B g i cap:Nat} {its:List Im} {beh:List Nat} {j b:Int} {so:Bool} {f:Nat} {k c:Value} {bs:LU8} (h:PIn w B g i cap its beh j b so f k c bs) {d q:Nat} (e:d<=1000) (a:A7n d its false q):q<its.length/\w.cell? ⟨g,q,none⟩=some (.int .i64 ((B0i d its false q:Nat):Int)):=by
 unfold A7n at a;unfold B0i;simp only[Bool.false_eq_true,if_false]at a ⊢;exact h.behAt e a
theorem PIn.nextO {w:World} {B g n cap:Nat} {its:List Im} {beh:List Nat} {r c:Int} {so:Bool} {m:Nat} {s k:Value} {bs:LU8} (h:PIn w B g n cap its beh r c so m s k bs) {d q:Nat} (l:d<=1000) (a:A7n d its true q):q<its.length/\w.cell? ⟨g,q,none⟩=some (.int .i64 ((q:Int)+1))/\q+1<its.length/\w.cell? ⟨g,q+1,none⟩=some (.int .i64 ((B0i d its true q:Nat):Int)):=by
 unfold A7n at a;unfold B0i;simp only[if_true]at a ⊢;obtain⟨x,f,y,p,o⟩:=a;obtain⟨t,v⟩:=h.behAt l o;have e:=(List.getElem?_eq_some_iff.1 f).1
 have b:its.drop q=x::its.drop (q+1):=by
  rw[List.drop_eq_getElem_cons e,(List.getElem?_eq_some_iff.1 f).2]
 have i:A0i 0 (its.drop q)=1:=by rw[b,A0i,if_pos ⟨p,by omega⟩]
 obtain⟨u,j⟩:=h.behAt (d:=0) (q:=q) (by omega) (by rw[i];omega);rw[i,show(((q+1:Nat)):Int)=(q:Int)+1 by omega]at j;exact⟨u,j,t,v⟩
structure PlSt (w wr:World) (N:Nat) (vi:Value) (L:List Nat):Prop where
 fr:Fr (λ_=>False) w wr
 box:wr.heap[w.heap.size]? =some (.cells #[vi] 22 (0,0))
 row:wr.ownsRow 0 3 1 (.slice (some ⟨w.heap.size+1,0,none⟩) N N) N (L.map D1w)
theorem PlSt.start (w:World) (N:Nat) (a:Value) (c:N<=10000000):PlSt w ((w.alloc (.cells #[a] 22)).alloc (.cells (madeCells #[Value.int .i64 0] N) 3)).drew N a (List.replicate N 0):=by
 have d:=heap_alloc_new w (.cells #[a] 22);have b:=D0e (w.alloc (.cells #[a] 22)) N c;rw[show(w.alloc (.cells #[a] 22)).heap.size=w.heap.size+1 by simp]at b;exact⟨(((Fr.refl _ w).alloc _).alloc _).drew,((Fr.refl (λ_=>False) (w.alloc (.cells #[a] 22))).alloc (.cells (madeCells #[Value.int .i64 0] N) 3)).heap d id,b⟩
theorem PlSt.put {w wr:World} {N:Nat} {a:Value} {L:List Nat} (h:PlSt w wr N a L) (i q:Nat):PlSt w (wr.setCell ⟨w.heap.size+1,i,none⟩ (.int .i64 (q:Int))) N a (L.set i q):=by
 have b:Fr (λj=>j=w.heap.size+1) wr (wr.setCell ⟨w.heap.size+1,i,none⟩ (.int .i64 (q:Int))):=(Fr.refl (λj=>j=w.heap.size+1) wr).setCell (p:=⟨w.heap.size+1,i,none⟩) (.inl rfl) _;refine⟨h.fr.setCell (p:=⟨w.heap.size+1,i,none⟩) (.inr (Nat.le_succ _)) _,b.heap h.box (by omega),?_⟩;have:=B1s h.row i (D1w q);rw[<-List.map_set]at this;exact this
theorem PlSt.at_ {w wr:World} {N:Nat} {a:Value} {L:List Nat} (h:PlSt w wr N a L) {i:Nat} (c:i<N):(∃m:Nat,wr.cell? ⟨w.heap.size+1,i,none⟩=some (.int .i64 (m:Int)))/\wr.frozen? ⟨w.heap.size+1,i,none⟩=false:=by
 have b:L.length=N:=by simpa using h.row.1
 exact⟨⟨L[i]'(by omega),A2c h.row i _ (by rw[List.getElem?_map,List.getElem?_eq_getElem (by omega)];rfl)⟩,C5k h.row i⟩
theorem D3d (a:List Nat) (k q:Nat):(a++List.replicate (k+1) 0).set a.length q=(a++[q])++List.replicate k 0:=by
 rw[List.set_append_right _ _ (Nat.le_refl _),Nat.sub_self,List.replicate_succ,List.set_cons_zero,List.append_assoc];rfl
def B7i (w:World) (N:Nat) (L:List Nat) (e:Ending) (w':World):Prop:=
 ∃h,e=.returned (.slice (some ⟨h,0,none⟩) N N)/\Fr (λ_=>False) w w'/\w.heap.size<=h/\w'.ownsRow 0 3 1 (.slice (some ⟨h,0,none⟩) N N) N (L.map D1w)
theorem E6n (d:Nat) (w:World) (B g K cap:Nat) (its:List Im) (beh:List Nat) (nx M:Int) (so:Bool) (op:Nat) (ad vo:Value) (bs:LU8) (p N b m:Nat) (s:LU8) (h:PIn w B g K cap its beh nx M so op ad vo bs) (hd:d<=1000) (hl:its.length<=10000000) (D:its[p]? =some ⟨5,(N:Int),b,s⟩) (hN:N<=its.length) (x:A0m (A0i d) false N (its.drop (p+1))=some m):
 Calls Tryz.prog 73 #[.pointer (some ⟨B,0,none⟩),.int .i64 (p:Int)] w (B7i w N (D9f (A5y its) false (A1n d its false N (p+1)))):=by
 obtain⟨y,a⟩:∃y,A1n d its false N (p+1)=y:=⟨_,rfl⟩;rw[a];have a4:=run_make_row' (P:=Tryz.prog) 59 3 (.int .i64 0) 8 Tryz.underlying59 Tryz.info3B rfl .i64 .i64 N (by omega) (by omega);have hp:p<its.length:=(List.getElem?_eq_some_iff.1 D).1;obtain⟨Z,W,X,-,cf⟩:=h.wcells;obtain⟨V,R,-,-⟩:=h.cells D;have T:=λo=>(h.fr ((Fr.refl (λ_=>False) w).alloc o)).wcells.1
 have Q:=λo=>(h.fr ((Fr.refl (λ_=>False) w).alloc o)).wcells.2.1
 have S:=λo=>((h.fr ((Fr.refl (λ_=>False) w).alloc o)).cells D).1
 have U:=λo=>((h.fr ((Fr.refl (λ_=>False) w).alloc o)).cells D).2.1
 have Y:=hid (show([]:List Nat)++A1n d its false (N-0) (p+1)=y from a);have A:=hid (show∃m,A0m (A0i d) false (N-0) (its.drop (p+1))=some m from⟨m,x⟩);have v:=hid (PlSt.start w N (.slice (some ⟨K,0,none⟩) its.length cap) (by omega));have F:=hid (λwr (hf:Fr (λ_=>False) w wr)=>h.fr hf);clear h D x a;simp only at V R S U;obtain⟨n,J⟩:∃n,its.length=n:=⟨_,rfl⟩;rw[J]at hp hl Z W v hN;simp only[J]at T Q;go_enter Tryz.func73,Tryz.ntmps73;go_wp2;go_region;go_wp2
 go_loopw [9,37] (λnv iv wr=>∃(i q:Nat) (e:List Nat),nv=.int .i64 (q:Int)/\iv=.int .i64 (i:Int)/\i<=N/\Hid (e.length=i)/\Hid (e++A1n d its false (N-i) q=y)/\Hid (∃m,A0m (A0i d) false (N-i) (its.drop q)=some m)/\Hid (PlSt w wr N (.slice (some ⟨K,0,none⟩) n cap) (e++List.replicate (N-i) 0))) (λ_ iv _=>N-(intOf iv).toNat)
 case atStart=>exact⟨0,p+1,[],by simp,rfl,Nat.zero_le _,hid rfl,Y,A,v⟩
 case round=>
  clear Y A v Z W X cf V R T Q S U;obtain⟨i,q,e,rfl,rfl,a3,f,a,L,H⟩:=hrel;by_cases hi:i<N
  ·have hz:(i:Int)<(N:Int):=by omega
   obtain⟨c,I⟩:∃c,N-i=c+1:=⟨N-i-1,by omega⟩;obtain⟨m,x⟩:=L.out;rw[I]at x;obtain⟨C,-,m',z,-⟩:=B0j x;have O:=hid (show∃m,A0m (A0i d) false c (its.drop (B0i d its false q))=some m from⟨m',z⟩)
   have E:=hid (show(e++[q])++A1n d its false c (B0i d its false q)=y from by
    rw[<-a.out,I,List.append_assoc];rfl)
   have k:=H.out;rw[I]at k;obtain⟨⟨m0,a0⟩,a1⟩:=k.at_ hi;have j:=k.put i q;rw[<-f.out,D3d,f.out]at j;have r:=hid j;have G:=F.out _ j.fr;obtain⟨q1,q2⟩:=G.nextA hd C;rw[J]at q1;have a2:(q:Int)<(n:Int):=by omega
   generalize B0i d its false q=q' at*;have u:=hid (show(e++[q]).length=i+1 by rw[List.length_append,f.out];rfl);clear C x z L a H k j G f;go_wp2;go_roundw
   case rel=>
    refine⟨i+1,q',e++[q],rfl,by simp,by omega,u,hid ?_,hid ?_,hid ?_⟩
    ·rw[show N-(i+1)=c by omega];exact E.out
    ·rw[show N-(i+1)=c by omega];exact O.out
    ·rw[show N-(i+1)=c by omega];exact r.out
   case measure=>simp only[intOf];omega
  ·obtain rfl:i=N:=by omega
   have hz:¬(i:Int)<(i:Int):=by omega
   have t:e=y:=by have:=a.out;rw[Nat.sub_self]at this;simpa[A1n]using this
   have l:=H.out;rw[Nat.sub_self,List.replicate_zero,List.append_nil,t]at l;have r:=hid l;obtain⟨-,-,X,-,-⟩:=(F.out _ l.fr).wcells;clear l a L t f H;go_wp2;go_ret;refine⟨_,rfl,r.fr,by omega,?_⟩;rw[B6s];exact r.row
theorem D9i (d:Nat) (w:World) (B g M cap:Nat) (its:List Im) (beh:List Nat) (nx L:Int) (op:Nat) (ad vo:Value) (bs:LU8) (p N b m:Nat) (s:LU8) (h:PIn w B g M cap its beh nx L false op ad vo bs) (hd:d<=1000) (hl:its.length<=10000000) (z:its[p]? =some ⟨6,(N:Int),b,s⟩) (hN:N<=its.length) (x:A0m (A0i d) true N (its.drop (p+1))=some m):
 Calls Tryz.prog 73 #[.pointer (some ⟨B,0,none⟩),.int .i64 (p:Int)] w (B7i w N (D9f (A5y its) false (A1n d its true N (p+1)))):=by
 obtain⟨y,e⟩:∃y,A1n d its true N (p+1)=y:=⟨_,rfl⟩;rw[e];have a4:=run_make_row' (P:=Tryz.prog) 59 3 (.int .i64 0) 8 Tryz.underlying59 Tryz.info3B rfl .i64 .i64 N (by omega) (by omega);have hp:p<its.length:=(List.getElem?_eq_some_iff.1 z).1;obtain⟨Z,W,X,-,cf⟩:=h.wcells;obtain⟨S,Q,-,-⟩:=h.cells z;have R:=λo=>(h.fr ((Fr.refl (λ_=>False) w).alloc o)).wcells.1
 have Y:=λo=>(h.fr ((Fr.refl (λ_=>False) w).alloc o)).wcells.2.1
 have U:=λo=>((h.fr ((Fr.refl (λ_=>False) w).alloc o)).cells z).1
 have V:=λo=>((h.fr ((Fr.refl (λ_=>False) w).alloc o)).cells z).2.1
 have T:=hid (show([]:List Nat)++A1n d its true (N-0) (p+1)=y from e);have F:=hid (show∃m,A0m (A0i d) true (N-0) (its.drop (p+1))=some m from⟨m,x⟩);have v:=hid (PlSt.start w N (.slice (some ⟨M,0,none⟩) its.length cap) (by omega));have D:=hid (λwr (hf:Fr (λ_=>False) w wr)=>h.fr hf);clear h z x e;simp only at S Q U V;obtain⟨n,K⟩:∃n,its.length=n:=⟨_,rfl⟩;rw[K]at hp hl Z W v hN;simp only[K]at R Y;go_enter Tryz.func73,Tryz.ntmps73;go_wp2;go_region;go_wp2
 go_loopw [9,37] (λnv iv wr=>∃(i q:Nat) (f:List Nat),nv=.int .i64 (q:Int)/\iv=.int .i64 (i:Int)/\i<=N/\Hid (f.length=i)/\Hid (f++A1n d its true (N-i) q=y)/\Hid (∃m,A0m (A0i d) true (N-i) (its.drop q)=some m)/\Hid (PlSt w wr N (.slice (some ⟨M,0,none⟩) n cap) (f++List.replicate (N-i) 0))) (λ_ iv _=>N-(intOf iv).toNat)
 case atStart=>exact⟨0,p+1,[],by simp,rfl,Nat.zero_le _,hid rfl,T,F,v⟩
 case round=>
  clear T F v Z W X cf S Q R Y U V;obtain⟨i,q,f,rfl,rfl,a5,a,e,O,H⟩:=hrel;by_cases hi:i<N
  ·have hz:(i:Int)<(N:Int):=by omega
   obtain⟨c,I⟩:∃c,N-i=c+1:=⟨N-i-1,by omega⟩;obtain⟨m,x⟩:=O.out;rw[I]at x;obtain⟨A,-,m',G,-⟩:=B0j x;have J:=hid (show∃m,A0m (A0i d) true c (its.drop (B0i d its true q))=some m from⟨m',G⟩)
   have C:=hid (show(f++[q])++A1n d its true c (B0i d its true q)=y from by
    rw[<-e.out,I,List.append_assoc];rfl)
   have k:=H.out;rw[I]at k;obtain⟨⟨m0,a0⟩,a1⟩:=k.at_ hi;have j:=k.put i q;rw[<-a.out,D3d,a.out]at j;have r:=hid j;have E:=D.out _ j.fr;obtain⟨q1,q2,q3,q4⟩:=E.nextO hd A;rw[K]at q1 q3;have a2:(q:Int)<(n:Int):=by omega
   have a3:(q:Int)+1<(n:Int):=by omega
   generalize B0i d its true q=q' at*;have u:=hid (show(f++[q]).length=i+1 by rw[List.length_append,a.out];rfl);clear A x G O e H k j E a;go_wp2;go_roundw
   case rel=>
    refine⟨i+1,q',f++[q],rfl,by simp,by omega,u,hid ?_,hid ?_,hid ?_⟩
    ·rw[show N-(i+1)=c by omega];exact C.out
    ·rw[show N-(i+1)=c by omega];exact J.out
    ·rw[show N-(i+1)=c by omega];exact r.out
   case measure=>simp only[intOf];omega
  ·obtain rfl:i=N:=by omega
   have hz:¬(i:Int)<(i:Int):=by omega
   have t:f=y:=by have:=e.out;rw[Nat.sub_self]at this;simpa[A1n]using this
   have l:=H.out;rw[Nat.sub_self,List.replicate_zero,List.append_nil,t]at l;have r:=hid l;obtain⟨-,-,X,-,-⟩:=(D.out _ l.fr).wcells;clear l e O t a H;go_wp2;go_ret;refine⟨_,rfl,r.fr,by omega,?_⟩;rw[B6s];exact r.row
theorem D9j (d:Nat) (w:World) (B g Q cap:Nat) (its:List Im) (beh:List Nat) (nx a2:Int) (op:Nat) (ad vo:Value) (bs:LU8) (p N b m:Nat) (s:LU8) (h:PIn w B g Q cap its beh nx a2 true op ad vo bs) (hd:d<=1000) (hl:its.length<=10000000) (F:its[p]? =some ⟨6,(N:Int),b,s⟩) (hN:N<=its.length) (z:A0m (A0i d) true N (its.drop (p+1))=some m):
 Calls Tryz.prog 73 #[.pointer (some ⟨B,0,none⟩),.int .i64 (p:Int)] w (B7i w N (D9f (A5y its) true (A1n d its true N (p+1)))):=by
 obtain⟨u,f⟩:∃u,A1n d its true N (p+1)=u:=⟨_,rfl⟩;rw[f];have a6:=run_make_row' (P:=Tryz.prog) 59 3 (.int .i64 0) 8 Tryz.underlying59 Tryz.info3B rfl .i64 .i64 N (by omega) (by omega);have hp:p<its.length:=(List.getElem?_eq_some_iff.1 F).1;obtain⟨c0,c1,c4,-,cf⟩:=h.wcells;obtain⟨x0,x1,-,-⟩:=h.cells F;have e0:=λo=>(h.fr ((Fr.refl (λ_=>False) w).alloc o)).wcells.1
 have e1:=λo=>(h.fr ((Fr.refl (λ_=>False) w).alloc o)).wcells.2.1
 have y0:=λo=>((h.fr ((Fr.refl (λ_=>False) w).alloc o)).cells F).1
 have y1:=λo=>((h.fr ((Fr.refl (λ_=>False) w).alloc o)).cells F).2.1
 have H0:=hid (show([]:List Nat)++A1n d its true (N-0) (p+1)=u from f);have R:=hid (show∃m,A0m (A0i d) true (N-0) (its.drop (p+1))=some m from⟨m,z⟩);have E:=hid (PlSt.start w N (.slice (some ⟨Q,0,none⟩) its.length cap) (by omega));have H:=hid (λwr (hf:Fr (λ_=>False) w wr)=>h.fr hf);have A:=hid (show u.Pairwise (·< ·)from by rw[<-f];exact(C0v d its true N (p+1) m z).1);have a3:=hid (show∀y,y∈u->y<its.length fromλy hy=>by rw[<-f]at hy;exact((C0v d its true N (p+1) m z).2.1 y hy).2.lt);have Y:=hid (B2a h.items);clear h F z f;simp only at x0 x1 y0 y1;obtain⟨n,U⟩:∃n,its.length=n:=⟨_,rfl⟩;rw[U]at hp hl c0 c1 E hN;simp only[U]at e0 e1;go_enter Tryz.func73,Tryz.ntmps73;go_wp2;go_region;go_wp2
 go_loopw [9,37] (λnv iv wr=>∃(i q:Nat) (l:List Nat),nv=.int .i64 (q:Int)/\iv=.int .i64 (i:Int)/\i<=N/\Hid (l.length=i)/\Hid (l++A1n d its true (N-i) q=u)/\Hid (∃m,A0m (A0i d) true (N-i) (its.drop q)=some m)/\Hid (PlSt w wr N (.slice (some ⟨Q,0,none⟩) n cap) (l++List.replicate (N-i) 0))) (λ_ iv _=>N-(intOf iv).toNat)
 case atStart=>exact⟨0,p+1,[],by simp,rfl,Nat.zero_le _,hid rfl,H0,R,E⟩
 case round=>
  clear H0 R E c0 c1 c4 cf x0 x1 e0 e1 y0 y1;obtain⟨i,q,l,rfl,rfl,a7,k,f,hM,V⟩:=hrel;by_cases hi:i<N
  ·have hz:(i:Int)<(N:Int):=by omega
   obtain⟨c,W⟩:∃c,N-i=c+1:=⟨N-i-1,by omega⟩;obtain⟨m,z⟩:=hM.out;rw[W]at z;obtain⟨K,-,m',T,-⟩:=B0j z;have X:=hid (show∃m,A0m (A0i d) true c (its.drop (B0i d its true q))=some m from⟨m',T⟩)
   have L:=hid (show(l++[q])++A1n d its true c (B0i d its true q)=u from by
    rw[<-f.out,W,List.append_assoc];rfl)
   have v:=V.out;rw[W]at v;obtain⟨⟨m0,a0⟩,a1⟩:=v.at_ hi;have t:=v.put i q;rw[<-k.out,D3d,k.out]at t;have I:=hid t;have O:=H.out _ t.fr;obtain⟨q1,q2,q3,q4⟩:=O.nextO hd K;rw[U]at q1 q3;have a4:(q:Int)<(n:Int):=by omega
   have a5:(q:Int)+1<(n:Int):=by omega
   generalize B0i d its true q=q' at*;have D:=hid (show(l++[q]).length=i+1 by rw[List.length_append,k.out];rfl);clear K z T hM f V v t O k;go_wp2;go_roundw
   case rel=>
    refine⟨i+1,q',l++[q],rfl,by simp,by omega,D,hid ?_,hid ?_,hid ?_⟩
    ·rw[show N-(i+1)=c by omega];exact L.out
    ·rw[show N-(i+1)=c by omega];exact X.out
    ·rw[show N-(i+1)=c by omega];exact I.out
   case measure=>simp only[intOf];omega
  ·obtain rfl:i=N:=by omega
   have hz:¬(i:Int)<(i:Int):=by omega
   have C:l=u:=by have:=f.out;rw[Nat.sub_self]at this;simpa[A1n]using this
   have r:=V.out;rw[Nat.sub_self,List.replicate_zero,List.append_nil,C]at r;have I:=hid r;obtain⟨-,-,c4,-,-⟩:=(H.out _ r.fr).wcells
   have G:=hid (C1w wr wr (w.heap.size+1) i i w.heap.size (λx=>x<its.length) (λa b=>Lib.compareBytes (A5y its a) (A5y its b)) (KO (A5y its)) (KO.tr (A5y its)) u ⟨Fr.refl _ _,r.row⟩ (A.imp (λ{a b} hab=>KO.cf (A5y its) a b hab)) a3.out
    (λx y F hy w3 hf3=>F7h w3 w.heap.size x y (.slice (some ⟨Q,0,none⟩) its.length cap) its (by rw[U];exact hf3.heap r.box (by omega)) ((H.out _ r.fr).items.fr hf3 (by
      rintro j hj rfl;have h1:=Y.out;have h2:Q=w.heap.size+1:=by simpa[Value.ownBlock]using hj
      omega)) F hy (by omega)) (by omega))
   clear r f hM C k V
   go_wp2_with (first|(go_at_call 128;refine Calls.mono G.out ?_;rintro e w4 ⟨rfl,Z,S,J,M⟩;have HZ:=hid (And.intro S (And.intro J M));clear S J M)|fail)
   go_ret;obtain⟨z1,z2,z3⟩:=HZ.out;refine⟨_,rfl,I.fr.trans' z3.fr (by rintro j rfl;exact .inr (by omega)),by omega,?_⟩;rw[<-F3c (A5y its) u Z A.out z1 z2];exact z3.row
theorem A2d.keepR {B:Nat} {w w':World} {l m:Value} {j a:Int} {so:Bool} {f:Nat} {s e V:Value} {bs b:LU8} {n:Nat} {xs:List Value} (h:A2d B w l m j a so f e b w') (k:WAt B w l m j a so f s e bs) (d:w.ownsRow 0 3 1 V n xs):w'.ownsRow 0 3 1 V n xs:=by
 obtain⟨r,v,u,x⟩:=h;refine A7e d u (λi hi=>?_);rintro(h|h)
 ·subst h
  exact A8y d k.blk (by decide) hi
 ·rcases d.2 with⟨q,_⟩|⟨g,cap,o,t,_,p,_⟩
  ·rw[q]at hi;cases hi
  ·rw[t]at hi
   have c:g=i:=by simpa[Value.ownBlock]using hi
   subst c;exact A8y k.row p (by decide) h
structure WS (w wr:World) (B g ig cap:Nat) (its:List Im) (beh:List Nat) (nx ind:Int) (so:Bool) (op:Nat) (vo0 vo:Value) (bs:LU8):Prop where
 pin:PIn wr B g ig cap its beh nx ind so op (.pointer (some ⟨B,6,none⟩)) vo bs
 fr:Fr (λi=>i=B\/vo0.ownBlock=some i) w wr
 nw:∀k,vo.ownBlock=some k->vo0.ownBlock=some k\/w.heap.size<=k
section
variable {w wr w2:World} {B g ig cap:Nat} {its:List Im} {beh:List Nat} {nx ind:Int} {so:Bool} {op:Nat} {ad vo0 vo:Value} {bs bs2:LU8}
theorem WS.post (h:WS w wr B g ig cap its beh nx ind so op vo0 vo bs):A2d B w (.slice (some ⟨ig,0,none⟩) its.length cap) (.slice (some ⟨g,0,none⟩) its.length its.length) nx ind so op vo0 bs wr:=⟨vo,h.pin.wat,h.fr,h.nw⟩
theorem PIn.step (h:PIn w B g ig cap its beh nx ind so op ad vo bs) (k:A2d B w (.slice (some ⟨ig,0,none⟩) its.length cap) (.slice (some ⟨g,0,none⟩) its.length its.length) nx ind so op vo bs2 w2):∃a,WS w w2 B g ig cap its beh nx ind so op vo a bs2:=by
 have b:=k.keepI h.wat h.items;have c:=k.keepR h.wat h.row;obtain⟨a,d,f,e⟩:=k;exact⟨a,⟨d,b,c,h.beh⟩,f,e⟩
theorem WS.step (h:WS w wr B g ig cap its beh nx ind so op vo0 vo bs) (k:A2d B wr (.slice (some ⟨ig,0,none⟩) its.length cap) (.slice (some ⟨g,0,none⟩) its.length its.length) nx ind so op vo bs2 w2):∃a,WS w w2 B g ig cap its beh nx ind so op vo0 a bs2:=by
 have b:=k.keepI h.pin.wat h.pin.items;have c:=k.keepR h.pin.wat h.pin.row;obtain⟨a,d,f,e⟩:=A2d.trans h.fr h.nw k;exact⟨a,⟨d,b,c,h.pin.beh⟩,f,e⟩
theorem WS.same (h:WS w wr B g ig cap its beh nx ind so op vo0 vo bs) (a:Fr (λ_=>False) wr w2):WS w w2 B g ig cap its beh nx ind so op vo0 vo bs:=⟨h.pin.fr a,h.fr.trans (a.mono (λ_=>False.elim)),h.nw⟩
theorem PIn.ws (h:PIn w B g ig cap its beh nx ind so op (.pointer (some ⟨B,6,none⟩)) vo bs):WS w w B g ig cap its beh nx ind so op vo vo bs:=⟨h,Fr.refl _ _,λ_ hk=>.inl hk⟩
theorem PIn.setOp (h:PIn wr B g ig cap its beh nx ind so op ad vo bs) (k:Nat):PIn (wr.setCell ⟨B,5,none⟩ (.int .i64 (k:Int))) B g ig cap its beh nx ind so k ad vo bs:=by
 refine⟨⟨heap_setCell_same wr B 5 _ 69 _ h.wat.blk,h.wat.adr,A0q h.wat.row (A8y h.wat.row h.wat.blk (by decide)) _⟩,A0q h.items (A8y h.items h.wat.blk (by decide)) _,A0q h.row (A8y h.row h.wat.blk (by decide)) _,h.beh⟩
theorem WS.setOp (h:WS w wr B g ig cap its beh nx ind so op vo0 vo bs) (k:Nat):WS w (wr.setCell ⟨B,5,none⟩ (.int .i64 (k:Int))) B g ig cap its beh nx ind so k vo0 vo bs:=
 ⟨h.pin.setOp k,h.fr.setCell (p:=⟨B,5,none⟩) (.inl (.inl rfl)) _,h.nw⟩
theorem WS.rowOp (h:WS w wr B g ig cap its beh nx ind so op vo0 vo bs) {V:Value} {n:Nat} {xs:List Value} (a:wr.ownsRow 0 3 1 V n xs) (u:Value):(wr.setCell ⟨B,5,none⟩ u).ownsRow 0 3 1 V n xs:=A0q a (A8y a h.pin.wat.blk (by decide)) u
end
def C0x (d:Nat):Prop:=∀(w:World) (B g ig cap:Nat) (its:List Im) (beh:List Nat) (nx ind:Int) (so:Bool) (op:Nat) (ad vo:Value) (bs:LU8) (p:Nat),PIn w B g ig cap its beh nx ind so op ad vo bs->op+d=1000-> -1<=ind->ind<=16->its.length<=10000000->(∀x,x∈its->x.s.length<=100000000)->Bok its->A0i d (its.drop p)≠0->bs.length+(wrD ind so d (its.drop p)).length<=90000000000->
 Calls Tryz.prog 26 #[.pointer (some ⟨B,0,none⟩),.int .i64 (p:Int)] w λe w'=>e=.returned (.tuple #[])/\A2d B w (.slice (some ⟨ig,0,none⟩) its.length cap) (.slice (some ⟨g,0,none⟩) its.length its.length) nx ind so op vo (bs++wrD ind so d (its.drop p)) w'
theorem C0y (a:Int) (inn:Nat) (f:Bool) (t:LU8) (b:List (LU8)):A2r a inn f (t::b)=(if f=true then[]else[44])++A6p a inn++t++A2r a inn false b:=rfl
theorem C2c (d:Nat) (IH:C0x d) (w:World) (B g ig cap:Nat) (its:List Im) (beh:List Nat) (G a:Int) (so:Bool) (c:Nat) (vo:Value) (bs:LU8) (p N b:Nat) (s:LU8) (L:List Nat) (h:PIn w B g ig cap its beh G a so c (.pointer (some ⟨B,6,none⟩)) vo bs) (d4:c+(d+1)=1000) (P: -1<=a) (K:a<=16) (hl:its.length<=10000000) (hs:∀x,x∈its->x.s.length<=100000000) (hb:Bok its) (hx:its[p]? =some ⟨5,(N:Int),b,s⟩) (d9:N≠0) (hN:N<=its.length)
 (hL:∀y,y∈L->A7n d its false y) (b7:L.length=N) (a9:Calls Tryz.prog 73 #[.pointer (some ⟨B,0,none⟩),.int .i64 (p:Int)] w (B7i w N L))
 (X:bs.length+(A2r a (c+1) true (L.map (λy=>(A7y d a so its false y).2))++A6p a c).length<=90000000000):
 Calls Tryz.prog 45 #[.pointer (some ⟨B,0,none⟩),.int .i64 (p:Int)] w λe w'=>e=.returned (.tuple #[])/\A2d B w (.slice (some ⟨ig,0,none⟩) its.length cap) (.slice (some ⟨g,0,none⟩) its.length its.length) G a so c vo (bs++(A2r a (c+1) true (L.map (λy=>(A7y d a so its false y).2))++A6p a c)) w':=by
 obtain⟨z,C⟩:∃z,bs++A2r a (c+1) true (L.map (λy=>(A7y d a so its false y).2))=z:=⟨_,rfl⟩;have c2:z.length+(A6p a c).length<=90000000000:=by rw[<-C];simp only[List.length_append]at X ⊢;omega
 rw[<-List.append_assoc,C];have hp:p<its.length:=(List.getElem?_eq_some_iff.1 hx).1;have c9:=hid hx;have H:=hid h;have b6:=hid (show bs++A2r a (c+1) (decide (0=0)) ((L.drop 0).map (λy=>(A7y d a so its false y).2))=z from C);have HL:=hid hL;have HP:=hid a9;have b2:=hid hb;have c4:=hid hs;have b4:=hid IH;clear h hx hL a9 hb hs IH C X;have d6:((N:Int)==0)=false:=bqF (by omega);have Y:=hid b7;have a8:=hid c2;clear b7 c2;go_enter Tryz.func45,Tryz.ntmps45
 go_wp2_with fail
 refine Calls.mono HP.out ?_;rintro e w1 ⟨hh,rfl,a2,b5,R⟩;have D:=H.fr a2;have I:=hid (H.ws.same a2);have a3:=hid R;have d7:=hid b5;obtain⟨-,-,-,c5,cf⟩:=D.wcells;have b9:=hid (show WS w (w1.setCell ⟨B,5,none⟩ (.int .i64 ((c:Int)+1))) B g ig cap its beh G a so (c+1) vo vo bs from I.setOp (c+1));have S:=hid (I.rowOp R (.int .i64 ((c:Int)+1)));clear a2 b5 R D;go_wp2
 go_loopw [22] (λiv wr=>∃(i:Nat) (V:Value) (Q:LU8),iv=.int .i64 (i:Int)/\i<=N/\Hid (WS w wr B g ig cap its beh G a so (c+1) vo V Q)/\Hid (wr.ownsRow 0 3 1 (.slice (some ⟨hh,0,none⟩) N N) N (L.map D1w))/\Hid (Q++A2r a (c+1) (decide (i=0)) ((L.drop i).map (λy=>(A7y d a so its false y).2))=z)) (λiv _=>N-(intOf iv).toNat)
 case atStart=>exact⟨0,vo,bs,rfl,Nat.zero_le _,b9,S,b6⟩
 case round=>
  clear b6 b9 S c5 cf I a3;obtain⟨i,V,Q,rfl,e0,n,hR,hT⟩:=hrel;by_cases hi:i<N
  ·have hz:(i:Int)<(N:Int):=by omega
   have a5:i<L.length:=by rw[Y.out];exact hi
   obtain⟨q,hq⟩:∃q,L[i]=q:=⟨_,rfl⟩;have d0:q∈L:=hq▸List.getElem_mem a5;have r0:=A2c hR.out i (.int .i64 (q:Int)) (by rw[List.getElem?_map,List.getElem?_eq_getElem a5,hq];rfl);have c7:L.drop i=q::L.drop (i+1):=by rw[List.drop_eq_getElem_cons a5,hq]
   have m:=hT.out;rw[c7,List.map_cons,C0y]at m;have a0:=HL.out q d0;have e1:=hid a0;have c0:A0i d (its.drop q)≠0:=by simpa[A7n]using a0
   have ht:(A7y d a so its false q).2=wrD a so d (its.drop q):=rfl;rw[ht]at m;have u:=hid m;clear hT m c7 d0 a0 hq;have t:=a8.out;rw[<-u.out]at t;simp only[List.length_append]at t;have k:=hid t;by_cases W:i=0
   ·have d2:¬(0:Int)<(i:Int):=by omega
    have T:decide (i=0)=true:=dcT W;rw[T]at u k;simp only[if_true]at u;simp only[if_true,List.length_nil]at k;clear T W;have l:=hid n.out;have F:=hid hR.out;clear n hR
    go_wp2_with fail
    have o:=hid (A6s B _ _ _ G a so (c+1) _ _ l.pin.wat P K (by omega) (by have:=k.out;omega));refine Calls.mono o.out ?_;rintro e w3 ⟨rfl,A⟩;have E:=A.keepR l.pin.wat F.out;obtain⟨a1,j⟩:=l.step A;have f:=hid j;have M:=hid E;obtain⟨b0,b1,-,-,-⟩:=j.pin.wcells;obtain⟨x0,-,-,-⟩:=j.pin.cells c9.out;clear A E j o l F;simp only at x0;have d1:(p:Int)<(its.length:Int):=by omega
    go_wp2_with fail
    have r:=hid (b4.out w3 B g ig cap its beh G a so (c+1) _ a1 _ (q) f.pin (by omega) P K hl c4.out b2.out c0 (by have:=k.out;simp only[List.length_append];omega))
    (try simp only[Int.natCast_add,Int.cast_ofNat_Int]at r)
    refine Calls.mono r.out ?_;rintro e w5 ⟨rfl,v⟩;have J:=v.keepR f.pin.wat M.out;obtain⟨Z,O⟩:=f.step v;have a4:=hid O;have a7:=hid J;clear v J O r f M;go_wp2;go_roundw
    case rel=>
     refine⟨i+1,Z,_,by simp,by omega,a4,a7,hid ?_⟩;have hf:decide (i+1=0)=false:=dcF (by omega);rw[hf,<-u.out];simp only[List.append_assoc,List.nil_append]
    case measure=>simp only[intOf];omega
   ·have d2:(0:Int)<(i:Int):=by omega
    have T:decide (i=0)=false:=dcF W;rw[T]at u k;simp only[Bool.false_eq_true,if_false]at u;simp only[Bool.false_eq_true,if_false,List.length_singleton]at k;clear T W;have c8:=hid (show Calls Tryz.prog 44 #[.pointer (some ⟨B,6,none⟩),.int .u8 44] wr _ from A1r B wr _ _ G a so (c+1) _ V Q 44 n.pin.wat (by have:=k.out;omega))
    go_wp2_with fail
    refine Calls.mono c8.out ?_;rintro e w2 ⟨rfl,a6⟩;have c6:=a6.keepR n.pin.wat hR.out;obtain⟨d5,b8⟩:=n.step a6;have l:=hid b8;have F:=hid c6;clear a6 c6 b8 c8 n hR r0
    go_wp2_with fail
    have o:=hid (A6s B _ _ _ G a so (c+1) _ _ l.pin.wat P K (by omega) (by have:=k.out;simp only[List.length_append,List.length_singleton];omega));refine Calls.mono o.out ?_;rintro e w3 ⟨rfl,A⟩;have E:=A.keepR l.pin.wat F.out;obtain⟨a1,j⟩:=l.step A;have f:=hid j;have M:=hid E;obtain⟨b0,b1,-,-,-⟩:=j.pin.wcells;obtain⟨x0,-,-,-⟩:=j.pin.cells c9.out;clear A E j o l F;simp only at x0;have d1:(p:Int)<(its.length:Int):=by omega
    go_wp2_with fail
    have r:=hid (b4.out w3 B g ig cap its beh G a so (c+1) _ a1 _ (q) f.pin (by omega) P K hl c4.out b2.out c0 (by have:=k.out;simp only[List.length_append,List.length_singleton];omega))
    (try simp only[Int.natCast_add,Int.cast_ofNat_Int]at r)
    refine Calls.mono r.out ?_;rintro e w5 ⟨rfl,v⟩;have J:=v.keepR f.pin.wat M.out;obtain⟨Z,O⟩:=f.step v;have a4:=hid O;have a7:=hid J;clear v J O r f M;go_wp2;go_roundw
    case rel=>
     refine⟨i+1,Z,_,by simp,by omega,a4,a7,hid ?_⟩;have hf:decide (i+1=0)=false:=dcF (by omega);rw[hf,<-u.out];simp only[List.append_assoc]
    case measure=>simp only[intOf];omega
  ·obtain rfl:i=N:=by omega
   have hz:¬(i:Int)<(i:Int):=by omega
   have m:=hT.out;rw[List.drop_of_length_le (by rw[Y.out];exact Nat.le_refl _),List.map_nil]at m;have b3:Q=z:=by rw[<-m];simp[A2r]
   have U:=n.out;rw[b3]at U;obtain⟨-,-,-,c5,cf⟩:=U.pin.wcells;have HE:=hid (show WS w (wr.setCell ⟨B,5,none⟩ (.int .i64 (c:Int))) B g ig cap its beh G a so c vo V z from U.setOp c);have o:=hid (A6s B _ _ _ G a so c _ _ HE.pin.wat P K (by omega) (by have:=a8.out;omega));clear hT m b3 n hR U
   go_wp2_with fail
   refine Calls.mono o.out ?_;rintro e w6 ⟨rfl,c1⟩;obtain⟨d8,c3⟩:=HE.step c1;have d3:=hid c3;clear c1 c3;go_wp2;go_end0;exact⟨rfl,d3.post⟩
theorem C2d (d:Nat) (IH:C0x d) (w:World) (B g ig cap:Nat) (its:List Im) (beh:List Nat) (I a:Int) (so:Bool) (c:Nat) (vo:Value) (bs:LU8) (p N b:Nat) (s:LU8) (L:List Nat) (h:PIn w B g ig cap its beh I a so c (.pointer (some ⟨B,6,none⟩)) vo bs) (f1:c+(d+1)=1000) (W: -1<=a) (R:a<=16) (hl:its.length<=10000000) (hs:∀x,x∈its->x.s.length<=100000000) (hb:Bok its) (hx:its[p]? =some ⟨6,(N:Int),b,s⟩) (f6:N≠0) (hN:N<=its.length)
 (hL:∀y,y∈L->A7n d its true y) (d3:L.length=N) (c2:Calls Tryz.prog 73 #[.pointer (some ⟨B,0,none⟩),.int .i64 (p:Int)] w (B7i w N L))
 (a6:bs.length+(A2r a (c+1) true (L.map (λy=>(A7y d a so its true y).2))++A6p a c).length<=90000000000):
 Calls Tryz.prog 45 #[.pointer (some ⟨B,0,none⟩),.int .i64 (p:Int)] w λe w'=>e=.returned (.tuple #[])/\A2d B w (.slice (some ⟨ig,0,none⟩) its.length cap) (.slice (some ⟨g,0,none⟩) its.length its.length) I a so c vo (bs++(A2r a (c+1) true (L.map (λy=>(A7y d a so its true y).2))++A6p a c)) w':=by
 obtain⟨E,G⟩:∃E,bs++A2r a (c+1) true (L.map (λy=>(A7y d a so its true y).2))=E:=⟨_,rfl⟩;have d8:E.length+(A6p a c).length<=90000000000:=by rw[<-G];simp only[List.length_append]at a6 ⊢;omega
 rw[<-List.append_assoc,G];have hp:p<its.length:=(List.getElem?_eq_some_iff.1 hx).1;have e3:=hid hx;have H:=hid h;have c9:=hid (show bs++A2r a (c+1) (decide (0=0)) ((L.drop 0).map (λy=>(A7y d a so its true y).2))=E from G);have HL:=hid hL;have HP:=hid c2;have c3:=hid hb;have b4:=hid hs;have c7:=hid IH;clear h hx hL c2 hb hs IH G a6;have f3:((N:Int)==0)=false:=bqF (by omega);have a7:=hid d3;have c1:=hid d8;clear d3 d8;go_enter Tryz.func45,Tryz.ntmps45
 go_wp2_with fail
 refine Calls.mono HP.out ?_;rintro e w1 ⟨hh,rfl,b3,c8,Y⟩;have J:=H.fr b3;have P:=hid (H.ws.same b3);have b5:=hid Y;have f4:=hid c8;obtain⟨-,-,-,c5,cf⟩:=J.wcells;have d5:=hid (show WS w (w1.setCell ⟨B,5,none⟩ (.int .i64 ((c:Int)+1))) B g ig cap its beh I a so (c+1) vo vo bs from P.setOp (c+1));have Z:=hid (P.rowOp Y (.int .i64 ((c:Int)+1)));clear b3 c8 Y J;go_wp2
 go_loopw [22] (λiv wr=>∃(i:Nat) (a3:Value) (X:LU8),iv=.int .i64 (i:Int)/\i<=N/\Hid (WS w wr B g ig cap its beh I a so (c+1) vo a3 X)/\Hid (wr.ownsRow 0 3 1 (.slice (some ⟨hh,0,none⟩) N N) N (L.map D1w))/\Hid (X++A2r a (c+1) (decide (i=0)) ((L.drop i).map (λy=>(A7y d a so its true y).2))=E)) (λiv _=>N-(intOf iv).toNat)
 case atStart=>exact⟨0,vo,bs,rfl,Nat.zero_le _,d5,Z,c9⟩
 case round=>
  clear c9 d5 Z c5 cf P b5;obtain⟨i,a3,X,rfl,f7,t,hR,hT⟩:=hrel;by_cases hi:i<N
  ·have hz:(i:Int)<(N:Int):=by omega
   have b8:i<L.length:=by rw[a7.out];exact hi
   obtain⟨q,hq⟩:∃q,L[i]=q:=⟨_,rfl⟩;have e5:q∈L:=hq▸List.getElem_mem b8;have r0:=A2c hR.out i (.int .i64 (q:Int)) (by rw[List.getElem?_map,List.getElem?_eq_getElem b8,hq];rfl);have e1:L.drop i=q::L.drop (i+1):=by rw[List.drop_eq_getElem_cons b8,hq]
   have r:=hT.out;rw[e1,List.map_cons,C0y]at r;have a9:=HL.out q e5;have e4:=hid a9;obtain⟨xk,a5,d2,a2,d6⟩:∃x,its[q]? =some x/\x.k=4/\A0z x=true/\A0i d (its.drop (q+1))≠0:=by simpa[A7n]using a9
   have c6:A5y its q=xk.s:=C3w a5;have ht:(A7y d a so its true q).2=A7h a xk.s++wrD a so d (its.drop (q+1)):=by unfold A7y;rw[if_pos rfl,c6]
   rw[ht]at r
   have hU:isU xk.s=true:=by
    unfold A0z at a2;rw[if_neg (by omega),if_neg (by omega),if_pos d2]at a2;simp at a2;exact a2.2
   have f0:=b4.out xk (List.mem_of_getElem? a5);have A:=hid r;clear hT r e1 e5 a9 hq;have z:=c1.out;rw[<-A.out]at z;simp only[List.length_append]at z;have j:=hid z;by_cases a4:i=0
   ·have e7:¬(0:Int)<(i:Int):=by omega
    have a0:decide (i=0)=true:=dcT a4;rw[a0]at A j;simp only[if_true]at A;simp only[if_true,List.length_nil]at j;clear a0 a4;have o:=hid t.out;have M:=hid hR.out;clear t hR
    go_wp2_with fail
    have u:=hid (A6s B _ _ _ I a so (c+1) _ _ o.pin.wat W R (by omega) (by have:=j.out;omega));refine Calls.mono u.out ?_;rintro e w3 ⟨rfl,F⟩;have K:=F.keepR o.pin.wat M.out;obtain⟨b2,m⟩:=o.step F;have f:=hid m;have S:=hid K;obtain⟨b0,b1,-,-,-⟩:=m.pin.wcells;obtain⟨x0,-,-,-⟩:=m.pin.cells e3.out;clear F K m u o M;simp only at x0;have e6:(p:Int)<(its.length:Int):=by omega
    go_wp2_with fail
    have T:=hid (B7d B w3 _ _ I a so (c+1) _ b2 _ its q xk f.pin.wat f.pin.items a5 hU (by have:=j.out;simp only[List.length_append];omega) hl);refine Calls.mono T.out ?_;rintro e w4 ⟨rfl,D⟩;have V:=D.keepR f.pin.wat S.out;obtain⟨b6,n⟩:=f.step D;have l:=hid n;have O:=hid V;obtain⟨d0,d1,-,-,-⟩:=n.pin.wcells;obtain⟨q1,q2,q3,-⟩:=n.pin.nextO (d:=d) (by omega) e4.out;have e8:(q:Int)<(its.length:Int):=by omega
    clear D V n T f S b0 b1 x0
    go_wp2_with fail
    have v:=hid (c7.out w4 B g ig cap its beh I a so (c+1) _ b6 _ (q+1) l.pin (by omega) W R hl b4.out c3.out d6 (by have:=j.out;simp only[List.length_append];omega))
    (try simp only[Int.natCast_add,Int.cast_ofNat_Int]at v)
    refine Calls.mono v.out ?_;rintro e w5 ⟨rfl,C⟩;have Q:=C.keepR l.pin.wat O.out;obtain⟨a8,U⟩:=l.step C;have b7:=hid U;have c0:=hid Q;clear C Q U v l O;go_wp2;go_roundw
    case rel=>
     refine⟨i+1,a8,_,by simp,by omega,b7,c0,hid ?_⟩;have hf:decide (i+1=0)=false:=dcF (by omega);rw[hf,<-A.out];simp only[List.append_assoc,List.nil_append]
    case measure=>simp only[intOf];omega
   ·have e7:(0:Int)<(i:Int):=by omega
    have a0:decide (i=0)=false:=dcF a4;rw[a0]at A j;simp only[Bool.false_eq_true,if_false]at A;simp only[Bool.false_eq_true,if_false,List.length_singleton]at j;clear a0 a4;have e2:=hid (show Calls Tryz.prog 44 #[.pointer (some ⟨B,6,none⟩),.int .u8 44] wr _ from A1r B wr _ _ I a so (c+1) _ a3 X 44 t.pin.wat (by have:=j.out;omega))
    go_wp2_with fail
    refine Calls.mono e2.out ?_;rintro e w2 ⟨rfl,b9⟩;have e0:=b9.keepR t.pin.wat hR.out;obtain⟨f2,d4⟩:=t.step b9;have o:=hid d4;have M:=hid e0;clear b9 e0 d4 e2 t hR r0
    go_wp2_with fail
    have u:=hid (A6s B _ _ _ I a so (c+1) _ _ o.pin.wat W R (by omega) (by have:=j.out;simp only[List.length_append,List.length_singleton];omega));refine Calls.mono u.out ?_;rintro e w3 ⟨rfl,F⟩;have K:=F.keepR o.pin.wat M.out;obtain⟨b2,m⟩:=o.step F;have f:=hid m;have S:=hid K;obtain⟨b0,b1,-,-,-⟩:=m.pin.wcells;obtain⟨x0,-,-,-⟩:=m.pin.cells e3.out;clear F K m u o M;simp only at x0;have e6:(p:Int)<(its.length:Int):=by omega
    go_wp2_with fail
    have T:=hid (B7d B w3 _ _ I a so (c+1) _ b2 _ its q xk f.pin.wat f.pin.items a5 hU (by have:=j.out;simp only[List.length_append,List.length_singleton];omega) hl);refine Calls.mono T.out ?_;rintro e w4 ⟨rfl,D⟩;have V:=D.keepR f.pin.wat S.out;obtain⟨b6,n⟩:=f.step D;have l:=hid n;have O:=hid V;obtain⟨d0,d1,-,-,-⟩:=n.pin.wcells;obtain⟨q1,q2,q3,-⟩:=n.pin.nextO (d:=d) (by omega) e4.out;have e8:(q:Int)<(its.length:Int):=by omega
    clear D V n T f S b0 b1 x0
    go_wp2_with fail
    have v:=hid (c7.out w4 B g ig cap its beh I a so (c+1) _ b6 _ (q+1) l.pin (by omega) W R hl b4.out c3.out d6 (by have:=j.out;simp only[List.length_append,List.length_singleton];omega))
    (try simp only[Int.natCast_add,Int.cast_ofNat_Int]at v)
    refine Calls.mono v.out ?_;rintro e w5 ⟨rfl,C⟩;have Q:=C.keepR l.pin.wat O.out;obtain⟨a8,U⟩:=l.step C;have b7:=hid U;have c0:=hid Q;clear C Q U v l O;go_wp2;go_roundw
    case rel=>
     refine⟨i+1,a8,_,by simp,by omega,b7,c0,hid ?_⟩;have hf:decide (i+1=0)=false:=dcF (by omega);rw[hf,<-A.out];simp only[List.append_assoc]
    case measure=>simp only[intOf];omega
  ·obtain rfl:i=N:=by omega
   have hz:¬(i:Int)<(i:Int):=by omega
   have r:=hT.out;rw[List.drop_of_length_le (by rw[a7.out];exact Nat.le_refl _),List.map_nil]at r;have c4:X=E:=by rw[<-r];simp[A2r]
   have a1:=t.out;rw[c4]at a1;obtain⟨-,-,-,c5,cf⟩:=a1.pin.wcells;have HE:=hid (show WS w (wr.setCell ⟨B,5,none⟩ (.int .i64 (c:Int))) B g ig cap its beh I a so c vo a3 E from a1.setOp c);have u:=hid (A6s B _ _ _ I a so c _ _ HE.pin.wat W R (by omega) (by have:=c1.out;omega));clear hT r c4 t hR a1
   go_wp2_with fail
   refine Calls.mono u.out ?_;rintro e w6 ⟨rfl,d7⟩;obtain⟨f5,d9⟩:=HE.step d7;have e9:=hid d9;clear d7 d9;go_wp2;go_end0;exact⟨rfl,e9.post⟩
end Go.Proofs.YtmkkibaacclhnaaGreatDoor
