/-
  Part Vr.
-/
import Derived.Test.YtmkkibaacclhnaaGreatDoorVo
import Derived.Test.YtmkkibaacclhnaaGreatDoorWq
namespace Go.Proofs.YtmkkibaacclhnaaGreatDoor
open Go.RowKit
set_option maxRecDepth 100000
set_option maxHeartbeats 16000000
structure PIn (w:World) (B g ig cap:Nat) (its:List Im) (beh:List Nat) (nx ind:Int) (so:Bool) (op:Nat) (ad vo:Value) (bs:LU8):Prop where
 wat:WAt B w (.slice (some ⟨ig,0,none⟩) its.length cap) (.slice (some ⟨g,0,none⟩) its.length its.length) nx ind so op ad vo bs
 items:B9r w (.slice (some ⟨ig,0,none⟩) its.length cap) its
 row:w.ownsRow 0 3 1 (.slice (some ⟨g,0,none⟩) its.length its.length) its.length (beh.map D1w)
 beh:C2b beh its 0 its.length
theorem PIn.fr {w w':World} {B g ig cap:Nat} {its:List Im} {beh:List Nat} {nx ind:Int} {so:Bool} {op:Nat} {ad vo:Value} {bs:LU8} (h:PIn w B g ig cap its beh nx ind so op ad vo bs) (a:Fr (λ_=>False) w w'):PIn w' B g ig cap its beh nx ind so op ad vo bs:=
 ⟨h.wat.fr a,h.items.fr a (λ_ _=>id),A7e h.row a (λ_ _=>id),h.beh⟩
theorem PIn.cells {w:World} {B g ig cap:Nat} {its:List Im} {beh:List Nat} {nx ind:Int} {so:Bool} {op:Nat} {ad vo:Value} {bs:LU8} (h:PIn w B g ig cap its beh nx ind so op ad vo bs) {p:Nat} {x:Im} (a:its[p]? =some x):
 w.cell? ⟨ig,p*4,none⟩=some (.int .i64 x.k)/\w.cell? ⟨ig,p*4+1,none⟩=some (.int .i64 x.n)/\w.cell? ⟨ig,p*4+2,none⟩=some (.int .u64 (x.b:Int))/\w.cell? ⟨ig,p*4+3,none⟩=some (.string (ofL x.s)):=
 ⟨A2c h.items (p*4) _ (A4y its p 0 x a (by omega)),A2c h.items (p*4+1) _ (A4y its p 1 x a (by omega)),A2c h.items (p*4+2) _ (A4y its p 2 x a (by omega)),A2c h.items (p*4+3) _ (A4y its p 3 x a (by omega))⟩
theorem PIn.wcells {w:World} {B g ig cap:Nat} {its:List Im} {beh:List Nat} {nx ind:Int} {so:Bool} {op:Nat} {ad vo:Value} {bs:LU8} (h:PIn w B g ig cap its beh nx ind so op ad vo bs):
 w.cell? ⟨B,0,none⟩=some (.slice (some ⟨ig,0,none⟩) its.length cap)/\w.cell? ⟨B,1,none⟩=some (.slice (some ⟨g,0,none⟩) its.length its.length)/\w.cell? ⟨B,4,none⟩=some (.bool so)/\w.cell? ⟨B,5,none⟩=some (.int .i64 (op:Int))/\∀j,w.frozen? ⟨B,j,none⟩=false:=
 ⟨A0a h.wat.blk rfl,A0a h.wat.blk rfl,A0a h.wat.blk rfl,A0a h.wat.blk rfl,λ_=>A0b h.wat.blk⟩
theorem PIn.behAt {w:World} {B g ig cap:Nat} {its:List Im} {beh:List Nat} {nx ind:Int} {so:Bool} {op:Nat} {ad vo:Value} {bs:LU8} (h:PIn w B g ig cap its beh nx ind so op ad vo bs) {d q:Nat} (c:d<=1000) (e:A0i d (its.drop q)≠0):q<its.length/\w.cell? ⟨g,q,none⟩=some (.int .i64 ((q+A0i d (its.drop q):Nat):Int)):=by
 have b:=A5w d (its.drop q);rw[List.length_drop]at b;have a:q<its.length:=by omega
 refine⟨a,?_⟩;have:=h.beh q (Nat.zero_le _) a;rw[B2b d 1000 _ e c]at this;exact A2c h.row q _ (by rw[List.getElem?_map,this];rfl)
theorem PIn.nextA {w:World} {B g ig cap:Nat} {its:List Im} {beh:List Nat} {nx ind:Int} {so:Bool} {op:Nat} {ad vo:Value} {bs:LU8} (h:PIn w B g ig cap its beh nx ind so op ad vo bs) {d q:Nat} (b:d<=1000) (a:A7n d its false q):q<its.length/\w.cell? ⟨g,q,none⟩=some (.int .i64 ((B0i d its false q:Nat):Int)):=by
 unfold A7n at a;unfold B0i;simp only[Bool.false_eq_true,if_false]at a ⊢;exact h.behAt b a
theorem PIn.nextO {w:World} {B g ig cap:Nat} {its:List Im} {beh:List Nat} {nx ind:Int} {so:Bool} {op:Nat} {ad vo:Value} {bs:LU8} (h:PIn w B g ig cap its beh nx ind so op ad vo bs) {d q:Nat} (m:d<=1000) (c:A7n d its true q):q<its.length/\w.cell? ⟨g,q,none⟩=some (.int .i64 ((q:Int)+1))/\q+1<its.length/\w.cell? ⟨g,q+1,none⟩=some (.int .i64 ((B0i d its true q:Nat):Int)):=by
 unfold A7n at c;unfold B0i;simp only[if_true]at c ⊢;obtain⟨x,i,p,n,o⟩:=c;obtain⟨j,k⟩:=h.behAt m o;have b:=(List.getElem?_eq_some_iff.1 i).1
 have a:its.drop q=x::its.drop (q+1):=by
  rw[List.drop_eq_getElem_cons b,(List.getElem?_eq_some_iff.1 i).2]
 have e:A0i 0 (its.drop q)=1:=by rw[a,A0i,if_pos ⟨n,by omega⟩]
 obtain⟨l,f⟩:=h.behAt (d:=0) (q:=q) (by omega) (by rw[e];omega);rw[e,show(((q+1:Nat)):Int)=(q:Int)+1 by omega]at f;exact⟨l,f,j,k⟩
structure PlSt (w wr:World) (N:Nat) (vi:Value) (L:List Nat):Prop where
 fr:Fr (λ_=>False) w wr
 box:wr.heap[w.heap.size]? =some (.cells #[vi] 22 (0,0))
 row:wr.ownsRow 0 3 1 (.slice (some ⟨w.heap.size+1,0,none⟩) N N) N (L.map D1w)
theorem PlSt.start (w:World) (N:Nat) (a:Value) (d:N<=10000000):PlSt w ((w.alloc (.cells #[a] 22)).alloc (.cells (madeCells #[Value.int .i64 0] N) 3)).drew N a (List.replicate N 0):=by
 have c:=heap_alloc_new w (.cells #[a] 22);have b:=D0e (w.alloc (.cells #[a] 22)) N d;rw[show(w.alloc (.cells #[a] 22)).heap.size=w.heap.size+1 by simp]at b;exact⟨(((Fr.refl _ w).alloc _).alloc _).drew,((Fr.refl (λ_=>False) (w.alloc (.cells #[a] 22))).alloc (.cells (madeCells #[Value.int .i64 0] N) 3)).heap c id,b⟩
theorem PlSt.put {w wr:World} {N:Nat} {a:Value} {L:List Nat} (h:PlSt w wr N a L) (i q:Nat):PlSt w (wr.setCell ⟨w.heap.size+1,i,none⟩ (.int .i64 (q:Int))) N a (L.set i q):=by
 have b:Fr (λj=>j=w.heap.size+1) wr (wr.setCell ⟨w.heap.size+1,i,none⟩ (.int .i64 (q:Int))):=(Fr.refl (λj=>j=w.heap.size+1) wr).setCell (p:=⟨w.heap.size+1,i,none⟩) (.inl rfl) _;refine⟨h.fr.setCell (p:=⟨w.heap.size+1,i,none⟩) (.inr (Nat.le_succ _)) _,b.heap h.box (by omega),?_⟩;have:=B1s h.row i (D1w q);rw[<-List.map_set]at this;exact this
theorem PlSt.at_ {w wr:World} {N:Nat} {a:Value} {L:List Nat} (h:PlSt w wr N a L) {i:Nat} (b:i<N):(∃m:Nat,wr.cell? ⟨w.heap.size+1,i,none⟩=some (.int .i64 (m:Int)))/\wr.frozen? ⟨w.heap.size+1,i,none⟩=false:=by
 have c:L.length=N:=by simpa using h.row.1
 exact⟨⟨L[i]'(by omega),A2c h.row i _ (by rw[List.getElem?_map,List.getElem?_eq_getElem (by omega)];rfl)⟩,C5k h.row i⟩
theorem D3d (a:List Nat) (k q:Nat):(a++List.replicate (k+1) 0).set a.length q=(a++[q])++List.replicate k 0:=by
 rw[List.set_append_right _ _ (Nat.le_refl _),Nat.sub_self,List.replicate_succ,List.set_cons_zero,List.append_assoc];rfl
def B7i (w:World) (N:Nat) (L:List Nat) (e:Ending) (w':World):Prop:=
 ∃h,e=.returned (.slice (some ⟨h,0,none⟩) N N)/\Fr (λ_=>False) w w'/\w.heap.size<=h/\w'.ownsRow 0 3 1 (.slice (some ⟨h,0,none⟩) N N) N (L.map D1w)
theorem E6n (d:Nat) (w:World) (B g ig cap:Nat) (its:List Im) (beh:List Nat) (nx ind:Int) (so:Bool) (op:Nat) (ad vo:Value) (bs:LU8) (p N b m:Nat) (s:LU8) (h:PIn w B g ig cap its beh nx ind so op ad vo bs) (hd:d<=1000) (hl:its.length<=10000000) (G:its[p]? =some ⟨5,(N:Int),b,s⟩) (Z:N<=its.length) (y:A0m (A0i d) false N (its.drop (p+1))=some m):
 Calls Tryz.prog 73 #[.pointer (some ⟨B,0,none⟩),.int .i64 (p:Int)] w (B7i w N (D9f (A5y its) false (A1n d its false N (p+1)))):=by
 obtain⟨x,a⟩:∃x,A1n d its false N (p+1)=x:=⟨_,rfl⟩;rw[a];have a3:=run_make_row' (P:=Tryz.prog) 59 3 (.int .i64 0) 8 Tryz.underlying59 Tryz.info3B rfl .i64 .i64 N (by omega) (by omega);have hp:p<its.length:=(List.getElem?_eq_some_iff.1 G).1;obtain⟨O,Q,R,-,Y⟩:=h.wcells;obtain⟨U,V,-,-⟩:=h.cells G;have S:=λo=>(h.fr ((Fr.refl (λ_=>False) w).alloc o)).wcells.1
 have T:=λo=>(h.fr ((Fr.refl (λ_=>False) w).alloc o)).wcells.2.1
 have W:=λo=>((h.fr ((Fr.refl (λ_=>False) w).alloc o)).cells G).1
 have X:=λo=>((h.fr ((Fr.refl (λ_=>False) w).alloc o)).cells G).2.1
 have M:=hid (show([]:List Nat)++A1n d its false (N-0) (p+1)=x from a);have A:=hid (show∃m,A0m (A0i d) false (N-0) (its.drop (p+1))=some m from⟨m,y⟩);have u:=hid (PlSt.start w N (.slice (some ⟨ig,0,none⟩) its.length cap) (by omega));have z:=hid (λwr (hf:Fr (λ_=>False) w wr)=>h.fr hf);clear h G y a;simp only at U V W X;obtain⟨n,L⟩:∃n,its.length=n:=⟨_,rfl⟩;rw[L]at hp hl O Q u Z;simp only[L]at S T;go_enter Tryz.func73,Tryz.ntmps73;go_wp2;go_region;go_wp2
 go_loopw [9,37] (λnv iv wr=>∃(i q:Nat) (f:List Nat),nv=.int .i64 (q:Int)/\iv=.int .i64 (i:Int)/\i<=N/\Hid (f.length=i)/\Hid (f++A1n d its false (N-i) q=x)/\Hid (∃m,A0m (A0i d) false (N-i) (its.drop q)=some m)/\Hid (PlSt w wr N (.slice (some ⟨ig,0,none⟩) n cap) (f++List.replicate (N-i) 0))) (λ_ iv _=>N-(intOf iv).toNat)
 case atStart=>exact⟨0,p+1,[],by simp,rfl,Nat.zero_le _,hid rfl,M,A,u⟩
 case round=>
  clear M A u O Q R Y U V S T W X;obtain⟨i,q,f,rfl,rfl,a2,e,a,J,H⟩:=hrel;by_cases hi:i<N
  ·have hz:(i:Int)<(N:Int):=by omega
   obtain⟨c,K⟩:∃c,N-i=c+1:=⟨N-i-1,by omega⟩;obtain⟨m,y⟩:=J.out;rw[K]at y;obtain⟨F,-,m',E,-⟩:=B0j y;have I:=hid (show∃m,A0m (A0i d) false c (its.drop (B0i d its false q))=some m from⟨m',E⟩)
   have C:=hid (show(f++[q])++A1n d its false c (B0i d its false q)=x from by
    rw[<-a.out,K,List.append_assoc];rfl)
   have l:=H.out;rw[K]at l;obtain⟨⟨m0,a0⟩,a1⟩:=l.at_ hi;have j:=l.put i q;rw[<-e.out,D3d,e.out]at j;have k:=hid j;have D:=z.out _ j.fr;obtain⟨q1,q2⟩:=D.nextA hd F;rw[L]at q1;have a4:(q:Int)<(n:Int):=by omega
   generalize B0i d its false q=q' at*;have v:=hid (show(f++[q]).length=i+1 by rw[List.length_append,e.out];rfl);clear F y E J a H l j D e;go_wp2;go_roundw
   case rel=>
    refine⟨i+1,q',f++[q],rfl,by simp,by omega,v,hid ?_,hid ?_,hid ?_⟩
    ·rw[show N-(i+1)=c by omega];exact C.out
    ·rw[show N-(i+1)=c by omega];exact I.out
    ·rw[show N-(i+1)=c by omega];exact k.out
   case measure=>simp only[intOf];omega
  ·obtain rfl:i=N:=by omega
   have hz:¬(i:Int)<(i:Int):=by omega
   have t:f=x:=by have:=a.out;rw[Nat.sub_self]at this;simpa[A1n]using this
   have r:=H.out;rw[Nat.sub_self,List.replicate_zero,List.append_nil,t]at r;have k:=hid r;obtain⟨-,-,R,-,-⟩:=(z.out _ r.fr).wcells;clear r a J t e H;go_wp2;go_ret;refine⟨_,rfl,k.fr,by omega,?_⟩;rw[B6s];exact k.row
theorem D9i (d:Nat) (w:World) (B g ig cap:Nat) (its:List Im) (beh:List Nat) (nx ind:Int) (op:Nat) (ad vo:Value) (bs:LU8) (p N b m:Nat) (s:LU8) (h:PIn w B g ig cap its beh nx ind false op ad vo bs) (hd:d<=1000) (hl:its.length<=10000000) (G:its[p]? =some ⟨6,(N:Int),b,s⟩) (Z:N<=its.length) (y:A0m (A0i d) true N (its.drop (p+1))=some m):
 Calls Tryz.prog 73 #[.pointer (some ⟨B,0,none⟩),.int .i64 (p:Int)] w (B7i w N (D9f (A5y its) false (A1n d its true N (p+1)))):=by
 obtain⟨x,a⟩:∃x,A1n d its true N (p+1)=x:=⟨_,rfl⟩;rw[a];have a3:=run_make_row' (P:=Tryz.prog) 59 3 (.int .i64 0) 8 Tryz.underlying59 Tryz.info3B rfl .i64 .i64 N (by omega) (by omega);have hp:p<its.length:=(List.getElem?_eq_some_iff.1 G).1;obtain⟨O,Q,R,-,Y⟩:=h.wcells;obtain⟨U,V,-,-⟩:=h.cells G;have S:=λo=>(h.fr ((Fr.refl (λ_=>False) w).alloc o)).wcells.1
 have T:=λo=>(h.fr ((Fr.refl (λ_=>False) w).alloc o)).wcells.2.1
 have W:=λo=>((h.fr ((Fr.refl (λ_=>False) w).alloc o)).cells G).1
 have X:=λo=>((h.fr ((Fr.refl (λ_=>False) w).alloc o)).cells G).2.1
 have M:=hid (show([]:List Nat)++A1n d its true (N-0) (p+1)=x from a);have A:=hid (show∃m,A0m (A0i d) true (N-0) (its.drop (p+1))=some m from⟨m,y⟩);have u:=hid (PlSt.start w N (.slice (some ⟨ig,0,none⟩) its.length cap) (by omega));have z:=hid (λwr (hf:Fr (λ_=>False) w wr)=>h.fr hf);clear h G y a;simp only at U V W X;obtain⟨n,L⟩:∃n,its.length=n:=⟨_,rfl⟩;rw[L]at hp hl O Q u Z;simp only[L]at S T;go_enter Tryz.func73,Tryz.ntmps73;go_wp2;go_region;go_wp2
 go_loopw [9,37] (λnv iv wr=>∃(i q:Nat) (f:List Nat),nv=.int .i64 (q:Int)/\iv=.int .i64 (i:Int)/\i<=N/\Hid (f.length=i)/\Hid (f++A1n d its true (N-i) q=x)/\Hid (∃m,A0m (A0i d) true (N-i) (its.drop q)=some m)/\Hid (PlSt w wr N (.slice (some ⟨ig,0,none⟩) n cap) (f++List.replicate (N-i) 0))) (λ_ iv _=>N-(intOf iv).toNat)
 case atStart=>exact⟨0,p+1,[],by simp,rfl,Nat.zero_le _,hid rfl,M,A,u⟩
 case round=>
  clear M A u O Q R Y U V S T W X;obtain⟨i,q,f,rfl,rfl,a2,e,a,J,H⟩:=hrel;by_cases hi:i<N
  ·have hz:(i:Int)<(N:Int):=by omega
   obtain⟨c,K⟩:∃c,N-i=c+1:=⟨N-i-1,by omega⟩;obtain⟨m,y⟩:=J.out;rw[K]at y;obtain⟨F,-,m',E,-⟩:=B0j y;have I:=hid (show∃m,A0m (A0i d) true c (its.drop (B0i d its true q))=some m from⟨m',E⟩)
   have C:=hid (show(f++[q])++A1n d its true c (B0i d its true q)=x from by
    rw[<-a.out,K,List.append_assoc];rfl)
   have l:=H.out;rw[K]at l;obtain⟨⟨m0,a0⟩,a1⟩:=l.at_ hi;have j:=l.put i q;rw[<-e.out,D3d,e.out]at j;have k:=hid j;have D:=z.out _ j.fr;obtain⟨q1,q2,q3,q4⟩:=D.nextO hd F;rw[L]at q1 q3;have a4:(q:Int)<(n:Int):=by omega
   have a5:(q:Int)+1<(n:Int):=by omega
   generalize B0i d its true q=q' at*;have v:=hid (show(f++[q]).length=i+1 by rw[List.length_append,e.out];rfl);clear F y E J a H l j D e;go_wp2;go_roundw
   case rel=>
    refine⟨i+1,q',f++[q],rfl,by simp,by omega,v,hid ?_,hid ?_,hid ?_⟩
    ·rw[show N-(i+1)=c by omega];exact C.out
    ·rw[show N-(i+1)=c by omega];exact I.out
    ·rw[show N-(i+1)=c by omega];exact k.out
   case measure=>simp only[intOf];omega
  ·obtain rfl:i=N:=by omega
   have hz:¬(i:Int)<(i:Int):=by omega
   have t:f=x:=by have:=a.out;rw[Nat.sub_self]at this;simpa[A1n]using this
   have r:=H.out;rw[Nat.sub_self,List.replicate_zero,List.append_nil,t]at r;have k:=hid r;obtain⟨-,-,R,-,-⟩:=(z.out _ r.fr).wcells;clear r a J t e H;go_wp2;go_ret;refine⟨_,rfl,k.fr,by omega,?_⟩;rw[B6s];exact k.row
theorem D9j (d:Nat) (w:World) (B g ig cap:Nat) (its:List Im) (beh:List Nat) (nx ind:Int) (op:Nat) (ad vo:Value) (bs:LU8) (p N b m:Nat) (s:LU8) (h:PIn w B g ig cap its beh nx ind true op ad vo bs) (hd:d<=1000) (hl:its.length<=10000000) (I:its[p]? =some ⟨6,(N:Int),b,s⟩) (hN:N<=its.length) (C:A0m (A0i d) true N (its.drop (p+1))=some m):
 Calls Tryz.prog 73 #[.pointer (some ⟨B,0,none⟩),.int .i64 (p:Int)] w (B7i w N (D9f (A5y its) true (A1n d its true N (p+1)))):=by
 obtain⟨u,f⟩:∃u,A1n d its true N (p+1)=u:=⟨_,rfl⟩;rw[f];have a3:=run_make_row' (P:=Tryz.prog) 59 3 (.int .i64 0) 8 Tryz.underlying59 Tryz.info3B rfl .i64 .i64 N (by omega) (by omega);have hp:p<its.length:=(List.getElem?_eq_some_iff.1 I).1;obtain⟨c0,c1,c4,-,cf⟩:=h.wcells;obtain⟨x0,x1,-,-⟩:=h.cells I;have e0:=λo=>(h.fr ((Fr.refl (λ_=>False) w).alloc o)).wcells.1
 have e1:=λo=>(h.fr ((Fr.refl (λ_=>False) w).alloc o)).wcells.2.1
 have y0:=λo=>((h.fr ((Fr.refl (λ_=>False) w).alloc o)).cells I).1
 have y1:=λo=>((h.fr ((Fr.refl (λ_=>False) w).alloc o)).cells I).2.1
 have H0:=hid (show([]:List Nat)++A1n d its true (N-0) (p+1)=u from f);have J:=hid (show∃m,A0m (A0i d) true (N-0) (its.drop (p+1))=some m from⟨m,C⟩);have E:=hid (PlSt.start w N (.slice (some ⟨ig,0,none⟩) its.length cap) (by omega));have D:=hid (λwr (hf:Fr (λ_=>False) w wr)=>h.fr hf);have z:=hid (show u.Pairwise (·< ·)from by rw[<-f];exact(C0v d its true N (p+1) m C).1);have W:=hid (show∀y,y∈u->y<its.length fromλy hy=>by rw[<-f]at hy;exact((C0v d its true N (p+1) m C).2.1 y hy).2.lt);have V:=hid (B2a h.items);clear h I C f;simp only at x0 x1 y0 y1;obtain⟨n,U⟩:∃n,its.length=n:=⟨_,rfl⟩;rw[U]at hp hl c0 c1 E hN;simp only[U]at e0 e1;go_enter Tryz.func73,Tryz.ntmps73;go_wp2;go_region;go_wp2
 go_loopw [9,37] (λnv iv wr=>∃(i q:Nat) (l:List Nat),nv=.int .i64 (q:Int)/\iv=.int .i64 (i:Int)/\i<=N/\Hid (l.length=i)/\Hid (l++A1n d its true (N-i) q=u)/\Hid (∃m,A0m (A0i d) true (N-i) (its.drop q)=some m)/\Hid (PlSt w wr N (.slice (some ⟨ig,0,none⟩) n cap) (l++List.replicate (N-i) 0))) (λ_ iv _=>N-(intOf iv).toNat)
 case atStart=>exact⟨0,p+1,[],by simp,rfl,Nat.zero_le _,hid rfl,H0,J,E⟩
 case round=>
  clear H0 J E c0 c1 c4 cf x0 x1 e0 e1 y0 y1;obtain⟨i,q,l,rfl,rfl,a2,k,f,Y,T⟩:=hrel;by_cases hi:i<N
  ·have hz:(i:Int)<(N:Int):=by omega
   obtain⟨c,hc⟩:∃c,N-i=c+1:=⟨N-i-1,by omega⟩;obtain⟨m,C⟩:=Y.out;rw[hc]at C;obtain⟨S,-,m',R,-⟩:=B0j C;have X:=hid (show∃m,A0m (A0i d) true c (its.drop (B0i d its true q))=some m from⟨m',R⟩)
   have K:=hid (show(l++[q])++A1n d its true c (B0i d its true q)=u from by
    rw[<-f.out,hc,List.append_assoc];rfl)
   have v:=T.out;rw[hc]at v;obtain⟨⟨m0,a0⟩,a1⟩:=v.at_ hi;have t:=v.put i q;rw[<-k.out,D3d,k.out]at t;have F:=hid t;have Q:=D.out _ t.fr;obtain⟨q1,q2,q3,q4⟩:=Q.nextO hd S;rw[U]at q1 q3;have a4:(q:Int)<(n:Int):=by omega
   have a5:(q:Int)+1<(n:Int):=by omega
   generalize B0i d its true q=q' at*;have H:=hid (show(l++[q]).length=i+1 by rw[List.length_append,k.out];rfl);clear S C R Y f T v t Q k;go_wp2;go_roundw
   case rel=>
    refine⟨i+1,q',l++[q],rfl,by simp,by omega,H,hid ?_,hid ?_,hid ?_⟩
    ·rw[show N-(i+1)=c by omega];exact K.out
    ·rw[show N-(i+1)=c by omega];exact X.out
    ·rw[show N-(i+1)=c by omega];exact F.out
   case measure=>simp only[intOf];omega
  ·obtain rfl:i=N:=by omega
   have hz:¬(i:Int)<(i:Int):=by omega
   have A:l=u:=by have:=f.out;rw[Nat.sub_self]at this;simpa[A1n]using this
   have r:=T.out;rw[Nat.sub_self,List.replicate_zero,List.append_nil,A]at r;have F:=hid r;obtain⟨-,-,c4,-,-⟩:=(D.out _ r.fr).wcells
   have G:=hid (C1w wr wr (w.heap.size+1) i i w.heap.size (λx=>x<its.length) (λa b=>Lib.compareBytes (A5y its a) (A5y its b)) (KO (A5y its)) (KO.tr (A5y its)) u ⟨Fr.refl _ _,r.row⟩ (z.imp (λ{a b} hab=>KO.cf (A5y its) a b hab)) W.out
    (λx y I hy w3 hf3=>F7h w3 w.heap.size x y (.slice (some ⟨ig,0,none⟩) its.length cap) its (by rw[U];exact hf3.heap r.box (by omega)) ((D.out _ r.fr).items.fr hf3 (by
      rintro j hj rfl;have h1:=V.out;have h2:ig=w.heap.size+1:=by simpa[Value.ownBlock]using hj
      omega)) I hy (by omega)) (by omega))
   clear r f Y A k T
   go_wp2_with (first|(go_at_call 128;refine Calls.mono G.out ?_;rintro e w4 ⟨rfl,Z,L,M,O⟩;have HZ:=hid (And.intro L (And.intro M O));clear L M O)|fail)
   go_ret;obtain⟨z1,z2,z3⟩:=HZ.out;refine⟨_,rfl,F.fr.trans' z3.fr (by rintro j rfl;exact .inr (by omega)),by omega,?_⟩;rw[<-F3c (A5y its) u Z z.out z1 z2];exact z3.row
theorem A2d.keepR {B:Nat} {w w':World} {f e:Value} {nx ind:Int} {so:Bool} {op:Nat} {ad vo V:Value} {bs a:LU8} {n:Nat} {xs:List Value} (h:A2d B w f e nx ind so op vo a w') (d:WAt B w f e nx ind so op ad vo bs) (b:w.ownsRow 0 3 1 V n xs):w'.ownsRow 0 3 1 V n xs:=by
 obtain⟨o,p,k,r⟩:=h;refine A7e b k (λi hi=>?_);rintro(h|h)
 ·subst h
  exact A8y b d.blk (by decide) hi
 ·rcases b.2 with⟨q,_⟩|⟨g,cap,j,m,_,l,_⟩
  ·rw[q]at hi;cases hi
  ·rw[m]at hi
   have c:g=i:=by simpa[Value.ownBlock]using hi
   subst c;exact A8y d.row l (by decide) h
structure WS (w wr:World) (B g ig cap:Nat) (its:List Im) (beh:List Nat) (nx ind:Int) (so:Bool) (op:Nat) (vo0 vo:Value) (bs:LU8):Prop where
 pin:PIn wr B g ig cap its beh nx ind so op (.pointer (some ⟨B,6,none⟩)) vo bs
 fr:Fr (λi=>i=B\/vo0.ownBlock=some i) w wr
 nw:∀k,vo.ownBlock=some k->vo0.ownBlock=some k\/w.heap.size<=k
section
variable {w wr w2:World} {B g ig cap:Nat} {its:List Im} {beh:List Nat} {nx ind:Int} {so:Bool} {op:Nat} {ad vo0 vo:Value} {bs bs2:LU8}
theorem WS.post (h:WS w wr B g ig cap its beh nx ind so op vo0 vo bs):A2d B w (.slice (some ⟨ig,0,none⟩) its.length cap) (.slice (some ⟨g,0,none⟩) its.length its.length) nx ind so op vo0 bs wr:=⟨vo,h.pin.wat,h.fr,h.nw⟩
theorem PIn.step (h:PIn w B g ig cap its beh nx ind so op ad vo bs) (k:A2d B w (.slice (some ⟨ig,0,none⟩) its.length cap) (.slice (some ⟨g,0,none⟩) its.length its.length) nx ind so op vo bs2 w2):∃a,WS w w2 B g ig cap its beh nx ind so op vo a bs2:=by
 have e:=k.keepI h.wat h.items;have f:=k.keepR h.wat h.row;obtain⟨a,b,c,d⟩:=k;exact⟨a,⟨b,e,f,h.beh⟩,c,d⟩
theorem WS.step (h:WS w wr B g ig cap its beh nx ind so op vo0 vo bs) (k:A2d B wr (.slice (some ⟨ig,0,none⟩) its.length cap) (.slice (some ⟨g,0,none⟩) its.length its.length) nx ind so op vo bs2 w2):∃a,WS w w2 B g ig cap its beh nx ind so op vo0 a bs2:=by
 have e:=k.keepI h.pin.wat h.pin.items;have f:=k.keepR h.pin.wat h.pin.row;obtain⟨a,b,c,d⟩:=A2d.trans h.fr h.nw k;exact⟨a,⟨b,e,f,h.pin.beh⟩,c,d⟩
theorem WS.same (h:WS w wr B g ig cap its beh nx ind so op vo0 vo bs) (a:Fr (λ_=>False) wr w2):WS w w2 B g ig cap its beh nx ind so op vo0 vo bs:=⟨h.pin.fr a,h.fr.trans (a.mono (λ_=>False.elim)),h.nw⟩
theorem PIn.ws (h:PIn w B g ig cap its beh nx ind so op (.pointer (some ⟨B,6,none⟩)) vo bs):WS w w B g ig cap its beh nx ind so op vo vo bs:=⟨h,Fr.refl _ _,λ_ hk=>.inl hk⟩
theorem PIn.setOp (h:PIn wr B g ig cap its beh nx ind so op ad vo bs) (k:Nat):PIn (wr.setCell ⟨B,5,none⟩ (.int .i64 (k:Int))) B g ig cap its beh nx ind so k ad vo bs:=by
 refine⟨⟨heap_setCell_same wr B 5 _ 69 _ h.wat.blk,h.wat.adr,A0q h.wat.row (A8y h.wat.row h.wat.blk (by decide)) _⟩,A0q h.items (A8y h.items h.wat.blk (by decide)) _,A0q h.row (A8y h.row h.wat.blk (by decide)) _,h.beh⟩
theorem WS.setOp (h:WS w wr B g ig cap its beh nx ind so op vo0 vo bs) (k:Nat):WS w (wr.setCell ⟨B,5,none⟩ (.int .i64 (k:Int))) B g ig cap its beh nx ind so k vo0 vo bs:=
 ⟨h.pin.setOp k,h.fr.setCell (p:=⟨B,5,none⟩) (.inl (.inl rfl)) _,h.nw⟩
theorem WS.rowOp (h:WS w wr B g ig cap its beh nx ind so op vo0 vo bs) {V:Value} {n:Nat} {xs:List Value} (a:wr.ownsRow 0 3 1 V n xs) (u:Value):(wr.setCell ⟨B,5,none⟩ u).ownsRow 0 3 1 V n xs:=A0q a (A8y a h.pin.wat.blk (by decide)) u
end
def C0x (d:Nat):Prop:=∀(w:World) (B g ig cap:Nat) (its:List Im) (beh:List Nat) (nx ind:Int) (so:Bool) (op:Nat) (ad vo:Value) (bs:LU8) (p:Nat),PIn w B g ig cap its beh nx ind so op ad vo bs->op+d=1000-> -1<=ind->ind<=16->its.length<=10000000->(∀x,x∈its->x.s.length<=100000000)->Bok its->A0i d (its.drop p)≠0->bs.length+(wrD ind so d (its.drop p)).length<=90000000000->
 Calls Tryz.prog 26 #[.pointer (some ⟨B,0,none⟩),.int .i64 (p:Int)] w λe w'=>e=.returned (.tuple #[])/\A2d B w (.slice (some ⟨ig,0,none⟩) its.length cap) (.slice (some ⟨g,0,none⟩) its.length its.length) nx ind so op vo (bs++wrD ind so d (its.drop p)) w'
theorem C0y (ind:Int) (inn:Nat) (f:Bool) (t:LU8) (a:List (LU8)):A2r ind inn f (t::a)=(if f=true then[]else[44])++A6p ind inn++t++A2r ind inn false a:=rfl
theorem C2c (d:Nat) (IH:C0x d) (w:World) (B g ig cap:Nat) (its:List Im) (beh:List Nat) (nx ind:Int) (so:Bool) (op:Nat) (vo:Value) (bs:LU8) (p N b:Nat) (s:LU8) (L:List Nat) (h:PIn w B g ig cap its beh nx ind so op (.pointer (some ⟨B,6,none⟩)) vo bs) (d6:op+(d+1)=1000) (K: -1<=ind) (M:ind<=16) (hl:its.length<=10000000) (hs:∀x,x∈its->x.s.length<=100000000) (hb:Bok its) (hx:its[p]? =some ⟨5,(N:Int),b,s⟩) (d3:N≠0) (hN:N<=its.length)
 (hL:∀y,y∈L->A7n d its false y) (b6:L.length=N) (a8:Calls Tryz.prog 73 #[.pointer (some ⟨B,0,none⟩),.int .i64 (p:Int)] w (B7i w N L))
 (V:bs.length+(A2r ind (op+1) true (L.map (λy=>(A7y d ind so its false y).2))++A6p ind op).length<=90000000000):
 Calls Tryz.prog 45 #[.pointer (some ⟨B,0,none⟩),.int .i64 (p:Int)] w λe w'=>e=.returned (.tuple #[])/\A2d B w (.slice (some ⟨ig,0,none⟩) its.length cap) (.slice (some ⟨g,0,none⟩) its.length its.length) nx ind so op vo (bs++(A2r ind (op+1) true (L.map (λy=>(A7y d ind so its false y).2))++A6p ind op)) w':=by
 obtain⟨r,z⟩:∃r,bs++A2r ind (op+1) true (L.map (λy=>(A7y d ind so its false y).2))=r:=⟨_,rfl⟩;have c0:r.length+(A6p ind op).length<=90000000000:=by rw[<-z];simp only[List.length_append]at V ⊢;omega
 rw[<-List.append_assoc,z];have hp:p<its.length:=(List.getElem?_eq_some_iff.1 hx).1;have a9:=hid hx;have H:=hid h;have b3:=hid (show bs++A2r ind (op+1) (decide (0=0)) ((L.drop 0).map (λy=>(A7y d ind so its false y).2))=r from z);have HL:=hid hL;have HP:=hid a8;have a5:=hid hb;have b2:=hid hs;have a7:=hid IH;clear h hx hL a8 hb hs IH z V;have d4:((N:Int)==0)=false:=bqF (by omega);have U:=hid b6;have b4:=hid c0;clear b6 c0;go_enter Tryz.func45,Tryz.ntmps45
 go_wp2_with fail
 refine Calls.mono HP.out ?_;rintro e w1 ⟨hh,rfl,Z,c2,P⟩;have O:=H.fr Z;have E:=hid (H.ws.same Z);have X:=hid P;have d1:=hid c2;obtain⟨-,-,-,c5,cf⟩:=O.wcells;have b5:=hid (show WS w (w1.setCell ⟨B,5,none⟩ (.int .i64 ((op:Int)+1))) B g ig cap its beh nx ind so (op+1) vo vo bs from E.setOp (op+1));have C:=hid (E.rowOp P (.int .i64 ((op:Int)+1)));clear Z c2 P O;go_wp2
 go_loopw [22] (λiv wr=>∃(i:Nat) (T:Value) (F:LU8),iv=.int .i64 (i:Int)/\i<=N/\Hid (WS w wr B g ig cap its beh nx ind so (op+1) vo T F)/\Hid (wr.ownsRow 0 3 1 (.slice (some ⟨hh,0,none⟩) N N) N (L.map D1w))/\Hid (F++A2r ind (op+1) (decide (i=0)) ((L.drop i).map (λy=>(A7y d ind so its false y).2))=r)) (λiv _=>N-(intOf iv).toNat)
 case atStart=>exact⟨0,vo,bs,rfl,Nat.zero_le _,b5,C,b3⟩
 case round=>
  clear b3 b5 C c5 cf E X;obtain⟨i,T,F,rfl,d5,l,hR,hT⟩:=hrel;by_cases hi:i<N
  ·have hz:(i:Int)<(N:Int):=by omega
   have a1:i<L.length:=by rw[U.out];exact hi
   obtain⟨q,hq⟩:∃q,L[i]=q:=⟨_,rfl⟩;have c3:q∈L:=hq▸List.getElem_mem a1;have r0:=A2c hR.out i (.int .i64 (q:Int)) (by rw[List.getElem?_map,List.getElem?_eq_getElem a1,hq];rfl);have c1:L.drop i=q::L.drop (i+1):=by rw[List.drop_eq_getElem_cons a1,hq]
   have k:=hT.out;rw[c1,List.map_cons,C0y]at k;have a2:=HL.out q c3;have d2:=hid a2;have c7:A0i d (its.drop q)≠0:=by simpa[A7n]using a2
   have ht:(A7y d ind so its false q).2=wrD ind so d (its.drop q):=rfl;rw[ht]at k;have n:=hid k;clear hT k c1 c3 a2 hq;have v:=b4.out;rw[<-n.out]at v;simp only[List.length_append]at v;have a:=hid v;by_cases R:i=0
   ·have c9:¬(0:Int)<(i:Int):=by omega
    have J:decide (i=0)=true:=dcT R;rw[J]at n a;simp only[if_true]at n;simp only[if_true,List.length_nil]at a;clear J R;have f:=hid l.out;have D:=hid hR.out;clear l hR
    go_wp2_with fail
    have m:=hid (A6s B _ _ _ nx ind so (op+1) _ _ f.pin.wat K M (by omega) (by have:=a.out;omega));refine Calls.mono m.out ?_;rintro e w3 ⟨rfl,t⟩;have G:=t.keepR f.pin.wat D.out;obtain⟨a3,j⟩:=f.step t;have c:=hid j;have A:=hid G;obtain⟨b0,b1,-,-,-⟩:=j.pin.wcells;obtain⟨x0,-,-,-⟩:=j.pin.cells a9.out;clear t G j m f D;simp only at x0;have d0:(p:Int)<(its.length:Int):=by omega
    go_wp2_with fail
    have o:=hid (a7.out w3 B g ig cap its beh nx ind so (op+1) _ a3 _ (q) c.pin (by omega) K M hl b2.out a5.out c7 (by have:=a.out;simp only[List.length_append];omega))
    (try simp only[Int.natCast_add,Int.cast_ofNat_Int]at o)
    refine Calls.mono o.out ?_;rintro e w5 ⟨rfl,u⟩;have I:=u.keepR c.pin.wat A.out;obtain⟨a4,Q⟩:=c.step u;have Y:=hid Q;have W:=hid I;clear u I Q o c A;go_wp2;go_roundw
    case rel=>
     refine⟨i+1,a4,_,by simp,by omega,Y,W,hid ?_⟩;have hf:decide (i+1=0)=false:=dcF (by omega);rw[hf,<-n.out];simp only[List.append_assoc,List.nil_append]
    case measure=>simp only[intOf];omega
   ·have c9:(0:Int)<(i:Int):=by omega
    have J:decide (i=0)=false:=dcF R;rw[J]at n a;simp only[Bool.false_eq_true,if_false]at n;simp only[Bool.false_eq_true,if_false,List.length_singleton]at a;clear J R;have a6:=hid (show Calls Tryz.prog 44 #[.pointer (some ⟨B,6,none⟩),.int .u8 44] wr _ from A1r B wr _ _ nx ind so (op+1) _ T F 44 l.pin.wat (by have:=a.out;omega))
    go_wp2_with fail
    refine Calls.mono a6.out ?_;rintro e w2 ⟨rfl,a0⟩;have b8:=a0.keepR l.pin.wat hR.out;obtain⟨d7,c4⟩:=l.step a0;have f:=hid c4;have D:=hid b8;clear a0 b8 c4 a6 l hR r0
    go_wp2_with fail
    have m:=hid (A6s B _ _ _ nx ind so (op+1) _ _ f.pin.wat K M (by omega) (by have:=a.out;simp only[List.length_append,List.length_singleton];omega));refine Calls.mono m.out ?_;rintro e w3 ⟨rfl,t⟩;have G:=t.keepR f.pin.wat D.out;obtain⟨a3,j⟩:=f.step t;have c:=hid j;have A:=hid G;obtain⟨b0,b1,-,-,-⟩:=j.pin.wcells;obtain⟨x0,-,-,-⟩:=j.pin.cells a9.out;clear t G j m f D;simp only at x0;have d0:(p:Int)<(its.length:Int):=by omega
    go_wp2_with fail
    have o:=hid (a7.out w3 B g ig cap its beh nx ind so (op+1) _ a3 _ (q) c.pin (by omega) K M hl b2.out a5.out c7 (by have:=a.out;simp only[List.length_append,List.length_singleton];omega))
    (try simp only[Int.natCast_add,Int.cast_ofNat_Int]at o)
    refine Calls.mono o.out ?_;rintro e w5 ⟨rfl,u⟩;have I:=u.keepR c.pin.wat A.out;obtain⟨a4,Q⟩:=c.step u;have Y:=hid Q;have W:=hid I;clear u I Q o c A;go_wp2;go_roundw
    case rel=>
     refine⟨i+1,a4,_,by simp,by omega,Y,W,hid ?_⟩;have hf:decide (i+1=0)=false:=dcF (by omega);rw[hf,<-n.out];simp only[List.append_assoc]
    case measure=>simp only[intOf];omega
  ·obtain rfl:i=N:=by omega
   have hz:¬(i:Int)<(i:Int):=by omega
   have k:=hT.out;rw[List.drop_of_length_le (by rw[U.out];exact Nat.le_refl _),List.map_nil]at k;have b9:F=r:=by rw[<-k];simp[A2r]
   have S:=l.out;rw[b9]at S;obtain⟨-,-,-,c5,cf⟩:=S.pin.wcells;have HE:=hid (show WS w (wr.setCell ⟨B,5,none⟩ (.int .i64 (op:Int))) B g ig cap its beh nx ind so op vo T r from S.setOp op);have m:=hid (A6s B _ _ _ nx ind so op _ _ HE.pin.wat K M (by omega) (by have:=b4.out;omega));clear hT k b9 l hR S
   go_wp2_with fail
   refine Calls.mono m.out ?_;rintro e w6 ⟨rfl,b7⟩;obtain⟨d8,c6⟩:=HE.step b7;have c8:=hid c6;clear b7 c6;go_wp2;go_end0;exact⟨rfl,c8.post⟩
theorem C2d (d:Nat) (IH:C0x d) (w:World) (B g ig cap:Nat) (its:List Im) (beh:List Nat) (nx ind:Int) (so:Bool) (op:Nat) (vo:Value) (bs:LU8) (p N b:Nat) (s:LU8) (L:List Nat) (h:PIn w B g ig cap its beh nx ind so op (.pointer (some ⟨B,6,none⟩)) vo bs) (f1:op+(d+1)=1000) (T: -1<=ind) (U:ind<=16) (hl:its.length<=10000000) (hs:∀x,x∈its->x.s.length<=100000000) (hb:Bok its) (hx:its[p]? =some ⟨6,(N:Int),b,s⟩) (e8:N≠0) (hN:N<=its.length)
 (hL:∀y,y∈L->A7n d its true y) (c8:L.length=N) (c2:Calls Tryz.prog 73 #[.pointer (some ⟨B,0,none⟩),.int .i64 (p:Int)] w (B7i w N L))
 (a4:bs.length+(A2r ind (op+1) true (L.map (λy=>(A7y d ind so its true y).2))++A6p ind op).length<=90000000000):
 Calls Tryz.prog 45 #[.pointer (some ⟨B,0,none⟩),.int .i64 (p:Int)] w λe w'=>e=.returned (.tuple #[])/\A2d B w (.slice (some ⟨ig,0,none⟩) its.length cap) (.slice (some ⟨g,0,none⟩) its.length its.length) nx ind so op vo (bs++(A2r ind (op+1) true (L.map (λy=>(A7y d ind so its true y).2))++A6p ind op)) w':=by
 obtain⟨v,E⟩:∃v,bs++A2r ind (op+1) true (L.map (λy=>(A7y d ind so its true y).2))=v:=⟨_,rfl⟩;have d4:v.length+(A6p ind op).length<=90000000000:=by rw[<-E];simp only[List.length_append]at a4 ⊢;omega
 rw[<-List.append_assoc,E];have hp:p<its.length:=(List.getElem?_eq_some_iff.1 hx).1;have c3:=hid hx;have H:=hid h;have c4:=hid (show bs++A2r ind (op+1) (decide (0=0)) ((L.drop 0).map (λy=>(A7y d ind so its true y).2))=v from E);have HL:=hid hL;have HP:=hid c2;have b8:=hid hb;have a7:=hid hs;have c0:=hid IH;clear h hx hL c2 hb hs IH E a4;have e9:((N:Int)==0)=false:=bqF (by omega);have a3:=hid c8;have c6:=hid d4;clear c8 d4;go_enter Tryz.func45,Tryz.ntmps45
 go_wp2_with fail
 refine Calls.mono HP.out ?_;rintro e w1 ⟨hh,rfl,a9,d6,W⟩;have V:=H.fr a9;have M:=hid (H.ws.same a9);have a6:=hid W;have e7:=hid d6;obtain⟨-,-,-,c5,cf⟩:=V.wcells;have c7:=hid (show WS w (w1.setCell ⟨B,5,none⟩ (.int .i64 ((op:Int)+1))) B g ig cap its beh nx ind so (op+1) vo vo bs from M.setOp (op+1));have J:=hid (M.rowOp W (.int .i64 ((op:Int)+1)));clear a9 d6 W V;go_wp2
 go_loopw [22] (λiv wr=>∃(i:Nat) (a2:Value) (O:LU8),iv=.int .i64 (i:Int)/\i<=N/\Hid (WS w wr B g ig cap its beh nx ind so (op+1) vo a2 O)/\Hid (wr.ownsRow 0 3 1 (.slice (some ⟨hh,0,none⟩) N N) N (L.map D1w))/\Hid (O++A2r ind (op+1) (decide (i=0)) ((L.drop i).map (λy=>(A7y d ind so its true y).2))=v)) (λiv _=>N-(intOf iv).toNat)
 case atStart=>exact⟨0,vo,bs,rfl,Nat.zero_le _,c7,J,c4⟩
 case round=>
  clear c4 c7 J c5 cf M a6;obtain⟨i,a2,O,rfl,f0,o,hR,hT⟩:=hrel;by_cases hi:i<N
  ·have hz:(i:Int)<(N:Int):=by omega
   have b3:i<L.length:=by rw[a3.out];exact hi
   obtain⟨q,hq⟩:∃q,L[i]=q:=⟨_,rfl⟩;have d8:q∈L:=hq▸List.getElem_mem b3;have r0:=A2c hR.out i (.int .i64 (q:Int)) (by rw[List.getElem?_map,List.getElem?_eq_getElem b3,hq];rfl);have d5:L.drop i=q::L.drop (i+1):=by rw[List.drop_eq_getElem_cons b3,hq]
   have n:=hT.out;rw[d5,List.map_cons,C0y]at n;have b4:=HL.out q d8;have c1:=hid b4;obtain⟨xk,a1,e1,a0,e2⟩:∃x,its[q]? =some x/\x.k=4/\A0z x=true/\A0i d (its.drop (q+1))≠0:=by simpa[A7n]using b4
   have d7:A5y its q=xk.s:=C3w a1;have ht:(A7y d ind so its true q).2=A7h ind xk.s++wrD ind so d (its.drop (q+1)):=by unfold A7y;rw[if_pos rfl,d7]
   rw[ht]at n
   have hU:isU xk.s=true:=by
    unfold A0z at a0;rw[if_neg (by omega),if_neg (by omega),if_pos e1]at a0;simp at a0;exact a0.2
   have f2:=a7.out xk (List.mem_of_getElem? a1);have t:=hid n;clear hT n d5 d8 b4 hq;have D:=c6.out;rw[<-t.out]at D;simp only[List.length_append]at D;have a:=hid D;by_cases Y:i=0
   ·have e4:¬(0:Int)<(i:Int):=by omega
    have S:decide (i=0)=true:=dcT Y;rw[S]at t a;simp only[if_true]at t;simp only[if_true,List.length_nil]at a;clear S Y;have j:=hid o.out;have K:=hid hR.out;clear o hR
    go_wp2_with fail
    have r:=hid (A6s B _ _ _ nx ind so (op+1) _ _ j.pin.wat T U (by omega) (by have:=a.out;omega));refine Calls.mono r.out ?_;rintro e w3 ⟨rfl,z⟩;have P:=z.keepR j.pin.wat K.out;obtain⟨b5,l⟩:=j.step z;have c:=hid l;have G:=hid P;obtain⟨b0,b1,-,-,-⟩:=l.pin.wcells;obtain⟨x0,-,-,-⟩:=l.pin.cells c3.out;clear z P l r j K;simp only at x0;have e5:(p:Int)<(its.length:Int):=by omega
    go_wp2_with fail
    have F:=hid (B7d B w3 _ _ nx ind so (op+1) _ b5 _ its q xk c.pin.wat c.pin.items a1 hU (by have:=a.out;simp only[List.length_append];omega) hl);refine Calls.mono F.out ?_;rintro e w4 ⟨rfl,A⟩;have Q:=A.keepR c.pin.wat G.out;obtain⟨b6,m⟩:=c.step A;have f:=hid m;have I:=hid Q;obtain⟨d0,d1,-,-,-⟩:=m.pin.wcells;obtain⟨q1,q2,q3,-⟩:=m.pin.nextO (d:=d) (by omega) c1.out;have e6:(q:Int)<(its.length:Int):=by omega
    clear A Q m F c G b0 b1 x0
    go_wp2_with fail
    have u:=hid (c0.out w4 B g ig cap its beh nx ind so (op+1) _ b6 _ (q+1) f.pin (by omega) T U hl a7.out b8.out e2 (by have:=a.out;simp only[List.length_append];omega))
    (try simp only[Int.natCast_add,Int.cast_ofNat_Int]at u)
    refine Calls.mono u.out ?_;rintro e w5 ⟨rfl,C⟩;have R:=C.keepR f.pin.wat I.out;obtain⟨b7,X⟩:=f.step C;have a8:=hid X;have a5:=hid R;clear C R X u f I;go_wp2;go_roundw
    case rel=>
     refine⟨i+1,b7,_,by simp,by omega,a8,a5,hid ?_⟩;have hf:decide (i+1=0)=false:=dcF (by omega);rw[hf,<-t.out];simp only[List.append_assoc,List.nil_append]
    case measure=>simp only[intOf];omega
   ·have e4:(0:Int)<(i:Int):=by omega
    have S:decide (i=0)=false:=dcF Y;rw[S]at t a;simp only[Bool.false_eq_true,if_false]at t;simp only[Bool.false_eq_true,if_false,List.length_singleton]at a;clear S Y;have b9:=hid (show Calls Tryz.prog 44 #[.pointer (some ⟨B,6,none⟩),.int .u8 44] wr _ from A1r B wr _ _ nx ind so (op+1) _ a2 O 44 o.pin.wat (by have:=a.out;omega))
    go_wp2_with fail
    refine Calls.mono b9.out ?_;rintro e w2 ⟨rfl,b2⟩;have d2:=b2.keepR o.pin.wat hR.out;obtain⟨f3,d9⟩:=o.step b2;have j:=hid d9;have K:=hid d2;clear b2 d2 d9 b9 o hR r0
    go_wp2_with fail
    have r:=hid (A6s B _ _ _ nx ind so (op+1) _ _ j.pin.wat T U (by omega) (by have:=a.out;simp only[List.length_append,List.length_singleton];omega));refine Calls.mono r.out ?_;rintro e w3 ⟨rfl,z⟩;have P:=z.keepR j.pin.wat K.out;obtain⟨b5,l⟩:=j.step z;have c:=hid l;have G:=hid P;obtain⟨b0,b1,-,-,-⟩:=l.pin.wcells;obtain⟨x0,-,-,-⟩:=l.pin.cells c3.out;clear z P l r j K;simp only at x0;have e5:(p:Int)<(its.length:Int):=by omega
    go_wp2_with fail
    have F:=hid (B7d B w3 _ _ nx ind so (op+1) _ b5 _ its q xk c.pin.wat c.pin.items a1 hU (by have:=a.out;simp only[List.length_append,List.length_singleton];omega) hl);refine Calls.mono F.out ?_;rintro e w4 ⟨rfl,A⟩;have Q:=A.keepR c.pin.wat G.out;obtain⟨b6,m⟩:=c.step A;have f:=hid m;have I:=hid Q;obtain⟨d0,d1,-,-,-⟩:=m.pin.wcells;obtain⟨q1,q2,q3,-⟩:=m.pin.nextO (d:=d) (by omega) c1.out;have e6:(q:Int)<(its.length:Int):=by omega
    clear A Q m F c G b0 b1 x0
    go_wp2_with fail
    have u:=hid (c0.out w4 B g ig cap its beh nx ind so (op+1) _ b6 _ (q+1) f.pin (by omega) T U hl a7.out b8.out e2 (by have:=a.out;simp only[List.length_append,List.length_singleton];omega))
    (try simp only[Int.natCast_add,Int.cast_ofNat_Int]at u)
    refine Calls.mono u.out ?_;rintro e w5 ⟨rfl,C⟩;have R:=C.keepR f.pin.wat I.out;obtain⟨b7,X⟩:=f.step C;have a8:=hid X;have a5:=hid R;clear C R X u f I;go_wp2;go_roundw
    case rel=>
     refine⟨i+1,b7,_,by simp,by omega,a8,a5,hid ?_⟩;have hf:decide (i+1=0)=false:=dcF (by omega);rw[hf,<-t.out];simp only[List.append_assoc]
    case measure=>simp only[intOf];omega
  ·obtain rfl:i=N:=by omega
   have hz:¬(i:Int)<(i:Int):=by omega
   have n:=hT.out;rw[List.drop_of_length_le (by rw[a3.out];exact Nat.le_refl _),List.map_nil]at n;have d3:O=v:=by rw[<-n];simp[A2r]
   have Z:=o.out;rw[d3]at Z;obtain⟨-,-,-,c5,cf⟩:=Z.pin.wcells;have HE:=hid (show WS w (wr.setCell ⟨B,5,none⟩ (.int .i64 (op:Int))) B g ig cap its beh nx ind so op vo a2 v from Z.setOp op);have r:=hid (A6s B _ _ _ nx ind so op _ _ HE.pin.wat T U (by omega) (by have:=c6.out;omega));clear hT n d3 o hR Z
   go_wp2_with fail
   refine Calls.mono r.out ?_;rintro e w6 ⟨rfl,c9⟩;obtain⟨f4,e0⟩:=HE.step c9;have e3:=hid e0;clear c9 e0;go_wp2;go_end0;exact⟨rfl,e3.post⟩
end Go.Proofs.YtmkkibaacclhnaaGreatDoor
