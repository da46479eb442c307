/-
  Part Vs.
-/
import Derived.Test.YtmkkibaacclhnaaGreatDoorVr
namespace Go.Proofs.YtmkkibaacclhnaaGreatDoor
open Go.RowKit
set_option maxRecDepth 100000
set_option maxHeartbeats 16000000
theorem B2c (w:World) (B g l cap:Nat) (its:List Im) (beh:List Nat) (m d:Int) (so:Bool) (k:Nat) (j:Value) (bs:LU8) (p:Nat) (L:List Nat) (h:PIn w B g l cap its beh m d so k (.pointer (some ⟨B,6,none⟩)) j bs) (a:Calls Tryz.prog 73 #[.pointer (some ⟨B,0,none⟩),.int .i64 (p:Int)] w (B7i w 0 L)):
 Calls Tryz.prog 45 #[.pointer (some ⟨B,0,none⟩),.int .i64 (p:Int)] w λe w'=>e=.returned (.tuple #[])/\A2d B w (.slice (some ⟨l,0,none⟩) its.length cap) (.slice (some ⟨g,0,none⟩) its.length its.length) m d so k j bs w':=by
 have H:=hid h;have n:=hid a;clear h a;go_enter Tryz.func45,Tryz.ntmps45
 go_wp2_with fail
 refine Calls.mono n.out ?_;rintro e o ⟨q,rfl,f,i,b⟩;have c:=hid (H.ws.same f);clear f i b;go_wp2
 go_returns
 exact⟨rfl,c.post⟩
theorem A8g {B:Nat} {w f:World} {e d:Value} {g a:Int} {so:Bool} {c:Nat} {b:Value} {bs:LU8} (o:Obj) (h:A2d B (w.alloc o) e d g a so c b bs f):A2d B w e d g a so c b bs f:=
 A2d.trans (((Fr.refl (λi=>i=B\/b.ownBlock=some i) w).alloc o)) (λ_ hg=>.inl hg) h
theorem D9k (w:World) (B g l cap:Nat) (its:List Im) (beh:List Nat) (f a:Int) (so:Bool) (d:Nat) (q c:Value) (bs:LU8) (p:Nat) (n:Int) (b:Nat) (s:LU8) (h:PIn w B g l cap its beh f a so d q c bs) (_hl:its.length<=10000000) (i:its[p]? =some ⟨0,n,b,s⟩) (m:bs.length<=91000000000):
 Calls Tryz.prog 26 #[.pointer (some ⟨B,0,none⟩),.int .i64 (p:Int)] w λe w'=>e=.returned (.tuple #[])/\A2d B w (.slice (some ⟨l,0,none⟩) its.length cap) (.slice (some ⟨g,0,none⟩) its.length its.length) f a so d c (bs++[110,117,108,108]) w':=by
 obtain⟨G,D,E,A,C⟩:=h.wcells;obtain⟨x,r,t,y⟩:=h.cells i;have z:p<its.length:=(List.getElem?_eq_some_iff.1 i).1;have j:=hid (λo=>h.fr ((Fr.refl (λ_=>False) w).alloc o));clear h i;simp only at x r t y;have v:=hid (λo=>show Calls Tryz.prog 42 #[.pointer (some ⟨B,6,none⟩),.string ⟨#[110,117,108,108]⟩] (w.alloc o) _ from A1k B (w.alloc o) _ _ f a so d q c bs [110,117,108,108] (j.out o).wat (by show bs.length+4<=_;omega));go_enter Tryz.func26,Tryz.ntmps26
 go_wp2_with (first|(go_at_call 42;refine Calls.mono (v.out _) ?_;rintro e F ⟨rfl,k⟩;have u:=hid (A8g _ k);clear k)|fail)
 go_end0;exact⟨rfl,u.out⟩
theorem D3e (w:World) (B g l cap:Nat) (its:List Im) (beh:List Nat) (f a:Int) (so:Bool) (d:Nat) (q c:Value) (bs:LU8) (p:Nat) (n:Int) (b:Nat) (s:LU8) (h:PIn w B g l cap its beh f a so d q c bs) (_hl:its.length<=10000000) (i:its[p]? =some ⟨1,n,b,s⟩) (m:bs.length<=91000000000):
 Calls Tryz.prog 26 #[.pointer (some ⟨B,0,none⟩),.int .i64 (p:Int)] w λe w'=>e=.returned (.tuple #[])/\A2d B w (.slice (some ⟨l,0,none⟩) its.length cap) (.slice (some ⟨g,0,none⟩) its.length its.length) f a so d c (bs++[102,97,108,115,101]) w':=by
 obtain⟨G,D,E,A,C⟩:=h.wcells;obtain⟨x,r,t,y⟩:=h.cells i;have z:p<its.length:=(List.getElem?_eq_some_iff.1 i).1;have j:=hid (λo=>h.fr ((Fr.refl (λ_=>False) w).alloc o));clear h i;simp only at x r t y;have v:=hid (λo=>show Calls Tryz.prog 42 #[.pointer (some ⟨B,6,none⟩),.string ⟨#[102,97,108,115,101]⟩] (w.alloc o) _ from A1k B (w.alloc o) _ _ f a so d q c bs [102,97,108,115,101] (j.out o).wat (by show bs.length+5<=_;omega));go_enter Tryz.func26,Tryz.ntmps26
 go_wp2_with (first|(go_at_call 42;refine Calls.mono (v.out _) ?_;rintro e F ⟨rfl,k⟩;have u:=hid (A8g _ k);clear k)|fail)
 go_end0;exact⟨rfl,u.out⟩
theorem D9m (w:World) (B g l cap:Nat) (its:List Im) (beh:List Nat) (f a:Int) (so:Bool) (d:Nat) (q c:Value) (bs:LU8) (p:Nat) (n:Int) (b:Nat) (s:LU8) (h:PIn w B g l cap its beh f a so d q c bs) (_hl:its.length<=10000000) (i:its[p]? =some ⟨2,n,b,s⟩) (m:bs.length<=91000000000):
 Calls Tryz.prog 26 #[.pointer (some ⟨B,0,none⟩),.int .i64 (p:Int)] w λe w'=>e=.returned (.tuple #[])/\A2d B w (.slice (some ⟨l,0,none⟩) its.length cap) (.slice (some ⟨g,0,none⟩) its.length its.length) f a so d c (bs++[116,114,117,101]) w':=by
 obtain⟨G,D,E,A,C⟩:=h.wcells;obtain⟨x,r,t,y⟩:=h.cells i;have z:p<its.length:=(List.getElem?_eq_some_iff.1 i).1;have j:=hid (λo=>h.fr ((Fr.refl (λ_=>False) w).alloc o));clear h i;simp only at x r t y;have v:=hid (λo=>show Calls Tryz.prog 42 #[.pointer (some ⟨B,6,none⟩),.string ⟨#[116,114,117,101]⟩] (w.alloc o) _ from A1k B (w.alloc o) _ _ f a so d q c bs [116,114,117,101] (j.out o).wat (by show bs.length+4<=_;omega));go_enter Tryz.func26,Tryz.ntmps26
 go_wp2_with (first|(go_at_call 42;refine Calls.mono (v.out _) ?_;rintro e F ⟨rfl,k⟩;have u:=hid (A8g _ k);clear k)|fail)
 go_end0;exact⟨rfl,u.out⟩
theorem E6p (w:World) (B g y cap:Nat) (its:List Im) (beh:List Nat) (l c:Int) (so:Bool) (j:Nat) (A i:Value) (bs:LU8) (p:Nat) (n:Int) (b:Nat) (s:LU8) (h:PIn w B g y cap its beh l c so j A i bs) (_hl:its.length<=10000000) (m:its[p]? =some ⟨3,n,b,s⟩) (z:bs.length<=91000000000) (t:b<18446744073709551616) (a:b % 9223372036854775808<9218868437227405312):
 Calls Tryz.prog 26 #[.pointer (some ⟨B,0,none⟩),.int .i64 (p:Int)] w λe w'=>e=.returned (.tuple #[])/\A2d B w (.slice (some ⟨y,0,none⟩) its.length cap) (.slice (some ⟨g,0,none⟩) its.length its.length) l c so j i (bs++A9p b) w':=by
 obtain⟨O,M,N,J,L⟩:=h.wcells;obtain⟨G,C,D,H⟩:=h.cells m;have I:p<its.length:=(List.getElem?_eq_some_iff.1 m).1;have u:=hid (λo=>h.fr ((Fr.refl (λ_=>False) w).alloc o));clear h m;simp only at G C D H;have k:=C3t w b t a;have d:=hid (λo=>C6p b (w.alloc o) t a);have F:=hid (λo f (hf:Fr (λ_=>False) (w.alloc o) f)=>A1k B f _ _ l c so j A i bs (A9p b) ((u.out o).fr hf).wat (by omega));clear t a k;generalize A9p b=T at*;go_enter Tryz.func26,Tryz.ntmps26
 go_wp2_with fail
 refine Calls.mono (d.out _) ?_;rintro e f ⟨rfl,r⟩;have v:=hid (F.out _ f r);have q:=hid (((Fr.refl (λ_=>False) w).alloc _).trans r);clear r d
 go_wp2_with fail
 refine Calls.mono v.out ?_;rintro e K ⟨rfl,x⟩;have E:=hid (A2d.trans (q.mono (λ_=>False.elim)) (λ_ hg=>.inl hg) x);clear x;go_wp2;go_end0;exact⟨rfl,E.out⟩
theorem D9n (w:World) (B g l cap:Nat) (its:List Im) (beh:List Nat) (f a:Int) (so:Bool) (d:Nat) (q c:Value) (bs:LU8) (p:Nat) (n:Int) (b:Nat) (s:LU8) (h:PIn w B g l cap its beh f a so d q c bs) (_hl:its.length<=10000000) (i:its[p]? =some ⟨4,n,b,s⟩) (m:bs.length<=91000000000) (E:s.length<=100000000) (r:isU s=true):
 Calls Tryz.prog 26 #[.pointer (some ⟨B,0,none⟩),.int .i64 (p:Int)] w λe w'=>e=.returned (.tuple #[])/\A2d B w (.slice (some ⟨l,0,none⟩) its.length cap) (.slice (some ⟨g,0,none⟩) its.length its.length) f a so d c (bs++A3g s) w':=by
 obtain⟨I,F,G,C,D⟩:=h.wcells;obtain⟨y,t,u,z⟩:=h.cells i;have A:p<its.length:=(List.getElem?_eq_some_iff.1 i).1;have j:=hid (λo=>h.fr ((Fr.refl (λ_=>False) w).alloc o));clear h i;simp only at y t u z;have x:=hid (λo=>B5e B (w.alloc o) _ _ f a so d q c bs s (j.out o).wat r (by omega));clear r;go_enter Tryz.func26,Tryz.ntmps26
 go_wp2_with (first|(go_at_call 43;refine Calls.mono (x.out _) ?_;rintro e H ⟨rfl,k⟩;have v:=hid (A8g _ k);clear k)|fail)
 go_end0;exact⟨rfl,v.out⟩
theorem D0h (w:World) (B g u cap:Nat) (its:List Im) (beh:List Nat) (l a:Int) (so:Bool) (k:Nat) (I v:Value) (bs:LU8) (p:Nat) (n:Int) (b:Nat) (s d:LU8) (h:PIn w B g u cap its beh l a so k I v bs) (_hl:its.length<=10000000) (z:its[p]? =some ⟨5,n,b,s⟩) (F:bs.length<=91000000000)
 (m:∀r c bs2,PIn r B g u cap its beh l a so k (.pointer (some ⟨B,6,none⟩)) c bs2->bs2.length+d.length<=90000000000->Calls Tryz.prog 45 #[.pointer (some ⟨B,0,none⟩),.int .i64 (p:Int)] r λe w'=>e=.returned (.tuple #[])/\A2d B r (.slice (some ⟨u,0,none⟩) its.length cap) (.slice (some ⟨g,0,none⟩) its.length its.length) l a so k c (bs2++d) w') (H:bs.length+1+d.length<=90000000000):
 Calls Tryz.prog 26 #[.pointer (some ⟨B,0,none⟩),.int .i64 (p:Int)] w λe w'=>e=.returned (.tuple #[])/\A2d B w (.slice (some ⟨u,0,none⟩) its.length cap) (.slice (some ⟨g,0,none⟩) its.length its.length) l a so k v (bs++(91::(d++[93]))) w':=by
 obtain⟨W,U,V,R,S⟩:=h.wcells;obtain⟨O,K,L,P⟩:=h.cells z;have Q:p<its.length:=(List.getElem?_eq_some_iff.1 z).1;have t:=hid (λo=>h.fr ((Fr.refl (λ_=>False) w).alloc o));clear h z;simp only at O K L P;have D:=hid (λo=>show Calls Tryz.prog 44 #[.pointer (some ⟨B,6,none⟩),.int .u8 91] (w.alloc o) _ from A1r B (w.alloc o) _ _ l a so k I v bs 91 (t.out o).wat (by omega));have C:=hid m;clear m;go_enter Tryz.func26,Tryz.ntmps26
 go_wp2_with fail
 refine Calls.mono (D.out _) ?_;rintro e r ⟨rfl,f⟩;obtain⟨c,j⟩:=(t.out _).step f;have A:=hid j;have J:=hid (C.out r c _ j.pin (by simp only[List.length_append,List.length_singleton];omega));clear f j C D
 go_wp2_with fail
 refine Calls.mono J.out ?_;rintro e E ⟨rfl,f⟩;obtain⟨y,i⟩:=A.step f;have x:=hid i;have G:=hid (show Calls Tryz.prog 44 #[.pointer (some ⟨B,6,none⟩),.int .u8 93] E _ from A1r B E _ _ l a so k _ y _ 93 i.pin.wat (by simp only[List.length_append,List.length_singleton];omega));clear f i J
 go_wp2_with fail
 refine Calls.mono G.out ?_;rintro e T ⟨rfl,f⟩;obtain⟨M,q⟩:=x.step f;have N:=hid (A8g _ q.post);clear f q G;go_wp2;go_end0;refine⟨rfl,?_⟩;have:=N.out;simp only[List.append_assoc,List.singleton_append]at this;exact this
theorem D0i (w:World) (B g u cap:Nat) (its:List Im) (beh:List Nat) (l a:Int) (so:Bool) (k:Nat) (I v:Value) (bs:LU8) (p:Nat) (n:Int) (b:Nat) (s d:LU8) (h:PIn w B g u cap its beh l a so k I v bs) (_hl:its.length<=10000000) (z:its[p]? =some ⟨6,n,b,s⟩) (F:bs.length<=91000000000)
 (m:∀r c bs2,PIn r B g u cap its beh l a so k (.pointer (some ⟨B,6,none⟩)) c bs2->bs2.length+d.length<=90000000000->Calls Tryz.prog 45 #[.pointer (some ⟨B,0,none⟩),.int .i64 (p:Int)] r λe w'=>e=.returned (.tuple #[])/\A2d B r (.slice (some ⟨u,0,none⟩) its.length cap) (.slice (some ⟨g,0,none⟩) its.length its.length) l a so k c (bs2++d) w') (H:bs.length+1+d.length<=90000000000):
 Calls Tryz.prog 26 #[.pointer (some ⟨B,0,none⟩),.int .i64 (p:Int)] w λe w'=>e=.returned (.tuple #[])/\A2d B w (.slice (some ⟨u,0,none⟩) its.length cap) (.slice (some ⟨g,0,none⟩) its.length its.length) l a so k v (bs++(123::(d++[125]))) w':=by
 obtain⟨W,U,V,R,S⟩:=h.wcells;obtain⟨O,K,L,P⟩:=h.cells z;have Q:p<its.length:=(List.getElem?_eq_some_iff.1 z).1;have t:=hid (λo=>h.fr ((Fr.refl (λ_=>False) w).alloc o));clear h z;simp only at O K L P;have D:=hid (λo=>show Calls Tryz.prog 44 #[.pointer (some ⟨B,6,none⟩),.int .u8 123] (w.alloc o) _ from A1r B (w.alloc o) _ _ l a so k I v bs 123 (t.out o).wat (by omega));have C:=hid m;clear m;go_enter Tryz.func26,Tryz.ntmps26
 go_wp2_with fail
 refine Calls.mono (D.out _) ?_;rintro e r ⟨rfl,f⟩;obtain⟨c,j⟩:=(t.out _).step f;have A:=hid j;have J:=hid (C.out r c _ j.pin (by simp only[List.length_append,List.length_singleton];omega));clear f j C D
 go_wp2_with fail
 refine Calls.mono J.out ?_;rintro e E ⟨rfl,f⟩;obtain⟨y,i⟩:=A.step f;have x:=hid i;have G:=hid (show Calls Tryz.prog 44 #[.pointer (some ⟨B,6,none⟩),.int .u8 125] E _ from A1r B E _ _ l a so k _ y _ 125 i.pin.wat (by simp only[List.length_append,List.length_singleton];omega));clear f i J
 go_wp2_with fail
 refine Calls.mono G.out ?_;rintro e T ⟨rfl,f⟩;obtain⟨M,q⟩:=x.step f;have N:=hid (A8g _ q.post);clear f q G;go_wp2;go_end0;refine⟨rfl,?_⟩;have:=N.out;simp only[List.append_assoc,List.singleton_append]at this;exact this
theorem E6q {L:List Nat} {n:Nat} (h:∀y,y∈L->y<n) (c:L.Pairwise (·< ·)):L.length<=n:=by
 have a:∀(L:List Nat) (b:Nat),(∀y,y∈L->b<=y/\y<n)->L.Pairwise (·< ·)->L.length+b<=n\/L=[]:=by
  intro L
  induction L with
  |nil=>exactλ_ _ _=>.inr rfl
  |cons y L ih=>
   intro b d c;obtain⟨f,g⟩:=List.pairwise_cons.1 c;have e:=d y (by simp);rcases ih (y+1) (λz hz=>⟨f z hz,(d z (by simp[hz])).2⟩) g with h|h
   ·exact .inl (by rw[List.length_cons];omega)
   ·subst h;exact .inl (by simp;omega)
 rcases a L 0 (λy e=>⟨Nat.zero_le _,h y e⟩) c with h|h
 ·omega
 ·subst h;exact Nat.zero_le _
theorem C3y (d:Nat) (IH:∀e,d=e+1->C0x e):C0x d:=by
 intro w B g q cap its beh l a so f G C bs p h a5 X P v hs hb K c;have a4:=A5w d (its.drop p);rw[List.length_drop]at a4;have Z:p<its.length:=by omega
 have u:its[p]? =some its[p]:=List.getElem?_eq_getElem Z;have U:its.drop p=its[p]::its.drop (p+1):=List.drop_eq_getElem_cons Z;obtain⟨x,a1⟩:∃x,its[p]=x:=⟨_,rfl⟩;rw[a1]at u U;have J:x∈its:=List.mem_of_getElem? u;rw[U]at K c ⊢
 have z:A0z x=true:=by
  by_cases z:A0z x=true
  ·exact z
  ·exfalso
   apply K;cases d with
   |zero=>rw[A0i,if_neg (λh=>z h.1)]
   |succ e=>rw[A0i,if_neg z]
 have a0:=D3a z;by_cases O:x.k<5
 ·have hT:wrD a so d (x::its.drop (p+1))=B3v x:=by
   cases d with
   |zero=>rfl
   |succ e=>simp only[wrD];rw[if_pos O]
  rw[hT]at c ⊢;have D:bs.length<=91000000000:=by omega
  have W:=hs x J;have Y:=hb x J;have H:=B5h z
  have I:x.k=4->isU x.s=true:=λh4=>by
   unfold A0z at z;rw[if_neg (by omega),if_neg (by omega),if_pos h4]at z;simp at z;exact z.2
  obtain⟨k,n,b,s⟩:=x;simp only at O a0 W Y H I;unfold B3v;simp only;by_cases h0:k=0
  ·subst h0;exact D9k w B g q cap its beh l a so f G C bs p n b s h v u D
  rw[if_neg h0];by_cases h1:k=1
  ·subst h1;exact D3e w B g q cap its beh l a so f G C bs p n b s h v u D
  rw[if_neg h1];by_cases o:k=2
  ·subst o;exact D9m w B g q cap its beh l a so f G C bs p n b s h v u D
  rw[if_neg o];by_cases h3:k=3
  ·subst h3;exact E6p w B g q cap its beh l a so f G C bs p n b s h v u D Y (H rfl)
  rw[if_neg h3];obtain rfl:k=4:=by omega
  exact D9n w B g q cap its beh l a so f G C bs p n b s h v u D W (I rfl)
 ·cases d with
  |zero=>rw[A0i,if_neg (λh=>O h.2)]at K;exact absurd rfl K
  |succ e=>
   obtain⟨T,a2⟩:=A5i z O;have S:=IH e rfl;rw[A0i,if_pos z,if_neg O]at K;cases i:A0m (A0i e) (decide (x.k=6)) x.n.toNat (its.drop (p+1))with
   |none=>rw[i]at K;exact absurd rfl K
   |some m=>
    have a6:=C9a (A5w e) _ _ _ _ i
    have hW:wrD a so (e+1) (x::its.drop (p+1))=A7w a f (decide (x.k=6)) ((D9f (A5y its) (so&&decide (x.k=6)) (A1n e its (decide (x.k=6)) x.n.toNat (p+1))).map (λy=>(A7y e a so its (decide (x.k=6)) y).2)):=by
     simp only[wrD];rw[if_neg O,E6j e a so its (decide (x.k=6)) x.n.toNat (p+1) m i,show 999-e=f by omega]
    rw[hW]at c ⊢;obtain⟨R,Q,a3⟩:=C0v e its (decide (x.k=6)) x.n.toNat (p+1) m i;have A:=E6i (A5y its) (so&&decide (x.k=6)) (A1n e its (decide (x.k=6)) x.n.toNat (p+1)) R;have t:(D9f (A5y its) (so&&decide (x.k=6)) (A1n e its (decide (x.k=6)) x.n.toNat (p+1))).length=x.n.toNat:=A.length_eq.trans a3;have r:∀y,y∈D9f (A5y its) (so&&decide (x.k=6)) (A1n e its (decide (x.k=6)) x.n.toNat (p+1))->A7n e its (decide (x.k=6)) y:=λy hy=>(Q y (A.mem_iff.1 hy)).2
    have j:x.n.toNat<=its.length:=by
     have:=E6q (λy hy=>(Q y hy).2.lt) R;omega
    obtain⟨k,n,b,s⟩:=x;simp only at T a2 i c t r j O;obtain⟨N,rfl⟩:∃N:Nat,n=N:=⟨n.toNat,by omega⟩;simp only[Int.toNat_natCast]at i c t r j ⊢;rcases T with rfl|rfl
    ·simp only[show decide ((5:Int)=6)=false from rfl,Bool.and_false]at i c t r ⊢
     obtain⟨L,V⟩:∃L,D9f (A5y its) false (A1n e its false N (p+1))=L:=⟨_,rfl⟩
     have E:∀w2 ad2 vo2 bs2,PIn w2 B g q cap its beh l a so f ad2 vo2 bs2->Calls Tryz.prog 73 #[.pointer (some ⟨B,0,none⟩),.int .i64 (p:Int)] w2 (B7i w2 N L):=λw2 ad2 vo2 bs2 o=>by
      rw[<-V];exact E6n e w2 B g q cap its beh l a so f ad2 vo2 bs2 p N b m s o (by omega) v u j i
     rw[V]at c t r ⊢;by_cases F:N=0
     ·have M:L=[]:=List.eq_nil_of_length_eq_zero (by omega)
      subst M;subst F
      show Calls _ _ _ _ (λe w'=>e=.returned (.tuple #[])/\A2d B w _ _ l a so f C (bs++(91::([]++[93]))) w')
      refine D0h w B g q cap its beh l a so f G C bs p 0 b s [] h v u (by omega) (λw2 vo2 bs2 o _=>?_) (by simp only[A7w]at c;simp at c ⊢;omega);rw[List.append_nil];exact B2c w2 B g q cap its beh l a so f vo2 bs2 p [] o (E w2 _ vo2 bs2 o)
     ·have hj:A7w a f false (L.map (λy=>(A7y e a so its false y).2))=91::((A2r a (f+1) true (L.map (λy=>(A7y e a so its false y).2))++A6p a f)++[93]):=by
       unfold A7w;rw[if_neg (by rw[List.length_map];omega)];rfl
      rw[hj]at c ⊢;simp only[List.length_cons,List.length_append,List.length_nil]at c;refine D0h w B g q cap its beh l a so f G C bs p N b s _ h v u (by omega) (λw2 vo2 bs2 o hl2=>?_) (by simp only[List.length_append];omega);exact C2c e S w2 B g q cap its beh l a so f vo2 bs2 p N b s L o (by omega) X P v hs hb u F j r t (E w2 _ vo2 bs2 o) hl2
    ·simp only[decide_true,Bool.and_true]at i c t r ⊢
     obtain⟨L,V⟩:∃L,D9f (A5y its) so (A1n e its true N (p+1))=L:=⟨_,rfl⟩
     have E:∀w2 ad2 vo2 bs2,PIn w2 B g q cap its beh l a so f ad2 vo2 bs2->Calls Tryz.prog 73 #[.pointer (some ⟨B,0,none⟩),.int .i64 (p:Int)] w2 (B7i w2 N L):=λw2 ad2 vo2 bs2 o=>by
      rw[<-V];cases so
      ·exact D9i e w2 B g q cap its beh l a f ad2 vo2 bs2 p N b m s o (by omega) v u j i
      ·exact D9j e w2 B g q cap its beh l a f ad2 vo2 bs2 p N b m s o (by omega) v u j i
     rw[V]at c t r ⊢;by_cases F:N=0
     ·have M:L=[]:=List.eq_nil_of_length_eq_zero (by omega)
      subst M;subst F
      show Calls _ _ _ _ (λe w'=>e=.returned (.tuple #[])/\A2d B w _ _ l a so f C (bs++(123::([]++[125]))) w')
      refine D0i w B g q cap its beh l a so f G C bs p 0 b s [] h v u (by omega) (λw2 vo2 bs2 o _=>?_) (by simp only[A7w]at c;simp at c ⊢;omega);rw[List.append_nil];exact B2c w2 B g q cap its beh l a so f vo2 bs2 p [] o (E w2 _ vo2 bs2 o)
     ·have hj:A7w a f true (L.map (λy=>(A7y e a so its true y).2))=123::((A2r a (f+1) true (L.map (λy=>(A7y e a so its true y).2))++A6p a f)++[125]):=by
       unfold A7w;rw[if_neg (by rw[List.length_map];omega)];rfl
      rw[hj]at c ⊢;simp only[List.length_cons,List.length_append,List.length_nil]at c;refine D0i w B g q cap its beh l a so f G C bs p N b s _ h v u (by omega) (λw2 vo2 bs2 o hl2=>?_) (by simp only[List.length_append];omega);exact C2d e S w2 B g q cap its beh l a so f vo2 bs2 p N b s L o (by omega) X P v hs hb u F j r t (E w2 _ vo2 bs2 o) hl2
theorem E6r (d:Nat):C0x d:=by
 induction d with
 |zero=>exact C3y 0 (λe he=>by omega)
 |succ d ih=>exact C3y (d+1) (λe he=>by
   have:d=e:=by omega
   subst this
   exact ih)
end Go.Proofs.YtmkkibaacclhnaaGreatDoor
