/-
  Part Vs.
-/
import Derived.Test.YtmkkibaacclhnaaGreatDoorVr
namespace Go.Proofs.YtmkkibaacclhnaaGreatDoor
open Go.RowKit
set_option maxRecDepth 100000
set_option maxHeartbeats 16000000
theorem B2c (w:World) (B g j cap:Nat) (its:List Im) (beh:List Nat) (k f:Int) (so:Bool) (l:Nat) (m:Value) (bs:LU8) (p:Nat) (L:List Nat) (h:PIn w B g j cap its beh k f so l (.pointer (some ⟨B,6,none⟩)) m bs) (a:Calls Tryz.prog 73 #[.pointer (some ⟨B,0,none⟩),.int .i64 (p:Int)] w (B7i w 0 L)):
 Calls Tryz.prog 45 #[.pointer (some ⟨B,0,none⟩),.int .i64 (p:Int)] w λe w'=>e=.returned (.tuple #[])/\A2d B w (.slice (some ⟨j,0,none⟩) its.length cap) (.slice (some ⟨g,0,none⟩) its.length its.length) k f so l m bs w':=by
 have H:=hid h;have n:=hid a;clear h a;go_enter Tryz.func45,Tryz.ntmps45
 go_wp2_with fail
 refine Calls.mono n.out ?_;rintro e q ⟨o,rfl,c,i,d⟩;have b:=hid (H.ws.same c);clear c i d;go_wp2
 go_returns
 exact⟨rfl,b.post⟩
theorem A8g {B:Nat} {w g:World} {f e:Value} {c a:Int} {so:Bool} {d:Nat} {b:Value} {bs:LU8} (o:Obj) (h:A2d B (w.alloc o) f e c a so d b bs g):A2d B w f e c a so d b bs g:=
 A2d.trans (((Fr.refl (λi=>i=B\/b.ownBlock=some i) w).alloc o)) (λ_ hg=>.inl hg) h
theorem D9k (w:World) (B g q cap:Nat) (its:List Im) (beh:List Nat) (f a:Int) (so:Bool) (i:Nat) (k j:Value) (bs:LU8) (p:Nat) (n:Int) (b:Nat) (s:LU8) (h:PIn w B g q cap its beh f a so i k j bs) (_hl:its.length<=10000000) (d:its[p]? =some ⟨0,n,b,s⟩) (m:bs.length<=91000000000):
 Calls Tryz.prog 26 #[.pointer (some ⟨B,0,none⟩),.int .i64 (p:Int)] w λe w'=>e=.returned (.tuple #[])/\A2d B w (.slice (some ⟨q,0,none⟩) its.length cap) (.slice (some ⟨g,0,none⟩) its.length its.length) f a so i j (bs++[110,117,108,108]) w':=by
 obtain⟨z,A,C,D,E⟩:=h.wcells;obtain⟨u,v,x,y⟩:=h.cells d;have F:p<its.length:=(List.getElem?_eq_some_iff.1 d).1;have c:=hid (λo=>h.fr ((Fr.refl (λ_=>False) w).alloc o));clear h d;simp only at u v x y;have t:=hid (λo=>show Calls Tryz.prog 42 #[.pointer (some ⟨B,6,none⟩),.string ⟨#[110,117,108,108]⟩] (w.alloc o) _ from A1k B (w.alloc o) _ _ f a so i k j bs [110,117,108,108] (c.out o).wat (by show bs.length+4<=_;omega));go_enter Tryz.func26,Tryz.ntmps26
 go_wp2_with (first|(go_at_call 42;refine Calls.mono (t.out _) ?_;rintro e G ⟨rfl,l⟩;have r:=hid (A8g _ l);clear l)|fail)
 go_end0;exact⟨rfl,r.out⟩
theorem D3e (w:World) (B g q cap:Nat) (its:List Im) (beh:List Nat) (f a:Int) (so:Bool) (i:Nat) (k j:Value) (bs:LU8) (p:Nat) (n:Int) (b:Nat) (s:LU8) (h:PIn w B g q cap its beh f a so i k j bs) (_hl:its.length<=10000000) (d:its[p]? =some ⟨1,n,b,s⟩) (m:bs.length<=91000000000):
 Calls Tryz.prog 26 #[.pointer (some ⟨B,0,none⟩),.int .i64 (p:Int)] w λe w'=>e=.returned (.tuple #[])/\A2d B w (.slice (some ⟨q,0,none⟩) its.length cap) (.slice (some ⟨g,0,none⟩) its.length its.length) f a so i j (bs++[102,97,108,115,101]) w':=by
 obtain⟨z,A,C,D,E⟩:=h.wcells;obtain⟨u,v,x,y⟩:=h.cells d;have F:p<its.length:=(List.getElem?_eq_some_iff.1 d).1;have c:=hid (λo=>h.fr ((Fr.refl (λ_=>False) w).alloc o));clear h d;simp only at u v x y;have t:=hid (λo=>show Calls Tryz.prog 42 #[.pointer (some ⟨B,6,none⟩),.string ⟨#[102,97,108,115,101]⟩] (w.alloc o) _ from A1k B (w.alloc o) _ _ f a so i k j bs [102,97,108,115,101] (c.out o).wat (by show bs.length+5<=_;omega));go_enter Tryz.func26,Tryz.ntmps26
 go_wp2_with (first|(go_at_call 42;refine Calls.mono (t.out _) ?_;rintro e G ⟨rfl,l⟩;have r:=hid (A8g _ l);clear l)|fail)
 go_end0;exact⟨rfl,r.out⟩
theorem D9m (w:World) (B g q cap:Nat) (its:List Im) (beh:List Nat) (f a:Int) (so:Bool) (i:Nat) (k j:Value) (bs:LU8) (p:Nat) (n:Int) (b:Nat) (s:LU8) (h:PIn w B g q cap its beh f a so i k j bs) (_hl:its.length<=10000000) (d:its[p]? =some ⟨2,n,b,s⟩) (m:bs.length<=91000000000):
 Calls Tryz.prog 26 #[.pointer (some ⟨B,0,none⟩),.int .i64 (p:Int)] w λe w'=>e=.returned (.tuple #[])/\A2d B w (.slice (some ⟨q,0,none⟩) its.length cap) (.slice (some ⟨g,0,none⟩) its.length its.length) f a so i j (bs++[116,114,117,101]) w':=by
 obtain⟨z,A,C,D,E⟩:=h.wcells;obtain⟨u,v,x,y⟩:=h.cells d;have F:p<its.length:=(List.getElem?_eq_some_iff.1 d).1;have c:=hid (λo=>h.fr ((Fr.refl (λ_=>False) w).alloc o));clear h d;simp only at u v x y;have t:=hid (λo=>show Calls Tryz.prog 42 #[.pointer (some ⟨B,6,none⟩),.string ⟨#[116,114,117,101]⟩] (w.alloc o) _ from A1k B (w.alloc o) _ _ f a so i k j bs [116,114,117,101] (c.out o).wat (by show bs.length+4<=_;omega));go_enter Tryz.func26,Tryz.ntmps26
 go_wp2_with (first|(go_at_call 42;refine Calls.mono (t.out _) ?_;rintro e G ⟨rfl,l⟩;have r:=hid (A8g _ l);clear l)|fail)
 go_end0;exact⟨rfl,r.out⟩
theorem E6p (w:World) (B g A cap:Nat) (its:List Im) (beh:List Nat) (t c:Int) (so:Bool) (u:Nat) (x v:Value) (bs:LU8) (p:Nat) (n:Int) (b:Nat) (s:LU8) (h:PIn w B g A cap its beh t c so u x v bs) (_hl:its.length<=10000000) (r:its[p]? =some ⟨3,n,b,s⟩) (z:bs.length<=91000000000) (m:b<18446744073709551616) (a:b % 9223372036854775808<9218868437227405312):
 Calls Tryz.prog 26 #[.pointer (some ⟨B,0,none⟩),.int .i64 (p:Int)] w λe w'=>e=.returned (.tuple #[])/\A2d B w (.slice (some ⟨A,0,none⟩) its.length cap) (.slice (some ⟨g,0,none⟩) its.length its.length) t c so u v (bs++A9p b) w':=by
 obtain⟨I,J,K,L,M⟩:=h.wcells;obtain⟨E,F,G,H⟩:=h.cells r;have N:p<its.length:=(List.getElem?_eq_some_iff.1 r).1;have j:=hid (λo=>h.fr ((Fr.refl (λ_=>False) w).alloc o));clear h r;simp only at E F G H;have q:=C3t w b m a;have d:=hid (λo=>C6p b (w.alloc o) m a);have D:=hid (λo f (hf:Fr (λ_=>False) (w.alloc o) f)=>A1k B f _ _ t c so u x v bs (A9p b) ((j.out o).fr hf).wat (by omega));clear m a q;generalize A9p b=T at*;go_enter Tryz.func26,Tryz.ntmps26
 go_wp2_with fail
 refine Calls.mono (d.out _) ?_;rintro e f ⟨rfl,l⟩;have k:=hid (D.out _ f l);have i:=hid (((Fr.refl (λ_=>False) w).alloc _).trans l);clear l d
 go_wp2_with fail
 refine Calls.mono k.out ?_;rintro e O ⟨rfl,y⟩;have C:=hid (A2d.trans (i.mono (λ_=>False.elim)) (λ_ hg=>.inl hg) y);clear y;go_wp2;go_end0;exact⟨rfl,C.out⟩
theorem D9n (w:World) (B g r cap:Nat) (its:List Im) (beh:List Nat) (f a:Int) (so:Bool) (i:Nat) (k j:Value) (bs:LU8) (p:Nat) (n:Int) (b:Nat) (s:LU8) (h:PIn w B g r cap its beh f a so i k j bs) (_hl:its.length<=10000000) (d:its[p]? =some ⟨4,n,b,s⟩) (m:bs.length<=91000000000) (H:s.length<=100000000) (q:isU s=true):
 Calls Tryz.prog 26 #[.pointer (some ⟨B,0,none⟩),.int .i64 (p:Int)] w λe w'=>e=.returned (.tuple #[])/\A2d B w (.slice (some ⟨r,0,none⟩) its.length cap) (.slice (some ⟨g,0,none⟩) its.length its.length) f a so i j (bs++A3g s) w':=by
 obtain⟨A,C,D,E,F⟩:=h.wcells;obtain⟨v,x,y,z⟩:=h.cells d;have G:p<its.length:=(List.getElem?_eq_some_iff.1 d).1;have c:=hid (λo=>h.fr ((Fr.refl (λ_=>False) w).alloc o));clear h d;simp only at v x y z;have u:=hid (λo=>B5e B (w.alloc o) _ _ f a so i k j bs s (c.out o).wat q (by omega));clear q;go_enter Tryz.func26,Tryz.ntmps26
 go_wp2_with (first|(go_at_call 43;refine Calls.mono (u.out _) ?_;rintro e I ⟨rfl,l⟩;have t:=hid (A8g _ l);clear l)|fail)
 go_end0;exact⟨rfl,t.out⟩
theorem D0h (w:World) (B g u cap:Nat) (its:List Im) (beh:List Nat) (k a:Int) (so:Bool) (l:Nat) (G z:Value) (bs:LU8) (p:Nat) (n:Int) (b:Nat) (s c:LU8) (h:PIn w B g u cap its beh k a so l G z bs) (_hl:its.length<=10000000) (y:its[p]? =some ⟨5,n,b,s⟩) (I:bs.length<=91000000000)
 (q:∀t d bs2,PIn t B g u cap its beh k a so l (.pointer (some ⟨B,6,none⟩)) d bs2->bs2.length+c.length<=90000000000->Calls Tryz.prog 45 #[.pointer (some ⟨B,0,none⟩),.int .i64 (p:Int)] t λe w'=>e=.returned (.tuple #[])/\A2d B t (.slice (some ⟨u,0,none⟩) its.length cap) (.slice (some ⟨g,0,none⟩) its.length its.length) k a so l d (bs2++c) w') (H:bs.length+1+c.length<=90000000000):
 Calls Tryz.prog 26 #[.pointer (some ⟨B,0,none⟩),.int .i64 (p:Int)] w λe w'=>e=.returned (.tuple #[])/\A2d B w (.slice (some ⟨u,0,none⟩) its.length cap) (.slice (some ⟨g,0,none⟩) its.length its.length) k a so l z (bs++(91::(c++[93]))) w':=by
 obtain⟨Q,R,S,T,U⟩:=h.wcells;obtain⟨M,N,O,P⟩:=h.cells y;have V:p<its.length:=(List.getElem?_eq_some_iff.1 y).1;have m:=hid (λo=>h.fr ((Fr.refl (λ_=>False) w).alloc o));clear h y;simp only at M N O P;have E:=hid (λo=>show Calls Tryz.prog 44 #[.pointer (some ⟨B,6,none⟩),.int .u8 91] (w.alloc o) _ from A1r B (w.alloc o) _ _ k a so l G z bs 91 (m.out o).wat (by omega));have F:=hid q;clear q;go_enter Tryz.func26,Tryz.ntmps26
 go_wp2_with fail
 refine Calls.mono (E.out _) ?_;rintro e t ⟨rfl,f⟩;obtain⟨d,i⟩:=(m.out _).step f;have v:=hid i;have C:=hid (F.out t d _ i.pin (by simp only[List.length_append,List.length_singleton];omega));clear f i F E
 go_wp2_with fail
 refine Calls.mono C.out ?_;rintro e J ⟨rfl,f⟩;obtain⟨A,j⟩:=v.step f;have x:=hid j;have D:=hid (show Calls Tryz.prog 44 #[.pointer (some ⟨B,6,none⟩),.int .u8 93] J _ from A1r B J _ _ k a so l _ A _ 93 j.pin.wat (by simp only[List.length_append,List.length_singleton];omega));clear f j C
 go_wp2_with fail
 refine Calls.mono D.out ?_;rintro e W ⟨rfl,f⟩;obtain⟨L,r⟩:=x.step f;have K:=hid (A8g _ r.post);clear f r D;go_wp2;go_end0;refine⟨rfl,?_⟩;have:=K.out;simp only[List.append_assoc,List.singleton_append]at this;exact this
theorem D0i (w:World) (B g u cap:Nat) (its:List Im) (beh:List Nat) (k a:Int) (so:Bool) (l:Nat) (G z:Value) (bs:LU8) (p:Nat) (n:Int) (b:Nat) (s c:LU8) (h:PIn w B g u cap its beh k a so l G z bs) (_hl:its.length<=10000000) (y:its[p]? =some ⟨6,n,b,s⟩) (I:bs.length<=91000000000)
 (q:∀t d bs2,PIn t B g u cap its beh k a so l (.pointer (some ⟨B,6,none⟩)) d bs2->bs2.length+c.length<=90000000000->Calls Tryz.prog 45 #[.pointer (some ⟨B,0,none⟩),.int .i64 (p:Int)] t λe w'=>e=.returned (.tuple #[])/\A2d B t (.slice (some ⟨u,0,none⟩) its.length cap) (.slice (some ⟨g,0,none⟩) its.length its.length) k a so l d (bs2++c) w') (H:bs.length+1+c.length<=90000000000):
 Calls Tryz.prog 26 #[.pointer (some ⟨B,0,none⟩),.int .i64 (p:Int)] w λe w'=>e=.returned (.tuple #[])/\A2d B w (.slice (some ⟨u,0,none⟩) its.length cap) (.slice (some ⟨g,0,none⟩) its.length its.length) k a so l z (bs++(123::(c++[125]))) w':=by
 obtain⟨Q,R,S,T,U⟩:=h.wcells;obtain⟨M,N,O,P⟩:=h.cells y;have V:p<its.length:=(List.getElem?_eq_some_iff.1 y).1;have m:=hid (λo=>h.fr ((Fr.refl (λ_=>False) w).alloc o));clear h y;simp only at M N O P;have E:=hid (λo=>show Calls Tryz.prog 44 #[.pointer (some ⟨B,6,none⟩),.int .u8 123] (w.alloc o) _ from A1r B (w.alloc o) _ _ k a so l G z bs 123 (m.out o).wat (by omega));have F:=hid q;clear q;go_enter Tryz.func26,Tryz.ntmps26
 go_wp2_with fail
 refine Calls.mono (E.out _) ?_;rintro e t ⟨rfl,f⟩;obtain⟨d,i⟩:=(m.out _).step f;have v:=hid i;have C:=hid (F.out t d _ i.pin (by simp only[List.length_append,List.length_singleton];omega));clear f i F E
 go_wp2_with fail
 refine Calls.mono C.out ?_;rintro e J ⟨rfl,f⟩;obtain⟨A,j⟩:=v.step f;have x:=hid j;have D:=hid (show Calls Tryz.prog 44 #[.pointer (some ⟨B,6,none⟩),.int .u8 125] J _ from A1r B J _ _ k a so l _ A _ 125 j.pin.wat (by simp only[List.length_append,List.length_singleton];omega));clear f j C
 go_wp2_with fail
 refine Calls.mono D.out ?_;rintro e W ⟨rfl,f⟩;obtain⟨L,r⟩:=x.step f;have K:=hid (A8g _ r.post);clear f r D;go_wp2;go_end0;refine⟨rfl,?_⟩;have:=K.out;simp only[List.append_assoc,List.singleton_append]at this;exact this
theorem E6q {L:List Nat} {n:Nat} (h:∀y,y∈L->y<n) (b:L.Pairwise (·< ·)):L.length<=n:=by
 have a:∀(L:List Nat) (c:Nat),(∀y,y∈L->c<=y/\y<n)->L.Pairwise (·< ·)->L.length+c<=n\/L=[]:=by
  intro L
  induction L with
  |nil=>exactλ_ _ _=>.inr rfl
  |cons y L ih=>
   intro c d b;obtain⟨f,g⟩:=List.pairwise_cons.1 b;have e:=d y (by simp);rcases ih (y+1) (λz hz=>⟨f z hz,(d z (by simp[hz])).2⟩) g with h|h
   ·exact .inl (by rw[List.length_cons];omega)
   ·subst h;exact .inl (by simp;omega)
 rcases a L 0 (λy e=>⟨Nat.zero_le _,h y e⟩) b with h|h
 ·omega
 ·subst h;exact Nat.zero_le _
theorem C3y (d:Nat) (IH:∀e,d=e+1->C0x e):C0x d:=by
 intro w B g q cap its beh l a so f G F bs p h a6 T U v hs hb O c;have a1:=A5w d (its.drop p);rw[List.length_drop]at a1;have V:p<its.length:=by omega
 have u:its[p]? =some its[p]:=List.getElem?_eq_getElem V;have S:its.drop p=its[p]::its.drop (p+1):=List.drop_eq_getElem_cons V;obtain⟨x,a3⟩:∃x,its[p]=x:=⟨_,rfl⟩;rw[a3]at u S;have H:x∈its:=List.mem_of_getElem? u;rw[S]at O c ⊢
 have z:A0z x=true:=by
  by_cases z:A0z x=true
  ·exact z
  ·exfalso
   apply O;cases d with
   |zero=>rw[A0i,if_neg (λh=>z h.1)]
   |succ e=>rw[A0i,if_neg z]
 have a0:=D3a z;by_cases M:x.k<5
 ·have hT:wrD a so d (x::its.drop (p+1))=B3v x:=by
   cases d with
   |zero=>rfl
   |succ e=>simp only[wrD];rw[if_pos M]
  rw[hT]at c ⊢;have D:bs.length<=91000000000:=by omega
  have X:=hs x H;have W:=hb x H;have I:=B5h z
  have J:x.k=4->isU x.s=true:=λh4=>by
   unfold A0z at z;rw[if_neg (by omega),if_neg (by omega),if_pos h4]at z;simp at z;exact z.2
  obtain⟨k,n,b,s⟩:=x;simp only at M a0 X W I J;unfold B3v;simp only;by_cases h0:k=0
  ·subst h0;exact D9k w B g q cap its beh l a so f G F bs p n b s h v u D
  rw[if_neg h0];by_cases h1:k=1
  ·subst h1;exact D3e w B g q cap its beh l a so f G F bs p n b s h v u D
  rw[if_neg h1];by_cases o:k=2
  ·subst o;exact D9m w B g q cap its beh l a so f G F bs p n b s h v u D
  rw[if_neg o];by_cases h3:k=3
  ·subst h3;exact E6p w B g q cap its beh l a so f G F bs p n b s h v u D W (I rfl)
  rw[if_neg h3];obtain rfl:k=4:=by omega
  exact D9n w B g q cap its beh l a so f G F bs p n b s h v u D X (J rfl)
 ·cases d with
  |zero=>rw[A0i,if_neg (λh=>M h.2)]at O;exact absurd rfl O
  |succ e=>
   obtain⟨P,a2⟩:=A5i z M;have Q:=IH e rfl;rw[A0i,if_pos z,if_neg M]at O;cases j:A0m (A0i e) (decide (x.k=6)) x.n.toNat (its.drop (p+1))with
   |none=>rw[j]at O;exact absurd rfl O
   |some m=>
    have a5:=C9a (A5w e) _ _ _ _ j
    have hW:wrD a so (e+1) (x::its.drop (p+1))=A7w a f (decide (x.k=6)) ((D9f (A5y its) (so&&decide (x.k=6)) (A1n e its (decide (x.k=6)) x.n.toNat (p+1))).map (λy=>(A7y e a so its (decide (x.k=6)) y).2)):=by
     simp only[wrD];rw[if_neg M,E6j e a so its (decide (x.k=6)) x.n.toNat (p+1) m j,show 999-e=f by omega]
    rw[hW]at c ⊢;obtain⟨Y,Z,a4⟩:=C0v e its (decide (x.k=6)) x.n.toNat (p+1) m j;have E:=E6i (A5y its) (so&&decide (x.k=6)) (A1n e its (decide (x.k=6)) x.n.toNat (p+1)) Y;have r:(D9f (A5y its) (so&&decide (x.k=6)) (A1n e its (decide (x.k=6)) x.n.toNat (p+1))).length=x.n.toNat:=E.length_eq.trans a4;have t:∀y,y∈D9f (A5y its) (so&&decide (x.k=6)) (A1n e its (decide (x.k=6)) x.n.toNat (p+1))->A7n e its (decide (x.k=6)) y:=λy hy=>(Z y (E.mem_iff.1 hy)).2
    have i:x.n.toNat<=its.length:=by
     have:=E6q (λy hy=>(Z y hy).2.lt) Y;omega
    obtain⟨k,n,b,s⟩:=x;simp only at P a2 j c r t i M;obtain⟨N,rfl⟩:∃N:Nat,n=N:=⟨n.toNat,by omega⟩;simp only[Int.toNat_natCast]at j c r t i ⊢;rcases P with rfl|rfl
    ·simp only[show decide ((5:Int)=6)=false from rfl,Bool.and_false]at j c r t ⊢
     obtain⟨L,R⟩:∃L,D9f (A5y its) false (A1n e its false N (p+1))=L:=⟨_,rfl⟩
     have A:∀w2 ad2 vo2 bs2,PIn w2 B g q cap its beh l a so f ad2 vo2 bs2->Calls Tryz.prog 73 #[.pointer (some ⟨B,0,none⟩),.int .i64 (p:Int)] w2 (B7i w2 N L):=λw2 ad2 vo2 bs2 o=>by
      rw[<-R];exact E6n e w2 B g q cap its beh l a so f ad2 vo2 bs2 p N b m s o (by omega) v u i j
     rw[R]at c r t ⊢;by_cases C:N=0
     ·have K:L=[]:=List.eq_nil_of_length_eq_zero (by omega)
      subst K;subst C
      show Calls _ _ _ _ (λe w'=>e=.returned (.tuple #[])/\A2d B w _ _ l a so f F (bs++(91::([]++[93]))) w')
      refine D0h w B g q cap its beh l a so f G F bs p 0 b s [] h v u (by omega) (λw2 vo2 bs2 o _=>?_) (by simp only[A7w]at c;simp at c ⊢;omega);rw[List.append_nil];exact B2c w2 B g q cap its beh l a so f vo2 bs2 p [] o (A w2 _ vo2 bs2 o)
     ·have hj:A7w a f false (L.map (λy=>(A7y e a so its false y).2))=91::((A2r a (f+1) true (L.map (λy=>(A7y e a so its false y).2))++A6p a f)++[93]):=by
       unfold A7w;rw[if_neg (by rw[List.length_map];omega)];rfl
      rw[hj]at c ⊢;simp only[List.length_cons,List.length_append,List.length_nil]at c;refine D0h w B g q cap its beh l a so f G F bs p N b s _ h v u (by omega) (λw2 vo2 bs2 o hl2=>?_) (by simp only[List.length_append];omega);exact C2c e Q w2 B g q cap its beh l a so f vo2 bs2 p N b s L o (by omega) T U v hs hb u C i t r (A w2 _ vo2 bs2 o) hl2
    ·simp only[decide_true,Bool.and_true]at j c r t ⊢
     obtain⟨L,R⟩:∃L,D9f (A5y its) so (A1n e its true N (p+1))=L:=⟨_,rfl⟩
     have A:∀w2 ad2 vo2 bs2,PIn w2 B g q cap its beh l a so f ad2 vo2 bs2->Calls Tryz.prog 73 #[.pointer (some ⟨B,0,none⟩),.int .i64 (p:Int)] w2 (B7i w2 N L):=λw2 ad2 vo2 bs2 o=>by
      rw[<-R];cases so
      ·exact D9i e w2 B g q cap its beh l a f ad2 vo2 bs2 p N b m s o (by omega) v u i j
      ·exact D9j e w2 B g q cap its beh l a f ad2 vo2 bs2 p N b m s o (by omega) v u i j
     rw[R]at c r t ⊢;by_cases C:N=0
     ·have K:L=[]:=List.eq_nil_of_length_eq_zero (by omega)
      subst K;subst C
      show Calls _ _ _ _ (λe w'=>e=.returned (.tuple #[])/\A2d B w _ _ l a so f F (bs++(123::([]++[125]))) w')
      refine D0i w B g q cap its beh l a so f G F bs p 0 b s [] h v u (by omega) (λw2 vo2 bs2 o _=>?_) (by simp only[A7w]at c;simp at c ⊢;omega);rw[List.append_nil];exact B2c w2 B g q cap its beh l a so f vo2 bs2 p [] o (A w2 _ vo2 bs2 o)
     ·have hj:A7w a f true (L.map (λy=>(A7y e a so its true y).2))=123::((A2r a (f+1) true (L.map (λy=>(A7y e a so its true y).2))++A6p a f)++[125]):=by
       unfold A7w;rw[if_neg (by rw[List.length_map];omega)];rfl
      rw[hj]at c ⊢;simp only[List.length_cons,List.length_append,List.length_nil]at c;refine D0i w B g q cap its beh l a so f G F bs p N b s _ h v u (by omega) (λw2 vo2 bs2 o hl2=>?_) (by simp only[List.length_append];omega);exact C2d e Q w2 B g q cap its beh l a so f vo2 bs2 p N b s L o (by omega) T U v hs hb u C i t r (A w2 _ vo2 bs2 o) hl2
theorem E6r (d:Nat):C0x d:=by
 induction d with
 |zero=>exact C3y 0 (λe he=>by omega)
 |succ d ih=>exact C3y (d+1) (λe he=>by
   have:d=e:=by omega
   subst this
   exact ih)
end Go.Proofs.YtmkkibaacclhnaaGreatDoor
