/-
  Part Tke.
-/
import Derived.Test.YtmkkibaacclhnaaGreatDoorSrb
import Derived.Test.YtmkkibaacclhnaaGreatDoorTnr
import Derived.Test.YtmkkibaacclhnaaGreatDoorDlp
import Derived.Deep.DeepCutAuto
namespace Go.Proofs.YtmkkibaacclhnaaGreatDoor
open Go.RowKit
set_option maxRecDepth 100000
set_option maxHeartbeats 16000000
theorem C1j (B o:Nat) (P:Int) (a:Nat) (c:UInt8) (w:World) (j:w.cell? ⟨B,o+3,none⟩=some (.int .i64 P)) (k:w.cell? ⟨B,o+4,none⟩=some (.int .i64 (a:Int)))
 (l:w.frozen? ⟨B,o+4,none⟩=false) (f:isD c=true) (b: -4000000000000000<=P) (d:P<=4000000000000000) (i:a<=P.natAbs+632):
 Calls Tryz.prog 59 #[.pointer (some ⟨B,o,none⟩),.int .u8 (c.toNat:Int)] w λe w'=>e=.returned (.tuple #[])/\w'=(w.setCell ⟨B,o+4,none⟩ (.int .i64 ((min (a*10+(c.toNat-48)) (P.natAbs+632):Nat):Int))).drew:=by
 obtain⟨h,g⟩:=(A6h c).1 f;generalize c.toNat=x at*;go_enter Tryz.func59,Tryz.ntmps59;go_wp2;go_region
 all_goals
  go_wp2;go_end0;refine⟨rfl,?_⟩;rw[show min ((a:Int)*10+(x-48)) (max P (-P)+309+323)=((min (a*10+(x-48)) (P.natAbs+632):Nat):Int) by omega]
structure TkIn (cs:Array Value) (o:Nat) (v:Value) (t:Tk):Prop where
 c0:cs[o]? =some (.int .i64 (t.st:Int))
 c1:cs[o+1]? =some (.bool t.neg)
 c2:cs[o+2]? =some v
 c3:cs[o+3]? =some (.int .i64 t.P)
 c4:cs[o+4]? =some (.int .i64 (t.pw:Int))
 c5:cs[o+5]? =some (.bool t.pn)
theorem TkIn.size {a:Array Value} {o:Nat} {v:Value} {t:Tk} (h:TkIn a o v t):o+5<a.size:=by
 rcases Nat.lt_or_ge (o+5) a.size with b|b
 ·exact b
 ·have:=h.c5
  rw[Array.getElem?_eq_none b]at this;cases this
theorem B5z {a:Array Value} {j:Nat} {v:Value} (h:j<a.size):(a.setIfInBounds j v)[j]? =some v:=by
 rw[Array.getElem?_setIfInBounds,if_pos rfl,if_pos h]
theorem TkIn.set0 {a:Array Value} {o:Nat} {v:Value} {t:Tk} (h:TkIn a o v t) (k:Nat):TkIn (a.setIfInBounds o (.int .i64 (k:Int))) o v ⟨k,t.neg,t.D,t.P,t.pw,t.pn⟩:=by
 have b:=h.size;exact⟨B5z (by omega),by rw[A0d (by omega)];exact h.c1,by rw[A0d (by omega)];exact h.c2,by rw[A0d (by omega)];exact h.c3,by rw[A0d (by omega)];exact h.c4,by rw[A0d (by omega)];exact h.c5⟩
theorem TkIn.set1 {a:Array Value} {o:Nat} {v:Value} {t:Tk} (h:TkIn a o v t) (k:Bool):TkIn (a.setIfInBounds (o+1) (.bool k)) o v ⟨t.st,k,t.D,t.P,t.pw,t.pn⟩:=by
 have b:=h.size;exact⟨by rw[A0d (by omega)];exact h.c0,B5z (by omega),by rw[A0d (by omega)];exact h.c2,by rw[A0d (by omega)];exact h.c3,by rw[A0d (by omega)];exact h.c4,by rw[A0d (by omega)];exact h.c5⟩
theorem TkIn.set2 {a:Array Value} {o:Nat} {v:Value} {t:Tk} (h:TkIn a o v t) (u:Value) (D:List Nat):TkIn (a.setIfInBounds (o+2) u) o u ⟨t.st,t.neg,D,t.P,t.pw,t.pn⟩:=by
 have b:=h.size;exact⟨by rw[A0d (by omega)];exact h.c0,by rw[A0d (by omega)];exact h.c1,B5z (by omega),by rw[A0d (by omega)];exact h.c3,by rw[A0d (by omega)];exact h.c4,by rw[A0d (by omega)];exact h.c5⟩
theorem TkIn.set3 {a:Array Value} {o:Nat} {v:Value} {t:Tk} (h:TkIn a o v t) (P:Int):TkIn (a.setIfInBounds (o+3) (.int .i64 P)) o v ⟨t.st,t.neg,t.D,P,t.pw,t.pn⟩:=by
 have b:=h.size;exact⟨by rw[A0d (by omega)];exact h.c0,by rw[A0d (by omega)];exact h.c1,by rw[A0d (by omega)];exact h.c2,B5z (by omega),by rw[A0d (by omega)];exact h.c4,by rw[A0d (by omega)];exact h.c5⟩
theorem TkIn.set4 {a:Array Value} {o:Nat} {v:Value} {t:Tk} (h:TkIn a o v t) (k:Nat):TkIn (a.setIfInBounds (o+4) (.int .i64 (k:Int))) o v ⟨t.st,t.neg,t.D,t.P,k,t.pn⟩:=by
 have b:=h.size;exact⟨by rw[A0d (by omega)];exact h.c0,by rw[A0d (by omega)];exact h.c1,by rw[A0d (by omega)];exact h.c2,by rw[A0d (by omega)];exact h.c3,B5z (by omega),by rw[A0d (by omega)];exact h.c5⟩
theorem TkIn.set5 {a:Array Value} {o:Nat} {v:Value} {t:Tk} (h:TkIn a o v t) (k:Bool):TkIn (a.setIfInBounds (o+5) (.bool k)) o v ⟨t.st,t.neg,t.D,t.P,t.pw,k⟩:=by
 have b:=h.size;exact⟨by rw[A0d (by omega)];exact h.c0,by rw[A0d (by omega)];exact h.c1,by rw[A0d (by omega)];exact h.c2,by rw[A0d (by omega)];exact h.c3,by rw[A0d (by omega)];exact h.c4,B5z (by omega)⟩
def B1f (o:Nat) (cs cs':Array Value):Prop:=cs'.size=cs.size/\∀j,j<o\/o+5<j->cs'[j]? =cs[j]?
theorem B1f.refl (o:Nat) (a:Array Value):B1f o a a:=⟨rfl,λ_ _=>rfl⟩
theorem B1f.set {o:Nat} {b a:Array Value} (h:B1f o b a) (i:Nat) (c:i<=5) (v:Value):B1f o b (a.setIfInBounds (o+i) v):=
 ⟨by rw[Array.size_setIfInBounds];exact h.1,λj hj=>by rw[A0d (by omega)];exact h.2 j hj⟩
theorem B1f.set00 {o:Nat} {b a:Array Value} (h:B1f o b a) (v:Value):B1f o b (a.setIfInBounds o v):=h.set 0 (by omega) v
def B3c (base:Nat) (w:World) (B o T:Nat) (cs:Array Value) (v:Value) (t:Tk):Prop:=
 w.heap[B]? =some (.cells cs T (0,0))/\TkIn cs o v t/\w.ownsRow base 5 1 v t.D.length (bs t.D)
theorem A2w {c d:UInt8} (h:c≠d):c.toNat≠d.toNat:=λe=>h (UInt8.toNat_inj.1 e)
theorem D7b (c:UInt8):c=45\/c=43\/c=46\/c=48\/c=101\/c=69\/(49<=c.toNat/\c.toNat<=57)\/(c.toNat<48/\c.toNat≠45/\c.toNat≠43/\c.toNat≠46)\/(57<c.toNat/\c.toNat≠101/\c.toNat≠69):=by
 by_cases a:c=45
 ·exact .inl a
 by_cases b:c=43
 ·exact .inr (.inl b)
 by_cases d:c=46
 ·exact .inr (.inr (.inl d))
 by_cases e:c=48
 ·exact .inr (.inr (.inr (.inl e)))
 by_cases f:c=101
 ·exact .inr (.inr (.inr (.inr (.inl f))))
 by_cases g:c=69
 ·exact .inr (.inr (.inr (.inr (.inr (.inl g)))))
 have h:=A2w a;have i:=A2w b;have j:=A2w d;have k:=A2w e;have l:=A2w f;have m:=A2w g;simp at h i j k l m;omega
theorem E2f {s:Nat} (h:s<=8):s=0\/s=1\/s=2\/s=3\/s=4\/s=5\/s=6\/s=7\/s=8:=by omega
theorem D7c (s:Nat) (a:s<=8) (c:UInt8) (b:c=45\/c=43\/c=46\/c=48\/c=101\/c=69) (w:World):Calls Tryz.prog 57 #[.int .i64 (s:Int),.int .u8 (c.toNat:Int)] w λe w'=>e=.returned (.int .i64 (beh s c:Nat))/\w'=w:=by
 rcases E2f a with rfl|rfl|rfl|rfl|rfl|rfl|rfl|rfl|rfl<;>rcases b with rfl|rfl|rfl|rfl|rfl|rfl<;>
  (clear a
   go_enter Tryz.func57,Tryz.ntmps57;go_wp2;go_ret
   exact⟨rfl,rfl⟩)
def G3u (s:Nat):Nat:=if s=0\/s=1\/s=3 then 3 else if s=4\/s=5 then 5 else if s=6\/s=7\/s=8 then 8 else 0
theorem C5b (s:Nat) (c:s<=8) (x v:Nat) (j:(49<=x/\x<=57/\v=G3u s)\/(x<48/\(x≠45/\x≠43/\x≠46)/\v=0)\/(57<x/\(x≠101/\x≠69)/\v=0)) (w:World):Calls Tryz.prog 57 #[.int .i64 (s:Int),.int .u8 (x:Int)] w λe w'=>e=.returned (.int .i64 (v:Int))/\w'=w:=by
 have f:((x:Int)==45)=false:=bqF (by omega);have d:((x:Int)==43)=false:=bqF (by omega);have g:((x:Int)==46)=false:=bqF (by omega);have h:((x:Int)==48)=false:=bqF (by omega);have a:((x:Int)==101)=false:=bqF (by omega);have i:((x:Int)==69)=false:=bqF (by omega)
 rcases j with⟨b,k,rfl⟩|⟨b,-,rfl⟩|⟨b,-,rfl⟩<;>rcases E2f c with rfl|rfl|rfl|rfl|rfl|rfl|rfl|rfl|rfl<;>
  (clear c
   go_enter Tryz.func57,Tryz.ntmps57;go_wp2;go_ret
   exact⟨rfl,rfl⟩)
theorem G0k {c:UInt8} (h:c.toNat≠45/\c.toNat≠43/\c.toNat≠46/\c.toNat≠48/\c.toNat≠101/\c.toNat≠69):c≠45/\c≠43/\c≠46/\c≠48/\c≠101/\c≠69:=by
 refine⟨?_,?_,?_,?_,?_,?_⟩<;>(rintro rfl;simp at h)
theorem F6v (s:Nat) {c:UInt8} (j:49<=c.toNat) (h:c.toNat<=57):beh s c=G3u s:=by
 have i:isD c=true:=(A6h c).2 ⟨by omega,h⟩;obtain⟨a,b,d,e,f,g⟩:=G0k (c:=c) (by omega);unfold beh G3u;simp only[i,a,b,d,e,f,g,and_false,and_true,or_false,if_false]
theorem F4y (s:Nat) {c:UInt8} (h:c.toNat<48\/57<c.toNat) (i:c.toNat≠45/\c.toNat≠43/\c.toNat≠46/\c.toNat≠48/\c.toNat≠101/\c.toNat≠69):beh s c=0:=by
 have j:isD c=false:=by
  cases k:isD c
  ·rfl
  ·have:=(A6h c).1 k;omega
 obtain⟨a,b,d,e,f,g⟩:=G0k i;unfold beh;simp only[j,a,b,d,e,f,g,and_false,or_false,if_false,Bool.false_eq_true]
theorem A4i (s:Nat) (d:s<=8) (c:UInt8) (w:World):Calls Tryz.prog 57 #[.int .i64 (s:Int),.int .u8 (c.toNat:Int)] w λe w'=>e=.returned (.int .i64 (beh s c:Nat))/\w'=w:=by
 rcases D7b c with h|h|h|h|h|h|⟨a,b⟩|⟨a,b,f,g⟩|⟨a,b,f⟩
 iterate 6 exact D7c s d c (by simp[h]) w
 ·rw[F6v s a b];exact C5b s d _ _ (.inl ⟨a,b,rfl⟩) w
 ·rw[F4y s (.inl a) (by omega)];exact C5b s d _ _ (.inr (.inl ⟨a,⟨b,f,g⟩,rfl⟩)) w
 ·rw[F4y s (.inr a) (by omega)];exact C5b s d _ _ (.inr (.inr ⟨a,⟨b,f⟩,rfl⟩)) w
def C5c (base B o T:Nat) (cs:Array Value) (v:Value) (w w':World) (t':Tk):Prop:=
 ∃cs' v',B3c base w' B o T cs' v' t'/\B1f o cs cs'/\Fr (λi=>i=B\/v.ownBlock=some i) w w'/\G0i v v' w
theorem B3c.setCell {base:Nat} {w:World} {B o T:Nat} {b:Array Value} {v:Value} {t:Tk} (g:T≠5) (h:B3c base w B o T b v t) (j:Nat) (u:Value) (c:Tk) (f:c.D=t.D) (i:TkIn (b.setIfInBounds j u) o v c):
 B3c base (w.setCell ⟨B,j,none⟩ u) B o T (b.setIfInBounds j u) v c:=by
 obtain⟨d,k,e⟩:=h;refine⟨heap_setCell_same w B j b T u d,i,?_⟩;rw[f];exact ownsRow_setCell_other e (a:=⟨B,j,none⟩) (A2i e d g) u
theorem B3c.drew {base:Nat} {w:World} {B o T:Nat} {a:Array Value} {v:Value} {t:Tk} (h:B3c base w B o T a v t):B3c base w.drew B o T a v t:=h
theorem G0m {t:Tk} {c:UInt8} {k:Nat} (h:beh t.st c=k) (a:k≠0):nxt t c=some (A4q t c k):=by
 rw[nxt,h,if_neg a]
theorem B9g (base B o T:Nat) (g:Array Value) (v:Value) (t:Tk) (c:UInt8) (w:World) (a:t.st<=8) (b:B3c base w B o T g v t) (d:beh t.st c=0):
 Calls Tryz.prog 36 #[.pointer (some ⟨B,o,none⟩),.int .u8 (c.toNat:Int)] w λe w'=>e=.returned (.bool false)/\w'=w:=by
 have h:=A0a b.1 b.2.1.c0;have f:=hid d;clear d b;go_enter Tryz.func36,Tryz.ntmps36
 go_wp2_with (go_at_call 57;refine(A4i t.st a c _).mono ?_;rintro e w' ⟨rfl,rfl⟩;rw[f.out])
 go_ret;exact⟨rfl,rfl⟩
theorem B9h (base B o T:Nat) (z:Array Value) (v:Value) (t:Tk) (c:UInt8) (w:World) (k:Nat) (q:T≠5) (a5:base<=w.heap.size) (hk:k<=1000000000000000) (A:TkOk t k) (ht:B3c base w B o T z v t) (hn:beh t.st c≠0):
 Calls Tryz.prog 36 #[.pointer (some ⟨B,o,none⟩),.int .u8 (c.toNat:Int)] w λe w'=>e=.returned (.bool true)/\C5c base B o T z v w w' (A4q t c (beh t.st c)):=by
 have n:=A.st;have a9:=A.p1;have b0:=A.p2;have a8:=A.pw;have I:=A.len;have Z:=E1p t.st c;have d:= @B8x t.st c;obtain⟨l,Y,ho⟩:=ht;have K:=A0a l Y.c0;have L:=A0a l Y.c1;have M:=A0a l Y.c2;have F:=A0a l Y.c3;have G:=A0a l Y.c4;have N:=A0a l Y.c5;have O:=A0b (j:=o) l;have Q:=A0b (j:=o+1) l;have R:=A0b (j:=o+2) l;have S:=A0b (j:=o+3) l;have H:=A0b (j:=o+4) l;have U:=A0b (j:=o+5) l;have m:=hid (show B3c base w B o T z v t from⟨l,Y,ho⟩);clear A Y ho;obtain f|f|f|f|f|f|f|f:beh t.st c=1\/beh t.st c=2\/beh t.st c=3\/beh t.st c=4\/beh t.st c=5\/beh t.st c=6\/beh t.st c=7\/beh t.st c=8:=by omega
 ·have u:=hid f
  rw[f];clear f hn d Z l;go_enter Tryz.func36,Tryz.ntmps36
  go_wp2_with (go_at_call 57;refine(A4i t.st n c _).mono ?_;rintro e w' ⟨rfl,rfl⟩;rw[u.out])
  go_ret;exact⟨rfl,_,v,B3c.setCell q (B3c.setCell q m.out (o+1) _ ⟨t.st,true,t.D,t.P,t.pw,t.pn⟩ rfl (m.2.1.set1 true)) o _ _ rfl ((m.2.1.set1 true).set0 1),((B1f.refl o z).set 1 (by omega) _).set00 _,((Fr.refl _ _).setCell (.inl (.inl rfl)) _).setCell (.inl (.inl rfl)) _,λ_ h=>.inl h⟩
 ·have u:=hid f
  have hd:=d (by omega);rw[f];have HF:=hid (heap_setCell_same w B (o+2+1) z T (.int .i64 (t.P+1)) l);have r:=hid (m.2.1.set3 (t.P+1));have a0:=hid (ownsRow_setCell_other m.2.2 (a:=⟨B,o+2+1,none⟩) (A2i m.2.2 l q) (.int .i64 (t.P+1)));clear f hn d Z l;go_enter Tryz.func36,Tryz.ntmps36
  go_wp2_with (first|(go_at_call 57;refine(A4i t.st n c _).mono ?_;rintro e w' ⟨rfl,rfl⟩;rw[u.out])|fail)
  refine(D1g base B (o+2) T _ t.D (t.P+1) c v _ q (by simpa using a5) HF.out r.c2 r.c3 a0.out I (by omega) (by omega) hd).mono ?_;rintro e w2 ⟨rfl,J,y,V,W,X⟩;have b:=(r.set2 J (A5p (t.D,t.P+1) (c.toNat-48)).1).set3 (A5p (t.D,t.P+1) (c.toNat-48)).2;have i:B3c base w2 B o T _ J _:=⟨y,b,V⟩;have a6:=A0a y b.c0;have a7:=A0b (j:=o) y;have x:=hid i;have C:=hid W;have E:=hid X;have s:=hid b;clear i b y V W X K L M F G N O Q R S H U;go_wp2;go_ret;exact⟨rfl,_,J,B3c.setCell q x.out o _ _ rfl (s.set0 2),((((B1f.refl o z).set 3 (by omega) _).set 2 (by omega) _).set 3 (by omega) _).set00 _,(((Fr.refl _ _).setCell (.inl (.inl rfl)) _).trans C.out).setCell (.inl (.inl rfl)) _,λg hg=>by have:=E.out g hg;simpa using this⟩
 ·have u:=hid f
  have hd:=d (by omega);rw[f];have HF:=hid (heap_setCell_same w B (o+2+1) z T (.int .i64 (t.P+1)) l);have r:=hid (m.2.1.set3 (t.P+1));have a0:=hid (ownsRow_setCell_other m.2.2 (a:=⟨B,o+2+1,none⟩) (A2i m.2.2 l q) (.int .i64 (t.P+1)));clear f hn d Z l;go_enter Tryz.func36,Tryz.ntmps36
  go_wp2_with (first|(go_at_call 57;refine(A4i t.st n c _).mono ?_;rintro e w' ⟨rfl,rfl⟩;rw[u.out])|fail)
  refine(D1g base B (o+2) T _ t.D (t.P+1) c v _ q (by simpa using a5) HF.out r.c2 r.c3 a0.out I (by omega) (by omega) hd).mono ?_;rintro e w2 ⟨rfl,J,y,V,W,X⟩;have b:=(r.set2 J (A5p (t.D,t.P+1) (c.toNat-48)).1).set3 (A5p (t.D,t.P+1) (c.toNat-48)).2;have i:B3c base w2 B o T _ J _:=⟨y,b,V⟩;have a6:=A0a y b.c0;have a7:=A0b (j:=o) y;have x:=hid i;have C:=hid W;have E:=hid X;have s:=hid b;clear i b y V W X K L M F G N O Q R S H U;go_wp2;go_ret;exact⟨rfl,_,J,B3c.setCell q x.out o _ _ rfl (s.set0 3),((((B1f.refl o z).set 3 (by omega) _).set 2 (by omega) _).set 3 (by omega) _).set00 _,(((Fr.refl _ _).setCell (.inl (.inl rfl)) _).trans C.out).setCell (.inl (.inl rfl)) _,λg hg=>by have:=E.out g hg;simpa using this⟩
 ·have u:=hid f
  rw[f];clear f hn d Z l;go_enter Tryz.func36,Tryz.ntmps36
  go_wp2_with (go_at_call 57;refine(A4i t.st n c _).mono ?_;rintro e w' ⟨rfl,rfl⟩;rw[u.out])
  go_ret;exact⟨rfl,_,v,B3c.setCell q m.out o _ _ rfl (m.2.1.set0 4),(B1f.refl o z).set00 _,(Fr.refl _ _).setCell (.inl (.inl rfl)) _,λ_ h=>.inl h⟩
 ·have u:=hid f
  have hd:=d (by omega);rw[f];have HF:=hid l;clear f hn d Z l;go_enter Tryz.func36,Tryz.ntmps36
  go_wp2_with (first|(go_at_call 57;refine(A4i t.st n c _).mono ?_;rintro e w' ⟨rfl,rfl⟩;rw[u.out])|fail)
  refine(D1g base B (o+2) T z t.D t.P c v _ q a5 HF.out m.2.1.c2 m.2.1.c3 m.2.2 I (by omega) (by omega) hd).mono ?_;rintro e w2 ⟨rfl,J,y,V,W,X⟩;have b:=(m.2.1.set2 J (A5p (t.D,t.P) (c.toNat-48)).1).set3 (A5p (t.D,t.P) (c.toNat-48)).2;have i:B3c base w2 B o T _ J _:=⟨y,b,V⟩;have a6:=A0a y b.c0;have a7:=A0b (j:=o) y;have x:=hid i;have C:=hid W;have E:=hid X;have s:=hid b;clear i b y V W X K L M F G N O Q R S H U;go_wp2;go_ret;exact⟨rfl,_,J,B3c.setCell q x.out o _ _ rfl (s.set0 5),(((B1f.refl o z).set 2 (by omega) _).set 3 (by omega) _).set00 _,C.setCell (.inl (.inl rfl)) _,λg hg=>by have:=E.out g hg;simpa using this⟩
 ·have u:=hid f
  rw[f];clear f hn d Z l;go_enter Tryz.func36,Tryz.ntmps36
  go_wp2_with (go_at_call 57;refine(A4i t.st n c _).mono ?_;rintro e w' ⟨rfl,rfl⟩;rw[u.out])
  go_ret;exact⟨rfl,_,v,B3c.setCell q m.out o _ _ rfl (m.2.1.set0 6),(B1f.refl o z).set00 _,(Fr.refl _ _).setCell (.inl (.inl rfl)) _,λ_ h=>.inl h⟩
 ·have u:=hid f
  rw[f]
  have he:(((c.toNat:Int)==45))=decide (c=45):=by
   by_cases h:c=45
   ·subst h;decide
   ·have:=A2w h
    simp at this;rw[dcF h];exact bqF (by omega)
  have HE:=hid he;clear f hn d Z l he;go_enter Tryz.func36,Tryz.ntmps36
  go_wp2_with (go_at_call 57;refine(A4i t.st n c _).mono ?_;rintro e w' ⟨rfl,rfl⟩;rw[u.out])
  go_ret;rw[HE.out];exact⟨rfl,_,v,B3c.setCell q (B3c.setCell q m.out (o+5) _ ⟨t.st,t.neg,t.D,t.P,t.pw,decide (c=45)⟩ rfl (m.2.1.set5 (decide (c=45)))) o _ _ rfl ((m.2.1.set5 (decide (c=45))).set0 7),((B1f.refl o z).set 5 (by omega) _).set00 _,((Fr.refl _ _).setCell (.inl (.inl rfl)) _).setCell (.inl (.inl rfl)) _,λ_ h=>.inl h⟩
 ·have u:=hid f
  have hd:=d (by omega);rw[f];clear f hn d Z l;go_enter Tryz.func36,Tryz.ntmps36
  go_wp2_with (first|(go_at_call 57;refine(A4i t.st n c _).mono ?_;rintro e w' ⟨rfl,rfl⟩;rw[u.out])|fail)
  refine(C1j B o t.P t.pw c _ F G H hd (by omega) (by omega) a8).mono ?_;rintro e w2 ⟨rfl,rfl⟩;have b:=m.2.1.set4 (min (t.pw*10+(c.toNat-48)) (t.P.natAbs+632));have i:=B3c.setCell q m.out (o+4) (.int .i64 ((min (t.pw*10+(c.toNat-48)) (t.P.natAbs+632):Nat):Int)) ⟨t.st,t.neg,t.D,t.P,min (t.pw*10+(c.toNat-48)) (t.P.natAbs+632),t.pn⟩ rfl b;have a6:=A0a i.1 b.c0;have a7:=A0b (j:=o) i.1;have x:=hid i;have s:=hid b;clear i b K L M F G N O Q R S H U;go_wp2;go_ret;exact⟨rfl,_,v,B3c.setCell q (B3c.drew x.out) o _ _ rfl (s.set0 8),((B1f.refl o z).set 4 (by omega) _).set00 _,(((Fr.refl _ _).setCell (p:=⟨B,o+4,none⟩) (.inl (.inl rfl)) _).drew).setCell (.inl (.inl rfl)) _,λ_ h=>.inl h⟩
def byt (D:List Nat):LU8:=D.map (λd=>UInt8.ofNat (48+d))
theorem E9u {D:List Nat} (h:B0m D):bs D=(byt D).map (λc=>Value.int .u8 ((c.toNat:Nat):Int)):=by
 unfold bs byt;rw[List.map_map];apply List.map_congr_left;intro d a;have:=h d a;have e:(UInt8.ofNat (48+d)).toNat=48+d:=UInt8.toNat_ofNat_of_lt' (by show _<256;omega);simp only[Function.comp];rw[e]
theorem E2g {a b:Nat} (f:a<=9) (g:b<=9):(decide (UInt8.ofNat (48+a)<UInt8.ofNat (48+b))=decide (a<b))/\((UInt8.ofNat (48+a)==UInt8.ofNat (48+b))=decide (a=b)):=by
 have c:(UInt8.ofNat (48+a)).toNat=48+a:=UInt8.toNat_ofNat_of_lt' (by show _<256;omega);have d:(UInt8.ofNat (48+b)).toNat=48+b:=UInt8.toNat_ofNat_of_lt' (by show _<256;omega);constructor
 ·rw[decide_eq_decide,UInt8.lt_iff_toNat_lt,c,d];omega
 ·by_cases h:a=b
  ·subst h;simp
  ·rw[dcF h]
   apply bqF;intro e;have:=congrArg UInt8.toNat e;rw[c,d]at this;omega
theorem D7d (a b:List Nat) (c:B0m a) (e:B0m b):Op.bytesLess (byt a) (byt b)=B4g a b:=by
 induction a generalizing b with
 |nil=>cases b<;>rfl
 |cons x a ih=>
  cases b with
  |nil=>rfl
  |cons y b=>
   have f:=E2g (c x List.mem_cons_self) (e y List.mem_cons_self)
   show(decide (UInt8.ofNat (48+x)<UInt8.ofNat (48+y))||((UInt8.ofNat (48+x)==UInt8.ofNat (48+y))&&Op.bytesLess (byt a) (byt b)))=_
   rw[f.1,f.2,ih b (λd hd=>c d (List.mem_cons_of_mem _ hd)) (λd hd=>e d (List.mem_cons_of_mem _ hd))];rfl
theorem B9i (w:World) (a b:Value) (T:Nat) (o:Obj):((w.alloc (.cells #[a,b] T)).alloc o).drew.cell? ⟨w.heap.size,0,none⟩=some a/\((w.alloc (.cells #[a,b] T)).alloc o).drew.cell? ⟨w.heap.size,1,none⟩=some b:=by
 have h:((w.alloc (.cells #[a,b] T)).alloc o).drew.heap[w.heap.size]? =some (.cells #[a,b] T (0,0)):=(Below.heap_alloc _ _ _ (by simp)).trans (heap_alloc_new w _);exact⟨A4r h,A4s h⟩
theorem B4i (B o:Nat) (v:Value) (P:Int) (b:Nat) (d:Bool) (w:World) (j:w.cell? ⟨B,o+2,none⟩=some v) (k:w.cell? ⟨B,o+3,none⟩=some (.int .i64 P)) (l:w.cell? ⟨B,o+4,none⟩=some (.int .i64 (b:Int))) (m:w.cell? ⟨B,o+5,none⟩=some (.bool d))
 (p:B<w.heap.size) (a:Option Addr) (n cap:Nat) (i:v=.slice a n cap) (f: -4000000000000000<=P) (g:P<=4000000000000000) (h:b<=8000000000000000):
 Calls Tryz.prog 60 #[.pointer (some ⟨B,o,none⟩)] w λe w'=>e=.returned (.agg #[v,.int .i64 (if d then P-b else P+b)])/\Fr (λ_=>False) w w':=by
 subst i;cases d
 ·go_enter Tryz.func60,Tryz.ntmps60
  go_wp2;go_region
  all_goals
   go_wp2;refine bodyPost_ret (v:=.agg #[.slice a n cap,.int .i64 (P+b)]) ?_ rfl ?_
   ·have c:=B9i w (.slice a n cap) (.int .i64 (P+b)) 89 (Obj.cells #[Value.slice a n cap,Value.int IntKind.i64 (P+b)] 89)
    simp[results,Tryz.results60,go_sem,c.1,c.2]
   ·exact⟨rfl,(((Fr.refl _ _).alloc _).alloc _).drew⟩
 ·go_enter Tryz.func60,Tryz.ntmps60
  go_wp2;go_region
  all_goals
   go_wp2;refine bodyPost_ret (v:=.agg #[.slice a n cap,.int .i64 (P-b)]) ?_ rfl ?_
   ·have c:=B9i w (.slice a n cap) (.int .i64 (P-b)) 89 (Obj.cells #[Value.slice a n cap,Value.int IntKind.i64 (P-b)] 89)
    simp[results,Tryz.results60,go_sem,c.1,c.2]
   ·exact⟨rfl,(((Fr.refl _ _).alloc _).alloc _).drew⟩
theorem B3d (v:Value) (D:List Nat) (P:Int) (w:World) (q:B0m D) (r:D.length<=800) (d:w.ownsRow 0 5 1 v D.length (bs D)):
 Calls Tryz.prog 61 #[.agg #[v,.int .i64 P]] w λe w'=>e=.returned (.bool (oor D P))/\Fr (λ_=>False) w w':=by
 obtain⟨a,cap,rfl⟩:=A3y d;by_cases o:D.length=0
 ·have f:Hid (oor D P=false):=if_pos (.inl (List.eq_nil_of_length_eq_zero o))
  have l:((D.length:Int)==0)=true:=beq_iff_eq.2 (by omega);clear d;go_enter Tryz.func61,Tryz.ntmps61;go_wp2;go_ret;exact⟨by rw[f.out];rfl,(Fr.refl _ _).alloc _⟩
 ·have b:D≠[]:=by rintro rfl;exact o rfl
  have l:((D.length:Int)==0)=false:=bqF (by omega);by_cases j:P<309
  ·have f:Hid (oor D P=false):=if_pos (.inr j)
   clear d;have m:=hid b;clear b;go_enter Tryz.func61,Tryz.ntmps61;go_wp2;go_ret;exact⟨by rw[f.out];rfl,(Fr.refl _ _).alloc _⟩
  ·by_cases p:309<P
   ·have f:Hid (oor D P=true):=by rw[Hid,oor,if_neg (by intro h;rcases h with h|h;exact b h;exact j h),if_pos p]
    clear d;have m:=hid b;clear b;go_enter Tryz.func61,Tryz.ntmps61;go_wp2;go_ret;exact⟨by rw[f.out];rfl,(Fr.refl _ _).alloc _⟩
   ·have f:Hid (oor D P= !B4g D bnd):=by rw[Hid,oor,if_neg (by intro h;rcases h with h|h;exact b h;exact j h),if_neg p]
    obtain⟨g,n,s⟩:=A9r d (by omega);simp at s;obtain⟨rfl,rfl⟩:=s;have t:g<w.heap.size:=(d.lt g rfl).2
    have hr:(convert 65 9 (.slice (some ⟨g,0,none⟩) D.length cap)).run Tryz.prog (w.alloc (.cells #[.slice (some ⟨g,0,none⟩) D.length cap,.int .i64 P] 89))=.ok (.string (ofL (byt D))) (w.alloc (.cells #[.slice (some ⟨g,0,none⟩) D.length cap,.int .i64 P] 89)):=by
     have:=run_convert_bytes_arg (P:=Tryz.prog) (w.alloc (.cells #[.slice (some ⟨g,0,none⟩) D.length cap,.int .i64 P] 89)) 65 5 Tryz.underlying65 Tryz.underlying5 g 0 D.length cap ((byt D).map (λc=>((c.toNat:Nat):Int))) (by simp[byt]) (by
      intro i u;rw[Nat.zero_add,World.cell?_of_block (w:=w) (Below.heap_alloc w _ g t),d.cellAt i (by omega),E9u q,List.getElem?_map];have k:i<(byt D).length:=by simpa[byt]using u
      simp[List.getD,List.getElem?_eq_getElem k]) 9 Tryz.underlying9
     rw[this,C2s]
    have m:=hid b;clear b d;go_enter Tryz.func61,Tryz.ntmps61;go_wp2;go_ret;refine⟨?_,(Fr.refl _ _).alloc _⟩;rw[f.out,<-D7d D bnd q D4a];have x:Op.bytesLess (ofL (byt D)).toList (byt bnd)=Op.bytesLess (byt D) (byt bnd):=by rw[A0y]
    rw[<-x];rfl
theorem A8c {w w':World} {base e size:Nat} {v:Value} {n:Nat} {xs:List Value} (h:w.ownsRow base e size v n xs) (f:Fr (λ_=>False) w w'):w'.ownsRow base e size v n xs:=by
 obtain⟨d,b⟩:=h;refine⟨d,?_⟩;rcases b with b|⟨g,cap,a,j,i,c,hr⟩
 ·exact .inl b
 ·exact .inr ⟨g,cap,a,j,i,(f.block g (lt_of_block c) id).trans c,hr⟩
theorem C2t (base B o T:Nat) (c:Array Value) (v:Value) (t:Tk) (w:World) (a:B3c base w B o T c v t) (b:¬A8b t.st):
 Calls Tryz.prog 37 #[.pointer (some ⟨B,o,none⟩)] w λe w'=>e=.returned (.tuple #[.int .u64 0,.int .i64 3])/\w'=w:=by
 have d:=A0a a.1 a.2.1.c0;unfold A8b at b;have f:((t.st:Int)==2)=false:=bqF (by omega);have g:((t.st:Int)==3)=false:=bqF (by omega);have h:((t.st:Int)==5)=false:=bqF (by omega);have i:((t.st:Int)==8)=false:=bqF (by omega);clear a b;go_enter Tryz.func37,Tryz.ntmps37;go_wp2;go_ret2;exact⟨rfl,rfl⟩
def Tk.at (t:Tk):Int:=if t.pn then t.P-t.pw else t.P+t.pw
theorem C2u (base B o T:Nat) (cs:Array Value) (v:Value) (t:Tk) (w:World) (k:Nat) (hk:k<=1000000000000000) (b:TkOk t k) (ht:B3c base w B o T cs v t) (hE:A8b t.st):
 Calls Tryz.prog 37 #[.pointer (some ⟨B,o,none⟩)] w λe w'=>∃r,A8v t.D t.at r/\e=.returned (.tuple #[.int .u64 ((A2z t.neg r).1:Nat),.int .i64 ((A2z t.neg r).2:Nat)])/\Fr (λ_=>False) w w':=by
 have a3:=b.p1;have a4:=b.p2;have a5:=b.pw;have a2:=b.len;obtain⟨m,C,ho⟩:=ht;have N:=A0a m C.c0;have O:=A0a m C.c1;have Q:=A0a m C.c2;have R:=A0a m C.c3;have S:=A0a m C.c4;have U:=A0a m C.c5;have z:=lt_of_block m;obtain⟨a,cap,rfl⟩:=A3y ho
 have Z: -3000000000000000<=t.at/\t.at<=3000000000000000:=by
  unfold Tk.at;split<;>omega
 have HO:=hid (A1j ho);have Y:=hid b.digs;have HH:=hid b.head;have HE:Hid (∀q:Int,(q=2\/q=3\/q=5\/q=8)\/True):=λ_=>.inr trivial
 clear b C ho m HE;rcases hE with W|W|W|W
 all_goals
  rw[W]at N;clear W;have i:∀F:World,Fr (λ_=>False) w F->F.cell? ⟨B,o+1,none⟩=some (.bool t.neg):=λF hF=>(hF.cell (p:=⟨B,o+1,none⟩) z id).trans O
  have X:=hid i;clear i;go_enter Tryz.func37,Tryz.ntmps37
  go_wp2_with fail
  refine(B4i B o _ t.P t.pw t.pn _ Q R S U z a t.D.length cap rfl (by omega) (by omega) (by omega)).mono ?_;rintro e F ⟨rfl,A⟩;have l:(if t.pn=true then t.P-(t.pw:Int)else t.P+(t.pw:Int))=t.at:=rfl;rw[l];have a0:=X.out F A;have n:=hid A;have x:=hid (A8c HO.out (n.alloc (.cells #[.slice a t.D.length cap,.int .i64 t.at] 89)));clear A l N O Q R S U
  go_wp2_with fail
  refine(B3d _ t.D t.at _ Y.out (by omega) x.out).mono ?_;rintro e w2 ⟨rfl,f⟩;have d:=(n.alloc (.cells #[.slice a t.D.length cap,.int .i64 t.at] 89)).trans f;have a1:=X.out w2 d;have L:=(f.cell (p:=⟨F.heap.size,0,none⟩) (by simp) id).trans (A3d _ _ _ _);have M:=(f.cell (p:=⟨F.heap.size,1,none⟩) (by simp) id).trans (A3d _ _ _ _);simp only[List.getElem?_toArray,List.getElem?_cons_zero,List.getElem?_cons_succ]at L M;have s:=hid d;have H:=hid (A8c x.out f);clear f d a0;by_cases hr:oor t.D t.at=true
  ·rw[hr]
   have I:=hid hr;clear hr;go_wp2;go_ret2;exact⟨9218868437227405312,⟨λ_=>rfl,λh=>(by rw[I.out]at h;cases h)⟩,rfl,s.out⟩
  ·have c:oor t.D t.at=false:=by simpa using hr
   rw[c]
   have K:t.D≠[]->t.at<=309:=by
    intro h1;unfold oor at c;by_cases h2:309<t.at
    ·rw[if_neg (by intro h;rcases h with h|h;exact h1 h;omega),if_pos h2]at c
     cases c
    ·omega
   have I:=hid c;have y:=hid K;clear hr c K
   go_wp2_with fail
   refine(D1c _ t.D t.at _ Y.out (by omega) HH.out (by omega) y.out H.out).mono ?_;rintro e w3 ⟨r,rfl,hr,J⟩;have E:=F6q Y.out y.out I.out hr;have HV:=hid (show A8v t.D t.at r from⟨λh=>(by rw[I.out]at h;cases h),λ_=>⟨hr,E⟩⟩);have g:=s.trans J;have V:=X.out w3 g;have j:=hid g;have u:=hid E;clear hr J g E a1 s H x HO n X I y L M Z z;cases G:t.neg
   ·have hv:Hid (A2z t.neg r=(r,0)):=by rw[Hid,G];exact if_neg (by have:=u.out;omega)
    rw[G]at V;clear G;go_wp2;go_ret2;exact⟨r,HV.out,by rw[hv.out];rfl,j.out⟩
   ·have hv:Hid (A2z t.neg r=(r+9223372036854775808,0)):=by rw[Hid,G];exact if_neg (by have:=u.out;omega)
    rw[G]at V;clear G;go_wp2;go_ret2;refine⟨r,HV.out,?_,j.out⟩;rw[hv.out,<-F6i r (by have:=u.out;omega)];rfl
def G3v (l:LU8) (e:Ending):Prop:=
 (∀t,run t0 l=some t->A8b t.st->∃r,A8v t.D t.at r/\e=.returned (.tuple #[.int .u64 ((A2z t.neg r).1:Nat),.int .i64 ((A2z t.neg r).2:Nat)]))/\
 ((∀t,run t0 l=some t->¬A8b t.st)->e=.returned (.tuple #[.int .u64 0,.int .i64 3]))
def G3w (w:World) (l:LU8) (k:Nat) (wr:World):Prop:=
 ∃t cs v,run t0 (l.take k)=some t/\TkOk t k/\B3a t/\B3c w.heap.size wr w.heap.size 0 91 cs v t/\Fr (λ_=>False) w wr
theorem D7e (w:World) (l:LU8):G3w w l 0 (w.alloc (.cells #[.int .i64 0,.bool false,.slice none 0 0,.int .i64 0,.int .i64 0,.bool false] 91)):=
 ⟨t0,_,.slice none 0 0,by simp[run],E9g,λ_=>rfl,⟨heap_alloc_new _ _,⟨rfl,rfl,rfl,rfl,rfl,rfl⟩,World.ownsRow_nil _ _ _ _⟩,(Fr.refl _ _).alloc _⟩
theorem E2h {w wr w':World} {l:LU8} {k:Nat} {t:Tk} {c:Array Value} {v:Value} (q:k<l.length) (h:run t0 (l.take k)=some t) (j:TkOk t k) (m:B3a t) (n:B3c w.heap.size wr w.heap.size 0 91 c v t) (o:Fr (λ_=>False) w wr)
 (p:beh t.st l[k]≠0) (r:C5c w.heap.size w.heap.size 0 91 c v wr w' (A4q t l[k] (beh t.st l[k]))):G3w w l (k+1) w':=by
 obtain⟨a,s,f,_,g,_⟩:=r;have d:nxt t l[k]=some (A4q t l[k] (beh t.st l[k])):=G0m rfl p;have e:=C7r j m d;refine⟨_,a,s,?_,e.1,e.2,f,o.trans' g ?_⟩
 ·rw[List.take_succ_eq_append_getElem q,B7x _ h,d]
 ·intro i b
  rcases b with rfl|b
  ·exact .inr (Nat.le_refl _)
  ·exact .inr (n.2.2.lt i b).1
theorem B4j (l:LU8) (w:World) (K:l.length<=1000000000000000):
 Calls Tryz.prog 22 #[.string (ofL l)] w λe w'=>G3v l e/\Fr (λ_=>False) w w':=by
 have q:=A0c l;go_enter Tryz.func22,Tryz.ntmps22;go_wp2
 go_loopw [8] (λi wr=>∃k:Nat,k<=l.length/\i=.int .i64 k/\G3w w l k wr) (λi _=>l.length-(intOf i).toNat)
 case atStart=>exact⟨0,by omega,rfl,D7e w l⟩
 case round=>
  obtain⟨k,J,rfl,t,H,v,u,x,y,z,p⟩:=hrel;have o:=hid u;have C:=hid y;have j:=hid p;have c:=hid z;have g:=hid x;have s:=p.size;clear u x y z p;by_cases b:k<l.length
  ·have I:(ofL l)[k]'(by rw[q];exact b)=l[k]:=A1d l k _
   by_cases n:beh t.st l[k]=0
   ·have d:=hid n
    clear n
    go_wp2_with (go_at_call 36;refine(B9g _ _ _ _ _ _ t l[k] _ g.st c.out d.out).mono ?_;rintro e w' ⟨rfl,rfl⟩)
    go_ret2;refine⟨⟨λt' ht'=>?_,λ_=>rfl⟩,j.out⟩;exfalso;have G:nxt t l[k]=none:=by rw[nxt,d.out];rfl
    have:=E9f (l.drop (k+1)) o.out G;rw[<-List.drop_eq_getElem_cons b,List.take_append_drop,ht']at this;cases this
   ·have d:=hid n
    clear n
    go_wp2_with (go_at_call 36;refine(B9h _ _ _ _ _ _ t l[k] _ k (by omega) s (by omega) g.out c.out d.out).mono ?_;rintro e w' ⟨rfl,B⟩;have E:=hid B;clear B)
    go_roundw
    case rel=>exact⟨k+1,by omega,by go_num,E2h b o.out g.out C.out c.out j.out d.out E.out⟩
    case measure=>simp[intOf];omega
  ·obtain rfl:k=l.length:=by omega
   have a:Hid (run t0 l=some t):=by have:=o.out;rwa[List.take_length]at this
   by_cases m:A8b t.st
   ·have f:=hid m
    clear m
    go_wp2_with fail
    refine(C2u _ _ _ _ _ _ t _ l.length (by omega) g.out c.out f.out).mono ?_;rintro e w' ⟨r,hr,rfl,A⟩;have F:=hid hr;have D:=hid A;clear hr A;go_wp2;go_ret2;refine⟨⟨λt' ht' _=>?_,λh=>absurd f.out (h t a.out)⟩,j.trans D.out⟩;rw[a.out]at ht';cases ht';exact⟨r,F.out,rfl⟩
   ·have f:=hid m
    clear m
    go_wp2_with fail
    refine(C2t _ _ _ _ _ _ t _ c.out f.out).mono ?_;rintro e w' ⟨rfl,rfl⟩;go_wp2;go_ret2;refine⟨⟨λt' ht' h=>?_,λ_=>rfl⟩,j.out⟩;rw[a.out]at ht';cases ht';exact absurd h f.out
end Go.Proofs.YtmkkibaacclhnaaGreatDoor
