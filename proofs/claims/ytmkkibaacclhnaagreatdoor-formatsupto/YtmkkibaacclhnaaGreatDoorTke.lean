/-
  Part Tke.
-/
import Derived.Test.YtmkkibaacclhnaaGreatDoorSrb
import Derived.Test.YtmkkibaacclhnaaGreatDoorTnr
import Derived.Test.YtmkkibaacclhnaaGreatDoorDlp
import Derived.Deep.DeepCutAuto
namespace Go.Proofs.YtmkkibaacclhnaaGreatDoor
open Go.RowKit
set_option maxRecDepth 100000
set_option maxHeartbeats 16000000
theorem C1j (B o:Nat) (P:Int) (a:Nat) (c:UInt8) (w:World) (k:w.cell? ⟨B,o+3,none⟩=some (.int .i64 P)) (l:w.cell? ⟨B,o+4,none⟩=some (.int .i64 (a:Int)))
 (j:w.frozen? ⟨B,o+4,none⟩=false) (f:isD c=true) (g: -4000000000000000<=P) (d:P<=4000000000000000) (h:a<=P.natAbs+632):
 Calls Tryz.prog 59 #[.pointer (some ⟨B,o,none⟩),.int .u8 (c.toNat:Int)] w λe w'=>e=.returned (.tuple #[])/\w'=(w.setCell ⟨B,o+4,none⟩ (.int .i64 ((min (a*10+(c.toNat-48)) (P.natAbs+632):Nat):Int))).drew:=by
 obtain⟨i,b⟩:=(A6h c).1 f;generalize c.toNat=x at*;go_enter Tryz.func59,Tryz.ntmps59;go_wp2;go_region
 all_goals
  go_wp2;go_end0;refine⟨rfl,?_⟩;rw[show min ((a:Int)*10+(x-48)) (max P (-P)+309+323)=((min (a*10+(x-48)) (P.natAbs+632):Nat):Int) by omega]
structure TkIn (cs:Array Value) (o:Nat) (v:Value) (t:Tk):Prop where
 c0:cs[o]? =some (.int .i64 (t.st:Int))
 c1:cs[o+1]? =some (.bool t.neg)
 c2:cs[o+2]? =some v
 c3:cs[o+3]? =some (.int .i64 t.P)
 c4:cs[o+4]? =some (.int .i64 (t.pw:Int))
 c5:cs[o+5]? =some (.bool t.pn)
theorem TkIn.size {a:Array Value} {o:Nat} {v:Value} {t:Tk} (h:TkIn a o v t):o+5<a.size:=by
 rcases Nat.lt_or_ge (o+5) a.size with b|b
 ·exact b
 ·have:=h.c5
  rw[Array.getElem?_eq_none b]at this;cases this
theorem B5z {a:Array Value} {j:Nat} {v:Value} (h:j<a.size):(a.setIfInBounds j v)[j]? =some v:=by
 rw[Array.getElem?_setIfInBounds,if_pos rfl,if_pos h]
theorem TkIn.set0 {a:Array Value} {o:Nat} {v:Value} {t:Tk} (h:TkIn a o v t) (k:Nat):TkIn (a.setIfInBounds o (.int .i64 (k:Int))) o v ⟨k,t.neg,t.D,t.P,t.pw,t.pn⟩:=by
 have b:=h.size;exact⟨B5z (by omega),by rw[A0d (by omega)];exact h.c1,by rw[A0d (by omega)];exact h.c2,by rw[A0d (by omega)];exact h.c3,by rw[A0d (by omega)];exact h.c4,by rw[A0d (by omega)];exact h.c5⟩
theorem TkIn.set1 {a:Array Value} {o:Nat} {v:Value} {t:Tk} (h:TkIn a o v t) (k:Bool):TkIn (a.setIfInBounds (o+1) (.bool k)) o v ⟨t.st,k,t.D,t.P,t.pw,t.pn⟩:=by
 have b:=h.size;exact⟨by rw[A0d (by omega)];exact h.c0,B5z (by omega),by rw[A0d (by omega)];exact h.c2,by rw[A0d (by omega)];exact h.c3,by rw[A0d (by omega)];exact h.c4,by rw[A0d (by omega)];exact h.c5⟩
theorem TkIn.set2 {a:Array Value} {o:Nat} {v:Value} {t:Tk} (h:TkIn a o v t) (u:Value) (D:List Nat):TkIn (a.setIfInBounds (o+2) u) o u ⟨t.st,t.neg,D,t.P,t.pw,t.pn⟩:=by
 have b:=h.size;exact⟨by rw[A0d (by omega)];exact h.c0,by rw[A0d (by omega)];exact h.c1,B5z (by omega),by rw[A0d (by omega)];exact h.c3,by rw[A0d (by omega)];exact h.c4,by rw[A0d (by omega)];exact h.c5⟩
theorem TkIn.set3 {a:Array Value} {o:Nat} {v:Value} {t:Tk} (h:TkIn a o v t) (P:Int):TkIn (a.setIfInBounds (o+3) (.int .i64 P)) o v ⟨t.st,t.neg,t.D,P,t.pw,t.pn⟩:=by
 have b:=h.size;exact⟨by rw[A0d (by omega)];exact h.c0,by rw[A0d (by omega)];exact h.c1,by rw[A0d (by omega)];exact h.c2,B5z (by omega),by rw[A0d (by omega)];exact h.c4,by rw[A0d (by omega)];exact h.c5⟩
theorem TkIn.set4 {a:Array Value} {o:Nat} {v:Value} {t:Tk} (h:TkIn a o v t) (k:Nat):TkIn (a.setIfInBounds (o+4) (.int .i64 (k:Int))) o v ⟨t.st,t.neg,t.D,t.P,k,t.pn⟩:=by
 have b:=h.size;exact⟨by rw[A0d (by omega)];exact h.c0,by rw[A0d (by omega)];exact h.c1,by rw[A0d (by omega)];exact h.c2,by rw[A0d (by omega)];exact h.c3,B5z (by omega),by rw[A0d (by omega)];exact h.c5⟩
theorem TkIn.set5 {a:Array Value} {o:Nat} {v:Value} {t:Tk} (h:TkIn a o v t) (k:Bool):TkIn (a.setIfInBounds (o+5) (.bool k)) o v ⟨t.st,t.neg,t.D,t.P,t.pw,k⟩:=by
 have b:=h.size;exact⟨by rw[A0d (by omega)];exact h.c0,by rw[A0d (by omega)];exact h.c1,by rw[A0d (by omega)];exact h.c2,by rw[A0d (by omega)];exact h.c3,by rw[A0d (by omega)];exact h.c4,B5z (by omega)⟩
def B1f (o:Nat) (cs cs':Array Value):Prop:=cs'.size=cs.size/\∀j,j<o\/o+5<j->cs'[j]? =cs[j]?
theorem B1f.refl (o:Nat) (a:Array Value):B1f o a a:=⟨rfl,λ_ _=>rfl⟩
theorem B1f.set {o:Nat} {b a:Array Value} (h:B1f o b a) (i:Nat) (c:i<=5) (v:Value):B1f o b (a.setIfInBounds (o+i) v):=
 ⟨by rw[Array.size_setIfInBounds];exact h.1,λj hj=>by rw[A0d (by omega)];exact h.2 j hj⟩
theorem B1f.set00 {o:Nat} {b a:Array Value} (h:B1f o b a) (v:Value):B1f o b (a.setIfInBounds o v):=h.set 0 (by omega) v
def B3c (base:Nat) (w:World) (B o T:Nat) (cs:Array Value) (v:Value) (t:Tk):Prop:=
 w.heap[B]? =some (.cells cs T (0,0))/\TkIn cs o v t/\w.ownsRow base 5 1 v t.D.length (bs t.D)
theorem A2w {c d:UInt8} (h:c≠d):c.toNat≠d.toNat:=λe=>h (UInt8.toNat_inj.1 e)
theorem D7b (c:UInt8):c=45\/c=43\/c=46\/c=48\/c=101\/c=69\/(49<=c.toNat/\c.toNat<=57)\/(c.toNat<48/\c.toNat≠45/\c.toNat≠43/\c.toNat≠46)\/(57<c.toNat/\c.toNat≠101/\c.toNat≠69):=by
 by_cases e:c=45
 ·exact .inl e
 by_cases g:c=43
 ·exact .inr (.inl g)
 by_cases f:c=46
 ·exact .inr (.inr (.inl f))
 by_cases d:c=48
 ·exact .inr (.inr (.inr (.inl d)))
 by_cases a:c=101
 ·exact .inr (.inr (.inr (.inr (.inl a))))
 by_cases b:c=69
 ·exact .inr (.inr (.inr (.inr (.inr (.inl b)))))
 have j:=A2w e;have m:=A2w g;have l:=A2w f;have k:=A2w d;have i:=A2w a;have h:=A2w b;simp at j m l k i h;omega
theorem E2f {s:Nat} (h:s<=8):s=0\/s=1\/s=2\/s=3\/s=4\/s=5\/s=6\/s=7\/s=8:=by omega
theorem D7c (s:Nat) (a:s<=8) (c:UInt8) (b:c=45\/c=43\/c=46\/c=48\/c=101\/c=69) (w:World):Calls Tryz.prog 57 #[.int .i64 (s:Int),.int .u8 (c.toNat:Int)] w λe w'=>e=.returned (.int .i64 (beh s c:Nat))/\w'=w:=by
 rcases E2f a with rfl|rfl|rfl|rfl|rfl|rfl|rfl|rfl|rfl<;>rcases b with rfl|rfl|rfl|rfl|rfl|rfl<;>
  (clear a
   go_enter Tryz.func57,Tryz.ntmps57;go_wp2;go_ret
   exact⟨rfl,rfl⟩)
def G3u (s:Nat):Nat:=if s=0\/s=1\/s=3 then 3 else if s=4\/s=5 then 5 else if s=6\/s=7\/s=8 then 8 else 0
theorem C5b (s:Nat) (b:s<=8) (x v:Nat) (j:(49<=x/\x<=57/\v=G3u s)\/(x<48/\(x≠45/\x≠43/\x≠46)/\v=0)\/(57<x/\(x≠101/\x≠69)/\v=0)) (w:World):Calls Tryz.prog 57 #[.int .i64 (s:Int),.int .u8 (x:Int)] w λe w'=>e=.returned (.int .i64 (v:Int))/\w'=w:=by
 have h:((x:Int)==45)=false:=bqF (by omega);have g:((x:Int)==43)=false:=bqF (by omega);have f:((x:Int)==46)=false:=bqF (by omega);have d:((x:Int)==48)=false:=bqF (by omega);have a:((x:Int)==101)=false:=bqF (by omega);have i:((x:Int)==69)=false:=bqF (by omega)
 rcases j with⟨c,k,rfl⟩|⟨c,-,rfl⟩|⟨c,-,rfl⟩<;>rcases E2f b with rfl|rfl|rfl|rfl|rfl|rfl|rfl|rfl|rfl<;>
  (clear b
   go_enter Tryz.func57,Tryz.ntmps57;go_wp2;go_ret
   exact⟨rfl,rfl⟩)
theorem G0k {c:UInt8} (h:c.toNat≠45/\c.toNat≠43/\c.toNat≠46/\c.toNat≠48/\c.toNat≠101/\c.toNat≠69):c≠45/\c≠43/\c≠46/\c≠48/\c≠101/\c≠69:=by
 refine⟨?_,?_,?_,?_,?_,?_⟩<;>(rintro rfl;simp at h)
theorem F6v (s:Nat) {c:UInt8} (j:49<=c.toNat) (i:c.toNat<=57):beh s c=G3u s:=by
 have h:isD c=true:=(A6h c).2 ⟨by omega,i⟩;obtain⟨a,b,d,e,f,g⟩:=G0k (c:=c) (by omega);unfold beh G3u;simp only[h,a,b,d,e,f,g,and_false,and_true,or_false,if_false]
theorem F4y (s:Nat) {c:UInt8} (h:c.toNat<48\/57<c.toNat) (k:c.toNat≠45/\c.toNat≠43/\c.toNat≠46/\c.toNat≠48/\c.toNat≠101/\c.toNat≠69):beh s c=0:=by
 have j:isD c=false:=by
  cases i:isD c
  ·rfl
  ·have:=(A6h c).1 i;omega
 obtain⟨a,b,d,e,f,g⟩:=G0k k;unfold beh;simp only[j,a,b,d,e,f,g,and_false,or_false,if_false,Bool.false_eq_true]
theorem A4i (s:Nat) (d:s<=8) (c:UInt8) (w:World):Calls Tryz.prog 57 #[.int .i64 (s:Int),.int .u8 (c.toNat:Int)] w λe w'=>e=.returned (.int .i64 (beh s c:Nat))/\w'=w:=by
 rcases D7b c with h|h|h|h|h|h|⟨a,b⟩|⟨a,b,f,g⟩|⟨a,b,f⟩
 iterate 6 exact D7c s d c (by simp[h]) w
 ·rw[F6v s a b];exact C5b s d _ _ (.inl ⟨a,b,rfl⟩) w
 ·rw[F4y s (.inl a) (by omega)];exact C5b s d _ _ (.inr (.inl ⟨a,⟨b,f,g⟩,rfl⟩)) w
 ·rw[F4y s (.inr a) (by omega)];exact C5b s d _ _ (.inr (.inr ⟨a,⟨b,f⟩,rfl⟩)) w
def C5c (base B o T:Nat) (cs:Array Value) (v:Value) (w w':World) (t':Tk):Prop:=
 ∃cs' v',B3c base w' B o T cs' v' t'/\B1f o cs cs'/\Fr (λi=>i=B\/v.ownBlock=some i) w w'/\G0i v v' w
theorem B3c.setCell {base:Nat} {w:World} {B o T:Nat} {b:Array Value} {v:Value} {t:Tk} (i:T≠5) (h:B3c base w B o T b v t) (j:Nat) (u:Value) (c:Tk) (g:c.D=t.D) (f:TkIn (b.setIfInBounds j u) o v c):
 B3c base (w.setCell ⟨B,j,none⟩ u) B o T (b.setIfInBounds j u) v c:=by
 obtain⟨d,k,e⟩:=h;refine⟨heap_setCell_same w B j b T u d,f,?_⟩;rw[g];exact ownsRow_setCell_other e (a:=⟨B,j,none⟩) (A2i e d i) u
theorem B3c.drew {base:Nat} {w:World} {B o T:Nat} {a:Array Value} {v:Value} {t:Tk} (h:B3c base w B o T a v t):B3c base w.drew B o T a v t:=h
theorem G0m {t:Tk} {c:UInt8} {k:Nat} (h:beh t.st c=k) (a:k≠0):nxt t c=some (A4q t c k):=by
 rw[nxt,h,if_neg a]
theorem B9g (base B o T:Nat) (g:Array Value) (v:Value) (t:Tk) (c:UInt8) (w:World) (b:t.st<=8) (a:B3c base w B o T g v t) (d:beh t.st c=0):
 Calls Tryz.prog 36 #[.pointer (some ⟨B,o,none⟩),.int .u8 (c.toNat:Int)] w λe w'=>e=.returned (.bool false)/\w'=w:=by
 have f:=A0a a.1 a.2.1.c0;have h:=hid d;clear d a;go_enter Tryz.func36,Tryz.ntmps36
 go_wp2_with (go_at_call 57;refine(A4i t.st b c _).mono ?_;rintro e w' ⟨rfl,rfl⟩;rw[h.out])
 go_ret;exact⟨rfl,rfl⟩
theorem B9h (base B o T:Nat) (z:Array Value) (v:Value) (t:Tk) (c:UInt8) (w:World) (k:Nat) (q:T≠5) (a0:base<=w.heap.size) (hk:k<=1000000000000000) (A:TkOk t k) (ht:B3c base w B o T z v t) (V:beh t.st c≠0):
 Calls Tryz.prog 36 #[.pointer (some ⟨B,o,none⟩),.int .u8 (c.toNat:Int)] w λe w'=>e=.returned (.bool true)/\C5c base B o T z v w w' (A4q t c (beh t.st c)):=by
 have n:=A.st;have a9:=A.p1;have b0:=A.p2;have a8:=A.pw;have H:=A.len;have Z:=E1p t.st c;have d:= @B8x t.st c;obtain⟨l,X,ho⟩:=ht;have K:=A0a l X.c0;have Q:=A0a l X.c1;have O:=A0a l X.c2;have J:=A0a l X.c3;have E:=A0a l X.c4;have S:=A0a l X.c5;have N:=A0b (j:=o) l;have M:=A0b (j:=o+1) l;have U:=A0b (j:=o+2) l;have R:=A0b (j:=o+3) l;have C:=A0b (j:=o+4) l;have L:=A0b (j:=o+5) l;have m:=hid (show B3c base w B o T z v t from⟨l,X,ho⟩);clear A X ho;obtain f|f|f|f|f|f|f|f:beh t.st c=1\/beh t.st c=2\/beh t.st c=3\/beh t.st c=4\/beh t.st c=5\/beh t.st c=6\/beh t.st c=7\/beh t.st c=8:=by omega
 ·have r:=hid f
  rw[f];clear f V d Z l;go_enter Tryz.func36,Tryz.ntmps36
  go_wp2_with (go_at_call 57;refine(A4i t.st n c _).mono ?_;rintro e w' ⟨rfl,rfl⟩;rw[r.out])
  go_ret;exact⟨rfl,_,v,B3c.setCell q (B3c.setCell q m.out (o+1) _ ⟨t.st,true,t.D,t.P,t.pw,t.pn⟩ rfl (m.2.1.set1 true)) o _ _ rfl ((m.2.1.set1 true).set0 1),((B1f.refl o z).set 1 (by omega) _).set00 _,((Fr.refl _ _).setCell (.inl (.inl rfl)) _).setCell (.inl (.inl rfl)) _,λ_ h=>.inl h⟩
 ·have r:=hid f
  have hd:=d (by omega);rw[f];have HF:=hid (heap_setCell_same w B (o+2+1) z T (.int .i64 (t.P+1)) l);have s:=hid (m.2.1.set3 (t.P+1));have a7:=hid (ownsRow_setCell_other m.2.2 (a:=⟨B,o+2+1,none⟩) (A2i m.2.2 l q) (.int .i64 (t.P+1)));clear f V d Z l;go_enter Tryz.func36,Tryz.ntmps36
  go_wp2_with (first|(go_at_call 57;refine(A4i t.st n c _).mono ?_;rintro e w' ⟨rfl,rfl⟩;rw[r.out])|fail)
  refine(D1g base B (o+2) T _ t.D (t.P+1) c v _ q (by simpa using a0) HF.out s.c2 s.c3 a7.out H (by omega) (by omega) hd).mono ?_;rintro e w2 ⟨rfl,G,y,a2,W,Y⟩;have b:=(s.set2 G (A5p (t.D,t.P+1) (c.toNat-48)).1).set3 (A5p (t.D,t.P+1) (c.toNat-48)).2;have i:B3c base w2 B o T _ G _:=⟨y,b,a2⟩;have a5:=A0a y b.c0;have a6:=A0b (j:=o) y;have x:=hid i;have I:=hid W;have F:=hid Y;have u:=hid b;clear i b y a2 W Y K Q O J E S N M U R C L;go_wp2;go_ret;exact⟨rfl,_,G,B3c.setCell q x.out o _ _ rfl (u.set0 2),((((B1f.refl o z).set 3 (by omega) _).set 2 (by omega) _).set 3 (by omega) _).set00 _,(((Fr.refl _ _).setCell (.inl (.inl rfl)) _).trans I.out).setCell (.inl (.inl rfl)) _,λg hg=>by have:=F.out g hg;simpa using this⟩
 ·have r:=hid f
  have hd:=d (by omega);rw[f];have HF:=hid (heap_setCell_same w B (o+2+1) z T (.int .i64 (t.P+1)) l);have s:=hid (m.2.1.set3 (t.P+1));have a7:=hid (ownsRow_setCell_other m.2.2 (a:=⟨B,o+2+1,none⟩) (A2i m.2.2 l q) (.int .i64 (t.P+1)));clear f V d Z l;go_enter Tryz.func36,Tryz.ntmps36
  go_wp2_with (first|(go_at_call 57;refine(A4i t.st n c _).mono ?_;rintro e w' ⟨rfl,rfl⟩;rw[r.out])|fail)
  refine(D1g base B (o+2) T _ t.D (t.P+1) c v _ q (by simpa using a0) HF.out s.c2 s.c3 a7.out H (by omega) (by omega) hd).mono ?_;rintro e w2 ⟨rfl,G,y,a2,W,Y⟩;have b:=(s.set2 G (A5p (t.D,t.P+1) (c.toNat-48)).1).set3 (A5p (t.D,t.P+1) (c.toNat-48)).2;have i:B3c base w2 B o T _ G _:=⟨y,b,a2⟩;have a5:=A0a y b.c0;have a6:=A0b (j:=o) y;have x:=hid i;have I:=hid W;have F:=hid Y;have u:=hid b;clear i b y a2 W Y K Q O J E S N M U R C L;go_wp2;go_ret;exact⟨rfl,_,G,B3c.setCell q x.out o _ _ rfl (u.set0 3),((((B1f.refl o z).set 3 (by omega) _).set 2 (by omega) _).set 3 (by omega) _).set00 _,(((Fr.refl _ _).setCell (.inl (.inl rfl)) _).trans I.out).setCell (.inl (.inl rfl)) _,λg hg=>by have:=F.out g hg;simpa using this⟩
 ·have r:=hid f
  rw[f];clear f V d Z l;go_enter Tryz.func36,Tryz.ntmps36
  go_wp2_with (go_at_call 57;refine(A4i t.st n c _).mono ?_;rintro e w' ⟨rfl,rfl⟩;rw[r.out])
  go_ret;exact⟨rfl,_,v,B3c.setCell q m.out o _ _ rfl (m.2.1.set0 4),(B1f.refl o z).set00 _,(Fr.refl _ _).setCell (.inl (.inl rfl)) _,λ_ h=>.inl h⟩
 ·have r:=hid f
  have hd:=d (by omega);rw[f];have HF:=hid l;clear f V d Z l;go_enter Tryz.func36,Tryz.ntmps36
  go_wp2_with (first|(go_at_call 57;refine(A4i t.st n c _).mono ?_;rintro e w' ⟨rfl,rfl⟩;rw[r.out])|fail)
  refine(D1g base B (o+2) T z t.D t.P c v _ q a0 HF.out m.2.1.c2 m.2.1.c3 m.2.2 H (by omega) (by omega) hd).mono ?_;rintro e w2 ⟨rfl,G,y,a2,W,Y⟩;have b:=(m.2.1.set2 G (A5p (t.D,t.P) (c.toNat-48)).1).set3 (A5p (t.D,t.P) (c.toNat-48)).2;have i:B3c base w2 B o T _ G _:=⟨y,b,a2⟩;have a5:=A0a y b.c0;have a6:=A0b (j:=o) y;have x:=hid i;have I:=hid W;have F:=hid Y;have u:=hid b;clear i b y a2 W Y K Q O J E S N M U R C L;go_wp2;go_ret;exact⟨rfl,_,G,B3c.setCell q x.out o _ _ rfl (u.set0 5),(((B1f.refl o z).set 2 (by omega) _).set 3 (by omega) _).set00 _,I.setCell (.inl (.inl rfl)) _,λg hg=>by have:=F.out g hg;simpa using this⟩
 ·have r:=hid f
  rw[f];clear f V d Z l;go_enter Tryz.func36,Tryz.ntmps36
  go_wp2_with (go_at_call 57;refine(A4i t.st n c _).mono ?_;rintro e w' ⟨rfl,rfl⟩;rw[r.out])
  go_ret;exact⟨rfl,_,v,B3c.setCell q m.out o _ _ rfl (m.2.1.set0 6),(B1f.refl o z).set00 _,(Fr.refl _ _).setCell (.inl (.inl rfl)) _,λ_ h=>.inl h⟩
 ·have r:=hid f
  rw[f]
  have he:(((c.toNat:Int)==45))=decide (c=45):=by
   by_cases h:c=45
   ·subst h;decide
   ·have:=A2w h
    simp at this;rw[dcF h];exact bqF (by omega)
  have HE:=hid he;clear f V d Z l he;go_enter Tryz.func36,Tryz.ntmps36
  go_wp2_with (go_at_call 57;refine(A4i t.st n c _).mono ?_;rintro e w' ⟨rfl,rfl⟩;rw[r.out])
  go_ret;rw[HE.out];exact⟨rfl,_,v,B3c.setCell q (B3c.setCell q m.out (o+5) _ ⟨t.st,t.neg,t.D,t.P,t.pw,decide (c=45)⟩ rfl (m.2.1.set5 (decide (c=45)))) o _ _ rfl ((m.2.1.set5 (decide (c=45))).set0 7),((B1f.refl o z).set 5 (by omega) _).set00 _,((Fr.refl _ _).setCell (.inl (.inl rfl)) _).setCell (.inl (.inl rfl)) _,λ_ h=>.inl h⟩
 ·have r:=hid f
  have hd:=d (by omega);rw[f];clear f V d Z l;go_enter Tryz.func36,Tryz.ntmps36
  go_wp2_with (first|(go_at_call 57;refine(A4i t.st n c _).mono ?_;rintro e w' ⟨rfl,rfl⟩;rw[r.out])|fail)
  refine(C1j B o t.P t.pw c _ J E C hd (by omega) (by omega) a8).mono ?_;rintro e w2 ⟨rfl,rfl⟩;have b:=m.2.1.set4 (min (t.pw*10+(c.toNat-48)) (t.P.natAbs+632));have i:=B3c.setCell q m.out (o+4) (.int .i64 ((min (t.pw*10+(c.toNat-48)) (t.P.natAbs+632):Nat):Int)) ⟨t.st,t.neg,t.D,t.P,min (t.pw*10+(c.toNat-48)) (t.P.natAbs+632),t.pn⟩ rfl b;have a5:=A0a i.1 b.c0;have a6:=A0b (j:=o) i.1;have x:=hid i;have u:=hid b;clear i b K Q O J E S N M U R C L;go_wp2;go_ret;exact⟨rfl,_,v,B3c.setCell q (B3c.drew x.out) o _ _ rfl (u.set0 8),((B1f.refl o z).set 4 (by omega) _).set00 _,(((Fr.refl _ _).setCell (p:=⟨B,o+4,none⟩) (.inl (.inl rfl)) _).drew).setCell (.inl (.inl rfl)) _,λ_ h=>.inl h⟩
def byt (D:List Nat):LU8:=D.map (λd=>UInt8.ofNat (48+d))
theorem E9u {D:List Nat} (h:B0m D):bs D=(byt D).map (λc=>Value.int .u8 ((c.toNat:Nat):Int)):=by
 unfold bs byt;rw[List.map_map];apply List.map_congr_left;intro d a;have:=h d a;have e:(UInt8.ofNat (48+d)).toNat=48+d:=UInt8.toNat_ofNat_of_lt' (by show _<256;omega);simp only[Function.comp];rw[e]
theorem E2g {a b:Nat} (f:a<=9) (g:b<=9):(decide (UInt8.ofNat (48+a)<UInt8.ofNat (48+b))=decide (a<b))/\((UInt8.ofNat (48+a)==UInt8.ofNat (48+b))=decide (a=b)):=by
 have d:(UInt8.ofNat (48+a)).toNat=48+a:=UInt8.toNat_ofNat_of_lt' (by show _<256;omega);have c:(UInt8.ofNat (48+b)).toNat=48+b:=UInt8.toNat_ofNat_of_lt' (by show _<256;omega);constructor
 ·rw[decide_eq_decide,UInt8.lt_iff_toNat_lt,d,c];omega
 ·by_cases h:a=b
  ·subst h;simp
  ·rw[dcF h]
   apply bqF;intro e;have:=congrArg UInt8.toNat e;rw[d,c]at this;omega
theorem D7d (a b:List Nat) (c:B0m a) (f:B0m b):Op.bytesLess (byt a) (byt b)=B4g a b:=by
 induction a generalizing b with
 |nil=>cases b<;>rfl
 |cons x a ih=>
  cases b with
  |nil=>rfl
  |cons y b=>
   have e:=E2g (c x List.mem_cons_self) (f y List.mem_cons_self)
   show(decide (UInt8.ofNat (48+x)<UInt8.ofNat (48+y))||((UInt8.ofNat (48+x)==UInt8.ofNat (48+y))&&Op.bytesLess (byt a) (byt b)))=_
   rw[e.1,e.2,ih b (λd hd=>c d (List.mem_cons_of_mem _ hd)) (λd hd=>f d (List.mem_cons_of_mem _ hd))];rfl
theorem B9i (w:World) (a b:Value) (T:Nat) (o:Obj):((w.alloc (.cells #[a,b] T)).alloc o).drew.cell? ⟨w.heap.size,0,none⟩=some a/\((w.alloc (.cells #[a,b] T)).alloc o).drew.cell? ⟨w.heap.size,1,none⟩=some b:=by
 have h:((w.alloc (.cells #[a,b] T)).alloc o).drew.heap[w.heap.size]? =some (.cells #[a,b] T (0,0)):=(Below.heap_alloc _ _ _ (by simp)).trans (heap_alloc_new w _);exact⟨A4r h,A4s h⟩
theorem B4i (B o:Nat) (v:Value) (P:Int) (b:Nat) (d:Bool) (w:World) (l:w.cell? ⟨B,o+2,none⟩=some v) (p:w.cell? ⟨B,o+3,none⟩=some (.int .i64 P)) (m:w.cell? ⟨B,o+4,none⟩=some (.int .i64 (b:Int))) (k:w.cell? ⟨B,o+5,none⟩=some (.bool d))
 (j:B<w.heap.size) (a:Option Addr) (n cap:Nat) (i:v=.slice a n cap) (h: -4000000000000000<=P) (g:P<=4000000000000000) (f:b<=8000000000000000):
 Calls Tryz.prog 60 #[.pointer (some ⟨B,o,none⟩)] w λe w'=>e=.returned (.agg #[v,.int .i64 (if d then P-b else P+b)])/\Fr (λ_=>False) w w':=by
 subst i;cases d
 ·go_enter Tryz.func60,Tryz.ntmps60
  go_wp2;go_region
  all_goals
   go_wp2;refine bodyPost_ret (v:=.agg #[.slice a n cap,.int .i64 (P+b)]) ?_ rfl ?_
   ·have c:=B9i w (.slice a n cap) (.int .i64 (P+b)) 89 (Obj.cells #[Value.slice a n cap,Value.int IntKind.i64 (P+b)] 89)
    simp[results,Tryz.results60,go_sem,c.1,c.2]
   ·exact⟨rfl,(((Fr.refl _ _).alloc _).alloc _).drew⟩
 ·go_enter Tryz.func60,Tryz.ntmps60
  go_wp2;go_region
  all_goals
   go_wp2;refine bodyPost_ret (v:=.agg #[.slice a n cap,.int .i64 (P-b)]) ?_ rfl ?_
   ·have c:=B9i w (.slice a n cap) (.int .i64 (P-b)) 89 (Obj.cells #[Value.slice a n cap,Value.int IntKind.i64 (P-b)] 89)
    simp[results,Tryz.results60,go_sem,c.1,c.2]
   ·exact⟨rfl,(((Fr.refl _ _).alloc _).alloc _).drew⟩
theorem B3d (v:Value) (D:List Nat) (P:Int) (w:World) (m:B0m D) (p:D.length<=800) (d:w.ownsRow 0 5 1 v D.length (bs D)):
 Calls Tryz.prog 61 #[.agg #[v,.int .i64 P]] w λe w'=>e=.returned (.bool (oor D P))/\Fr (λ_=>False) w w':=by
 obtain⟨a,cap,rfl⟩:=A3y d;by_cases r:D.length=0
 ·have f:Hid (oor D P=false):=if_pos (.inl (List.eq_nil_of_length_eq_zero r))
  have j:((D.length:Int)==0)=true:=beq_iff_eq.2 (by omega);clear d;go_enter Tryz.func61,Tryz.ntmps61;go_wp2;go_ret;exact⟨by rw[f.out];rfl,(Fr.refl _ _).alloc _⟩
 ·have b:D≠[]:=by rintro rfl;exact r rfl
  have j:((D.length:Int)==0)=false:=bqF (by omega);by_cases l:P<309
  ·have f:Hid (oor D P=false):=if_pos (.inr l)
   clear d;have q:=hid b;clear b;go_enter Tryz.func61,Tryz.ntmps61;go_wp2;go_ret;exact⟨by rw[f.out];rfl,(Fr.refl _ _).alloc _⟩
  ·by_cases o:309<P
   ·have f:Hid (oor D P=true):=by rw[Hid,oor,if_neg (by intro h;rcases h with h|h;exact b h;exact l h),if_pos o]
    clear d;have q:=hid b;clear b;go_enter Tryz.func61,Tryz.ntmps61;go_wp2;go_ret;exact⟨by rw[f.out];rfl,(Fr.refl _ _).alloc _⟩
   ·have f:Hid (oor D P= !B4g D bnd):=by rw[Hid,oor,if_neg (by intro h;rcases h with h|h;exact b h;exact l h),if_neg o]
    obtain⟨g,n,s⟩:=A9r d (by omega);simp at s;obtain⟨rfl,rfl⟩:=s;have x:g<w.heap.size:=(d.lt g rfl).2
    have hr:(convert 65 9 (.slice (some ⟨g,0,none⟩) D.length cap)).run Tryz.prog (w.alloc (.cells #[.slice (some ⟨g,0,none⟩) D.length cap,.int .i64 P] 89))=.ok (.string (ofL (byt D))) (w.alloc (.cells #[.slice (some ⟨g,0,none⟩) D.length cap,.int .i64 P] 89)):=by
     have:=run_convert_bytes_arg (P:=Tryz.prog) (w.alloc (.cells #[.slice (some ⟨g,0,none⟩) D.length cap,.int .i64 P] 89)) 65 5 Tryz.underlying65 Tryz.underlying5 g 0 D.length cap ((byt D).map (λc=>((c.toNat:Nat):Int))) (by simp[byt]) (by
      intro i t;rw[Nat.zero_add,World.cell?_of_block (w:=w) (Below.heap_alloc w _ g x),d.cellAt i (by omega),E9u m,List.getElem?_map];have k:i<(byt D).length:=by simpa[byt]using t
      simp[List.getD,List.getElem?_eq_getElem k]) 9 Tryz.underlying9
     rw[this,C2s]
    have q:=hid b;clear b d;go_enter Tryz.func61,Tryz.ntmps61;go_wp2;go_ret;refine⟨?_,(Fr.refl _ _).alloc _⟩;rw[f.out,<-D7d D bnd m D4a];have u:Op.bytesLess (ofL (byt D)).toList (byt bnd)=Op.bytesLess (byt D) (byt bnd):=by rw[A0y]
    rw[<-u];rfl
theorem A8c {w w':World} {base e size:Nat} {v:Value} {n:Nat} {xs:List Value} (h:w.ownsRow base e size v n xs) (f:Fr (λ_=>False) w w'):w'.ownsRow base e size v n xs:=by
 obtain⟨i,b⟩:=h;refine⟨i,?_⟩;rcases b with b|⟨g,cap,a,j,d,c,hr⟩
 ·exact .inl b
 ·exact .inr ⟨g,cap,a,j,d,(f.block g (lt_of_block c) id).trans c,hr⟩
theorem C2t (base B o T:Nat) (d:Array Value) (v:Value) (t:Tk) (w:World) (a:B3c base w B o T d v t) (b:¬A8b t.st):
 Calls Tryz.prog 37 #[.pointer (some ⟨B,o,none⟩)] w λe w'=>e=.returned (.tuple #[.int .u64 0,.int .i64 3])/\w'=w:=by
 have c:=A0a a.1 a.2.1.c0;unfold A8b at b;have g:((t.st:Int)==2)=false:=bqF (by omega);have f:((t.st:Int)==3)=false:=bqF (by omega);have h:((t.st:Int)==5)=false:=bqF (by omega);have i:((t.st:Int)==8)=false:=bqF (by omega);clear a b;go_enter Tryz.func37,Tryz.ntmps37;go_wp2;go_ret2;exact⟨rfl,rfl⟩
def Tk.at (t:Tk):Int:=if t.pn then t.P-t.pw else t.P+t.pw
theorem C2u (base B o T:Nat) (cs:Array Value) (v:Value) (t:Tk) (w:World) (k:Nat) (hk:k<=1000000000000000) (b:TkOk t k) (ht:B3c base w B o T cs v t) (hE:A8b t.st):
 Calls Tryz.prog 37 #[.pointer (some ⟨B,o,none⟩)] w λe w'=>∃r,A8v t.D t.at r/\e=.returned (.tuple #[.int .u64 ((A2z t.neg r).1:Nat),.int .i64 ((A2z t.neg r).2:Nat)])/\Fr (λ_=>False) w w':=by
 have a2:=b.p1;have a3:=b.p2;have a4:=b.pw;have a1:=b.len;obtain⟨l,x,ho⟩:=ht;have H:=A0a l x.c0;have O:=A0a l x.c1;have N:=A0a l x.c2;have W:=A0a l x.c3;have K:=A0a l x.c4;have R:=A0a l x.c5;have z:=lt_of_block l;obtain⟨a,cap,rfl⟩:=A3y ho
 have Y: -3000000000000000<=t.at/\t.at<=3000000000000000:=by
  unfold Tk.at;split<;>omega
 have HO:=hid (A1j ho);have HD:=hid b.digs;have HH:=hid b.head;have HE:Hid (∀q:Int,(q=2\/q=3\/q=5\/q=8)\/True):=λ_=>.inr trivial
 clear b x ho l HE;rcases hE with L|L|L|L
 all_goals
  rw[L]at H;clear L;have d:∀A:World,Fr (λ_=>False) w A->A.cell? ⟨B,o+1,none⟩=some (.bool t.neg):=λA hF=>(hF.cell (p:=⟨B,o+1,none⟩) z id).trans O
  have X:=hid d;clear d;go_enter Tryz.func37,Tryz.ntmps37
  go_wp2_with fail
  refine(B4i B o _ t.P t.pw t.pn _ N W K R z a t.D.length cap rfl (by omega) (by omega) (by omega)).mono ?_;rintro e A ⟨rfl,F⟩;have j:(if t.pn=true then t.P-(t.pw:Int)else t.P+(t.pw:Int))=t.at:=rfl;rw[j];have Z:=X.out A F;have E:=hid F;have s:=hid (A8c HO.out (E.alloc (.cells #[.slice a t.D.length cap,.int .i64 t.at] 89)));clear F j H O N W K R
  go_wp2_with fail
  refine(B3d _ t.D t.at _ HD.out (by omega) s.out).mono ?_;rintro e w2 ⟨rfl,f⟩;have g:=(E.alloc (.cells #[.slice a t.D.length cap,.int .i64 t.at] 89)).trans f;have a0:=X.out w2 g;have M:=(f.cell (p:=⟨A.heap.size,0,none⟩) (by simp) id).trans (A3d _ _ _ _);have J:=(f.cell (p:=⟨A.heap.size,1,none⟩) (by simp) id).trans (A3d _ _ _ _);simp only[List.getElem?_toArray,List.getElem?_cons_zero,List.getElem?_cons_succ]at M J;have y:=hid g;have U:=hid (A8c s.out f);clear f g Z;by_cases hr:oor t.D t.at=true
  ·rw[hr]
   have V:=hid hr;clear hr;go_wp2;go_ret2;exact⟨9218868437227405312,⟨λ_=>rfl,λh=>(by rw[V.out]at h;cases h)⟩,rfl,y.out⟩
  ·have c:oor t.D t.at=false:=by simpa using hr
   rw[c]
   have S:t.D≠[]->t.at<=309:=by
    intro h1;unfold oor at c;by_cases h2:309<t.at
    ·rw[if_neg (by intro h;rcases h with h|h;exact h1 h;omega),if_pos h2]at c
     cases c
    ·omega
   have V:=hid c;have n:=hid S;clear hr c S
   go_wp2_with fail
   refine(D1c _ t.D t.at _ HD.out (by omega) HH.out (by omega) n.out U.out).mono ?_;rintro e w3 ⟨r,rfl,hr,Q⟩;have C:=F6q HD.out n.out V.out hr;have HV:=hid (show A8v t.D t.at r from⟨λh=>(by rw[V.out]at h;cases h),λ_=>⟨hr,C⟩⟩);have i:=y.trans Q;have I:=X.out w3 i;have m:=hid i;have u:=hid C;clear hr Q i C a0 y U s HO E X V n M J Y z;cases G:t.neg
   ·have hv:Hid (A2z t.neg r=(r,0)):=by rw[Hid,G];exact if_neg (by have:=u.out;omega)
    rw[G]at I;clear G;go_wp2;go_ret2;exact⟨r,HV.out,by rw[hv.out];rfl,m.out⟩
   ·have hv:Hid (A2z t.neg r=(r+9223372036854775808,0)):=by rw[Hid,G];exact if_neg (by have:=u.out;omega)
    rw[G]at I;clear G;go_wp2;go_ret2;refine⟨r,HV.out,?_,m.out⟩;rw[hv.out,<-F6i r (by have:=u.out;omega)];rfl
def G3v (l:LU8) (e:Ending):Prop:=
 (∀t,run t0 l=some t->A8b t.st->∃r,A8v t.D t.at r/\e=.returned (.tuple #[.int .u64 ((A2z t.neg r).1:Nat),.int .i64 ((A2z t.neg r).2:Nat)]))/\
 ((∀t,run t0 l=some t->¬A8b t.st)->e=.returned (.tuple #[.int .u64 0,.int .i64 3]))
def G3w (w:World) (l:LU8) (k:Nat) (wr:World):Prop:=
 ∃t cs v,run t0 (l.take k)=some t/\TkOk t k/\B3a t/\B3c w.heap.size wr w.heap.size 0 91 cs v t/\Fr (λ_=>False) w wr
theorem D7e (w:World) (l:LU8):G3w w l 0 (w.alloc (.cells #[.int .i64 0,.bool false,.slice none 0 0,.int .i64 0,.int .i64 0,.bool false] 91)):=
 ⟨t0,_,.slice none 0 0,by simp[run],E9g,λ_=>rfl,⟨heap_alloc_new _ _,⟨rfl,rfl,rfl,rfl,rfl,rfl⟩,World.ownsRow_nil _ _ _ _⟩,(Fr.refl _ _).alloc _⟩
theorem E2h {w wr w':World} {l:LU8} {k:Nat} {t:Tk} {e:Array Value} {v:Value} (o:k<l.length) (s:run t0 (l.take k)=some t) (n:TkOk t k) (f:B3a t) (p:B3c w.heap.size wr w.heap.size 0 91 e v t) (j:Fr (λ_=>False) w wr)
 (r:beh t.st l[k]≠0) (g:C5c w.heap.size w.heap.size 0 91 e v wr w' (A4q t l[k] (beh t.st l[k]))):G3w w l (k+1) w':=by
 obtain⟨b,h,q,_,m,_⟩:=g;have d:nxt t l[k]=some (A4q t l[k] (beh t.st l[k])):=G0m rfl r;have c:=C7r n f d;refine⟨_,b,h,?_,c.1,c.2,q,j.trans' m ?_⟩
 ·rw[List.take_succ_eq_append_getElem o,B7x _ s,d]
 ·intro i a
  rcases a with rfl|a
  ·exact .inr (Nat.le_refl _)
  ·exact .inr (p.2.2.lt i a).1
theorem B4j (l:LU8) (w:World) (J:l.length<=1000000000000000):
 Calls Tryz.prog 22 #[.string (ofL l)] w λe w'=>G3v l e/\Fr (λ_=>False) w w':=by
 have q:=A0c l;go_enter Tryz.func22,Tryz.ntmps22;go_wp2
 go_loopw [8] (λi wr=>∃k:Nat,k<=l.length/\i=.int .i64 k/\G3w w l k wr) (λi _=>l.length-(intOf i).toNat)
 case atStart=>exact⟨0,by omega,rfl,D7e w l⟩
 case round=>
  obtain⟨k,I,rfl,t,K,v,B,y,u,z,o⟩:=hrel;have s:=hid B;have D:=hid u;have g:=hid o;have c:=hid z;have m:=hid y;have p:=o.size;clear B y u z o;by_cases b:k<l.length
  ·have H:(ofL l)[k]'(by rw[q];exact b)=l[k]:=A1d l k _
   by_cases n:beh t.st l[k]=0
   ·have f:=hid n
    clear n
    go_wp2_with (go_at_call 36;refine(B9g _ _ _ _ _ _ t l[k] _ m.st c.out f.out).mono ?_;rintro e w' ⟨rfl,rfl⟩)
    go_ret2;refine⟨⟨λt' ht'=>?_,λ_=>rfl⟩,g.out⟩;exfalso;have C:nxt t l[k]=none:=by rw[nxt,f.out];rfl
    have:=E9f (l.drop (k+1)) s.out C;rw[<-List.drop_eq_getElem_cons b,List.take_append_drop,ht']at this;cases this
   ·have f:=hid n
    clear n
    go_wp2_with (go_at_call 36;refine(B9h _ _ _ _ _ _ t l[k] _ k (by omega) p (by omega) m.out c.out f.out).mono ?_;rintro e w' ⟨rfl,x⟩;have E:=hid x;clear x)
    go_roundw
    case rel=>exact⟨k+1,by omega,by go_num,E2h b s.out m.out D.out c.out g.out f.out E.out⟩
    case measure=>simp[intOf];omega
  ·obtain rfl:k=l.length:=by omega
   have a:Hid (run t0 l=some t):=by have:=s.out;rwa[List.take_length]at this
   by_cases j:A8b t.st
   ·have d:=hid j
    clear j
    go_wp2_with fail
    refine(C2u _ _ _ _ _ _ t _ l.length (by omega) m.out c.out d.out).mono ?_;rintro e w' ⟨r,hr,rfl,A⟩;have F:=hid hr;have G:=hid A;clear hr A;go_wp2;go_ret2;refine⟨⟨λt' ht' _=>?_,λh=>absurd d.out (h t a.out)⟩,g.trans G.out⟩;rw[a.out]at ht';cases ht';exact⟨r,F.out,rfl⟩
   ·have d:=hid j
    clear j
    go_wp2_with fail
    refine(C2t _ _ _ _ _ _ t _ c.out d.out).mono ?_;rintro e w' ⟨rfl,rfl⟩;go_wp2;go_ret2;refine⟨⟨λt' ht' h=>?_,λ_=>rfl⟩,g.out⟩;rw[a.out]at ht';cases ht';exact absurd h d.out
end Go.Proofs.YtmkkibaacclhnaaGreatDoor
