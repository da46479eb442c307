/-
  Part Pvx.
-/
import Derived.Test.YtmkkibaacclhnaaGreatDoorPrs
import Derived.Test.YtmkkibaacclhnaaGreatDoorPt
namespace Go.Proofs.YtmkkibaacclhnaaGreatDoor
open Go.RowKit
set_option maxRecDepth 100000
set_option maxHeartbeats 16000000
theorem F0t (B:Nat) (l o i g:Value) (s:Ps) (m k:Nat) (c:UInt8) (w:World) (h:PR B w l o i g s) (r:Nn i g) (a:PsOk s m k) (y:m<=10000000) (d:s.st=0):
 Calls Tryz.prog 85 #[.pointer (some ⟨B,0,none⟩),.int .u8 (c.toNat:Int)] w (A3v B s.came (own B l o i g) w (A3c s c)):=by
 have A:=And.intro r y;clear A;have H:=hid (PC.start h);have E:=hid h;have F:=A0b (j:=4) h.blk;have C:=A0a h.blk (show(A0f s l o i g)[4]? =some (.int .i64 (s.st:Int))from rfl);rw[d]at C;have f:=a.tok (by omega);have x:=a.c.iln;have z:=a.c.oln;have v:=a.c.dep2;have b:=B3g B l o i g s c w h r f (by omega) (by omega);clear h a f d;cases hr:A3c s c with
 |error n=>
  rw[hr]at b;have p:=hid b;clear b hr;go_enter Tryz.func85,Tryz.ntmps85
  go_wp2_with fail
  refine Calls.mono p.out ?_;rintro e D ⟨rfl,u⟩;exact⟨rfl,rfl,u⟩
 |ok s'=>
  rw[hr]at b;have p:=hid b;clear b hr;go_enter Tryz.func85,Tryz.ntmps85
  go_wp2_with fail
  refine Calls.mono p.out ?_;rintro e D ⟨rfl,q⟩;have t:=hid q;clear q;go_wp2;go_end0;exact⟨rfl,t.out⟩
theorem E3p (B:Nat) (o p l i:Value) (s:Ps) (m k:Nat) (c:UInt8) (w:World) (h:PR B w o p l i s) (t:Nn l i) (a:PsOk s m k) (z:m<=10000000) (f:s.st=1) (b:c≠93):
 Calls Tryz.prog 85 #[.pointer (some ⟨B,0,none⟩),.int .u8 (c.toNat:Int)] w (A3v B s.came (own B o p l i) w (A3c s c)):=by
 have C:=And.intro t z;clear C;have H:=hid (PC.start h);have G:=hid h;have I:=A0b (j:=4) h.blk;have D:=A0a h.blk (show(A0f s o p l i)[4]? =some (.int .i64 (s.st:Int))from rfl);rw[f]at D;have g:=a.tok (by omega);have y:=a.c.iln;have A:=a.c.oln;have x:=a.c.dep2;have E:((c.toNat:Int)==93)=false:=bqF (by have:=A0k b;simp at this;omega);have d:=B3g B o p l i s c w h t g (by omega) (by omega);clear h a g f b;cases hr:A3c s c with
 |error n=>
  rw[hr]at d;have q:=hid d;clear d hr;go_enter Tryz.func85,Tryz.ntmps85
  go_wp2_with fail
  refine Calls.mono q.out ?_;rintro e F ⟨rfl,v⟩;exact⟨rfl,rfl,v⟩
 |ok s'=>
  rw[hr]at d;have q:=hid d;clear d hr;go_enter Tryz.func85,Tryz.ntmps85
  go_wp2_with fail
  refine Calls.mono q.out ?_;rintro e F ⟨rfl,r⟩;have u:=hid r;clear r;go_wp2;go_end0;exact⟨rfl,u.out⟩
theorem E3q (B:Nat) (o p n l:Value) (s:Ps) (m k:Nat) (c:UInt8) (w:World) (h:PR B w o p n l s) (v:Nn n l) (a:PsOk s m k) (t:m<=10000000) (g:s.st=1) (d:c=93):
 Calls Tryz.prog 85 #[.pointer (some ⟨B,0,none⟩),.int .u8 (c.toNat:Int)] w (A3v B s.came (own B o p n l) w (.ok (A5d s))):=by
 have E:=And.intro v t;clear E;have H:=hid (PC.start h);have I:=hid h;have J:=A0b (j:=4) h.blk;have F:=A0a h.blk (show(A0f s o p n l)[4]? =some (.int .i64 (s.st:Int))from rfl);rw[g]at F;have r:=a.tok (by omega);have D:=a.c.iln;have f:=a.c.oln;have C:=a.c.dep2;have G:((c.toNat:Int)==93)=true:=by rw[d];rfl
 obtain⟨b,i,q⟩:∃b i,s.opn=b++[i]:=by
  rcases List.eq_nil_or_concat s.opn with z|⟨b,i,A⟩
  ·exact absurd z (a.o13 (by omega))
  ·exact⟨b,i,by rw[A,List.concat_eq_append]⟩
 have x:=hid (B1t B o p n l s b i w h v q (a.c.ok t) (by omega) (by rw[q]at f;simp at f;omega));clear h a r g q d;go_enter Tryz.func85,Tryz.ntmps85
 go_wp2_with fail
 refine Calls.mono x.out ?_;rintro e K ⟨rfl,u⟩;have y:=hid u;clear u;go_wp2;go_end0;exact⟨rfl,y.out⟩
theorem E3r (B:Nat) (o p n l:Value) (s:Ps) (m k:Nat) (c:UInt8) (w:World) (h:PR B w o p n l s) (v:Nn n l) (a:PsOk s m k) (t:m<=10000000) (g:s.st=3) (b:c=125):
 Calls Tryz.prog 85 #[.pointer (some ⟨B,0,none⟩),.int .u8 (c.toNat:Int)] w (A3v B s.came (own B o p n l) w (.ok (A5d s))):=by
 have F:=And.intro v t;clear F;have H:=hid (PC.start h);have I:=hid h;have J:=A0b (j:=4) h.blk;have G:=A0a h.blk (show(A0f s o p n l)[4]? =some (.int .i64 (s.st:Int))from rfl);rw[g]at G;have r:=a.tok (by omega);have E:=a.c.iln;have f:=a.c.oln;have D:=a.c.dep2;have x:((c.toNat:Int)==125)=true:=by rw[b];rfl
 obtain⟨d,i,q⟩:∃d i,s.opn=d++[i]:=by
  rcases List.eq_nil_or_concat s.opn with A|⟨d,i,C⟩
  ·exact absurd A (a.o13 (by omega))
  ·exact⟨d,i,by rw[C,List.concat_eq_append]⟩
 have y:=hid (B1t B o p n l s d i w h v q (a.c.ok t) (by omega) (by rw[q]at f;simp at f;omega));clear h a r g q b;go_enter Tryz.func85,Tryz.ntmps85
 go_wp2_with fail
 refine Calls.mono y.out ?_;rintro e K ⟨rfl,u⟩;have z:=hid u;clear u;go_wp2;go_end0;exact⟨rfl,z.out⟩
theorem E3s (B:Nat) (i l f e:Value) (s:Ps) (m k:Nat) (c:UInt8) (w:World) (h:PR B w i l f e s) (n:Nn f e) (a:PsOk s m k) (t:m<=10000000) (d:s.st=2) (b:c=34):
 Calls Tryz.prog 85 #[.pointer (some ⟨B,0,none⟩),.int .u8 (c.toNat:Int)] w (A3v B s.came (own B i l f e) w (.ok (C1m s 8))):=by
 have v:=And.intro n t;clear v;have H:=hid (PC.start h);have z:=hid h;have A:=A0b (j:=4) h.blk;have x:=A0a h.blk (show(A0f s i l f e)[4]? =some (.int .i64 (s.st:Int))from rfl);rw[d]at x;have g:=a.tok (by omega);have r:=a.c.iln;have u:=a.c.oln;have p:=a.c.dep2;have y:((c.toNat:Int)==34)=true:=by rw[b];rfl
 have o:=hid (H.cell 4 (.int .i64 8) (C1m s 8) rfl rfl rfl rfl rfl);clear h a g d b;go_enter Tryz.func85,Tryz.ntmps85;go_wp2;go_end0;exact⟨rfl,_,_,_,_,o.out,n.q _⟩
theorem E3t (B:Nat) (i l f e:Value) (s:Ps) (m k:Nat) (c:UInt8) (w:World) (h:PR B w i l f e s) (t:Nn f e) (a:PsOk s m k) (q:m<=10000000) (d:s.st=2) (b:c≠34):
 Calls Tryz.prog 85 #[.pointer (some ⟨B,0,none⟩),.int .u8 (c.toNat:Int)] w (A3v B s.came (own B i l f e) w (.error 3)):=by
 have u:=And.intro t q;clear u;have H:=hid (PC.start h);have n:=hid h;have y:=A0b (j:=4) h.blk;have v:=A0a h.blk (show(A0f s i l f e)[4]? =some (.int .i64 (s.st:Int))from rfl);rw[d]at v;have g:=a.tok (by omega);have p:=a.c.iln;have r:=a.c.oln;have o:=a.c.dep2;have x:((c.toNat:Int)==34)=false:=bqF (by have:=A0k b;simp at this;omega);clear h a g d b;go_enter Tryz.func85,Tryz.ntmps85;go_wp2;exact⟨rfl,rfl,B5p.same n.out (Fr.refl _ _)⟩
theorem E3u (B:Nat) (l n g f:Value) (s:Ps) (m k:Nat) (c:UInt8) (w:World) (h:PR B w l n g f s) (o:Nn g f) (b:PsOk s m k) (v:m<=10000000) (e:s.st=3) (a:c≠125) (d:c=34):
 Calls Tryz.prog 85 #[.pointer (some ⟨B,0,none⟩),.int .u8 (c.toNat:Int)] w (A3v B s.came (own B l n g f) w (.ok (C1m s 8))):=by
 have y:=And.intro o v;clear y;have H:=hid (PC.start h);have C:=hid h;have D:=A0b (j:=4) h.blk;have z:=A0a h.blk (show(A0f s l n g f)[4]? =some (.int .i64 (s.st:Int))from rfl);rw[e]at z;have i:=b.tok (by omega);have u:=b.c.iln;have x:=b.c.oln;have t:=b.c.dep2;have p:((c.toNat:Int)==125)=false:=bqF (by have:=A0k a;simp at this;omega);have A:((c.toNat:Int)==34)=true:=by rw[d];rfl
 have r:=hid (H.cell 4 (.int .i64 8) (C1m s 8) rfl rfl rfl rfl rfl);clear h b i e d a;go_enter Tryz.func85,Tryz.ntmps85;go_wp2;go_end0;exact⟨rfl,_,_,_,_,r.out,o.q _⟩
theorem E3v (B:Nat) (l n g f:Value) (s:Ps) (m k:Nat) (c:UInt8) (w:World) (h:PR B w l n g f s) (v:Nn g f) (b:PsOk s m k) (t:m<=10000000) (e:s.st=3) (a:c≠125) (d:c≠34):
 Calls Tryz.prog 85 #[.pointer (some ⟨B,0,none⟩),.int .u8 (c.toNat:Int)] w (A3v B s.came (own B l n g f) w (.error 3)):=by
 have x:=And.intro v t;clear x;have H:=hid (PC.start h);have p:=hid h;have A:=A0b (j:=4) h.blk;have y:=A0a h.blk (show(A0f s l n g f)[4]? =some (.int .i64 (s.st:Int))from rfl);rw[e]at y;have i:=b.tok (by omega);have r:=b.c.iln;have u:=b.c.oln;have q:=b.c.dep2;have o:((c.toNat:Int)==125)=false:=bqF (by have:=A0k a;simp at this;omega);have z:((c.toNat:Int)==34)=false:=bqF (by have:=A0k d;simp at this;omega);clear h b i e d a;go_enter Tryz.func85,Tryz.ntmps85;go_wp2;exact⟨rfl,rfl,B5p.same p.out (Fr.refl _ _)⟩
theorem E3w (B:Nat) (i l f e:Value) (s:Ps) (m k:Nat) (c:UInt8) (w:World) (h:PR B w i l f e s) (n:Nn f e) (a:PsOk s m k) (t:m<=10000000) (d:s.st=4) (b:c=58):
 Calls Tryz.prog 85 #[.pointer (some ⟨B,0,none⟩),.int .u8 (c.toNat:Int)] w (A3v B s.came (own B i l f e) w (.ok (C1m s 0))):=by
 have v:=And.intro n t;clear v;have H:=hid (PC.start h);have z:=hid h;have A:=A0b (j:=4) h.blk;have x:=A0a h.blk (show(A0f s i l f e)[4]? =some (.int .i64 (s.st:Int))from rfl);rw[d]at x;have g:=a.tok (by omega);have r:=a.c.iln;have u:=a.c.oln;have p:=a.c.dep2;have y:((c.toNat:Int)==58)=true:=by rw[b];rfl
 have o:=hid (H.cell 4 (.int .i64 0) (C1m s 0) rfl rfl rfl rfl rfl);clear h a g d b;go_enter Tryz.func85,Tryz.ntmps85;go_wp2;go_end0;exact⟨rfl,_,_,_,_,o.out,n.q _⟩
theorem E3x (B:Nat) (i l f e:Value) (s:Ps) (m k:Nat) (c:UInt8) (w:World) (h:PR B w i l f e s) (t:Nn f e) (a:PsOk s m k) (q:m<=10000000) (d:s.st=4) (b:c≠58):
 Calls Tryz.prog 85 #[.pointer (some ⟨B,0,none⟩),.int .u8 (c.toNat:Int)] w (A3v B s.came (own B i l f e) w (.error 3)):=by
 have u:=And.intro t q;clear u;have H:=hid (PC.start h);have n:=hid h;have y:=A0b (j:=4) h.blk;have v:=A0a h.blk (show(A0f s i l f e)[4]? =some (.int .i64 (s.st:Int))from rfl);rw[d]at v;have g:=a.tok (by omega);have p:=a.c.iln;have r:=a.c.oln;have o:=a.c.dep2;have x:((c.toNat:Int)==58)=false:=bqF (by have:=A0k b;simp at this;omega);clear h a g d b;go_enter Tryz.func85,Tryz.ntmps85;go_wp2;exact⟨rfl,rfl,B5p.same n.out (Fr.refl _ _)⟩
theorem E3y (B:Nat) (i o g f:Value) (s:Ps) (m k:Nat) (c:UInt8) (w:World) (h:PR B w i o g f s) (y:Nn g f) (d:PsOk s m k) (u:m<=10000000) (e:s.st=5) (p:s.opn=[]):
 Calls Tryz.prog 85 #[.pointer (some ⟨B,0,none⟩),.int .u8 (c.toNat:Int)] w (A3v B s.came (own B i o g f) w (.error 3)):=by
 have z:=And.intro y u;clear z;have H:=hid (PC.start h);have q:=hid h;have C:=A0b (j:=4) h.blk;have A:=A0a h.blk (show(A0f s i o g f)[4]? =some (.int .i64 (s.st:Int))from rfl);rw[e]at A;have l:=d.tok (by omega);have t:=d.c.iln;have x:=d.c.oln;have r:=d.c.dep2;have b:=h.oo;rw[p]at b;obtain⟨a,n,cap,rfl⟩:=A0h b
 have v:n=0:=by
  rcases b.2 with⟨h,_⟩|⟨_,_,_,h,_⟩
  ·simp at h;exact h.2.1
  ·simp at h;exact h.2.1
 subst v;have D:=A0a h.blk (show(A0f s i (.slice a 0 cap) g f)[6]? =some (.slice a 0 cap)from rfl);clear b;clear h d l e p;go_enter Tryz.func85,Tryz.ntmps85;go_wp2;exact⟨rfl,rfl,B5p.same q.out (Fr.refl _ _)⟩
theorem E3z (B:Nat) (r t o l:Value) (s:Ps) (m k:Nat) (c:UInt8) (w:World) (h:PR B w r t o l s) (F:Nn o l) (b:PsOk s m k) (A:m<=10000000) (q:s.st=5) (C:s.opn≠[]):
 Calls Tryz.prog 85 #[.pointer (some ⟨B,0,none⟩),.int .u8 (c.toNat:Int)] w (A3v B s.came (own B r t o l) w (A4m s c)):=by
 have Q:=And.intro F A;clear Q;have H:=hid (PC.start h);have T:=hid h;have U:=A0b (j:=4) h.blk;have R:=A0a h.blk (show(A0f s r t o l)[4]? =some (.int .i64 (s.st:Int))from rfl);rw[q]at R;have v:=b.tok (by omega);have O:=b.c.iln;have P:=b.c.oln;have N:=b.c.dep2
 obtain⟨a,i,f⟩:∃a i,s.opn=a++[i]:=by
  rcases List.eq_nil_or_concat s.opn with J|⟨a,i,K⟩
  ·exact absurd J C
  ·exact⟨a,i,by rw[K,List.concat_eq_append]⟩
 obtain⟨x,G,_⟩:=b.c.opn i (by rw[f];simp);have p:a.length+1=s.opn.length:=by rw[f];simp
 have g:=C1q B r t o l s a i x c w h F f G (b.c.ok A) (by omega) (by omega);have d:=h.oo;rw[<-p]at d;obtain⟨z,y,rfl⟩:=A9r d (by omega);have V:=A0a h.blk (show(A0f s r (.slice (some ⟨z,0,none⟩) (a.length+1) y) o l)[6]? =some (.slice (some ⟨z,0,none⟩) (a.length+1) y)from rfl);have E:0<a.length+1:=by omega
 clear h b v q C f G p d;generalize a.length+1=M at*;cases hr:A4m s c with
 |error n=>
  rw[hr]at g;have u:=hid g;clear g hr;go_enter Tryz.func85,Tryz.ntmps85
  go_wp2_with fail
  refine Calls.mono u.out ?_;rintro e S ⟨rfl,L⟩;exact⟨rfl,rfl,L⟩
 |ok s'=>
  rw[hr]at g;have u:=hid g;clear g hr;go_enter Tryz.func85,Tryz.ntmps85
  go_wp2_with fail
  refine Calls.mono u.out ?_;rintro e S ⟨rfl,D⟩;have I:=hid D;clear D;go_wp2;go_end0;exact⟨rfl,I.out⟩
theorem B9z (B:Nat) (f g e d:Value) (s:Ps) (m k:Nat) (c:UInt8) (w:World) (h:PR B w f g e d s) (j:Nn e d) (a:PsOk s m k) (i:m<=10000000) (o:s.st<=5):
 Calls Tryz.prog 85 #[.pointer (some ⟨B,0,none⟩),.int .u8 (c.toNat:Int)] w (A3v B s.came (own B f g e d) w (A3f s c)):=by
 unfold A3f;rcases(show s.st=0\/s.st=1\/s.st=2\/s.st=3\/s.st=4\/s.st=5 by omega)with h0|h0|h0|h0|h0|h0
 ·rw[if_neg (by omega),if_pos (.inl h0)]
  exact F0t B f g e d s m k c w h j a i h0
 ·by_cases b:c=93
  ·rw[if_pos (.inl ⟨h0,b⟩)]
   exact E3q B f g e d s m k c w h j a i h0 b
  ·rw[if_neg (by rintro(⟨_,h⟩|⟨h,_⟩);exact b h;omega),if_pos (.inr h0)]
   exact E3p B f g e d s m k c w h j a i h0 b
 ·rw[if_neg (by omega),if_neg (by omega)]
  by_cases b:c=34
  ·rw[if_pos ⟨.inl h0,b⟩]
   exact E3s B f g e d s m k c w h j a i h0 b
  ·rw[if_neg (λh=>b h.2),if_neg (by omega),if_neg (by omega)]
   exact E3t B f g e d s m k c w h j a i h0 b
 ·by_cases b:c=125
  ·rw[if_pos (.inr ⟨h0,b⟩)]
   exact E3r B f g e d s m k c w h j a i h0 b
  ·rw[if_neg (by rintro(⟨h,_⟩|⟨_,h⟩);omega;exact b h),if_neg (by omega)]
   by_cases l:c=34
   ·rw[if_pos ⟨.inr h0,l⟩]
    exact E3u B f g e d s m k c w h j a i h0 b l
   ·rw[if_neg (λh=>l h.2),if_neg (by omega),if_neg (by omega)]
    exact E3v B f g e d s m k c w h j a i h0 b l
 ·rw[if_neg (by omega),if_neg (by omega),if_neg (by omega)]
  by_cases b:c=58
  ·rw[if_pos ⟨h0,b⟩]
   exact E3w B f g e d s m k c w h j a i h0 b
  ·rw[if_neg (λh=>b h.2),if_neg (by omega)]
   exact E3x B f g e d s m k c w h j a i h0 b
 ·rw[if_neg (by omega),if_neg (by omega),if_neg (by omega),if_neg (by omega)]
  by_cases n:s.opn=[]
  ·rw[if_neg (λh=>h.2 n)]
   exact E3y B f g e d s m k c w h j a i h0 n
  ·rw[if_pos ⟨h0,n⟩]
   exact E3z B f g e d s m k c w h j a i h0 n
def G1k (W:World) (B:Nat) (l:List (Nat×Value)):World:=l.foldl (λW p=>W.setCell ⟨B,p.1,none⟩ p.2) W
theorem D4u {W:World} {B T:Nat} {a:Array Value} (l:List (Nat×Value)) (h:W.heap[B]? =some (.cells a T (0,0))):(G1k W B l).heap[B]? =some (.cells (l.foldl (λa p=>a.setIfInBounds p.1 p.2) a) T (0,0)):=by
 induction l generalizing W a with
 |nil=>exact h
 |cons p l ih=>exact ih (heap_setCell_same W B p.1 a T p.2 h)
theorem B2k {W:World} {B e size n:Nat} {v:Value} {xs:List Value} (l:List (Nat×Value)) (h:W.ownsRow 0 e size v n xs) (b:v.ownBlock≠some B):(G1k W B l).ownsRow 0 e size v n xs:=by
 induction l generalizing W with
 |nil=>exact h
 |cons p l ih=>exact ih (A0q h (a:=⟨B,p.1,none⟩) b p.2)
theorem E4a {S:Nat->Prop} {w0 W:World} {B:Nat} (l:List (Nat×Value)) (h:Fr S w0 W) (a:S B\/w0.heap.size<=B):Fr S w0 (G1k W B l):=by
 induction l generalizing W with
 |nil=>exact h
 |cons p l ih=>exact ih (h.setCell (p:=⟨B,p.1,none⟩) a p.2)
theorem B3u (W:World) (e size:Nat):W.ownsRow 0 e size (.slice none 0 0) 0 []:=⟨by simp,.inl ⟨rfl,rfl⟩⟩
def C5t:List (Nat×Value):=[(8,.int .i64 0),(9,.bool false),(10,.slice none 0 0),(11,.int .i64 0),(12,.int .i64 0),(13,.bool false)]
def D4v:List (Nat×Value):=[(14,.int .i64 0),(15,.slice none 0 0),(16,.int .i64 0),(17,.int .u8 0),(18,.int .u8 0),(19,.int .i64 0),(20,.int .i32 0),(21,.int .i32 0)]
theorem C8r (s:Ps) (b d e c:Value):C5t.foldl (λa p=>a.setIfInBounds p.1 p.2) (A0f s b d e c)=A0f ⟨s.depth,s.came,s.st,s.items,s.opn,s.word,t0,s.tx⟩ b d (.slice none 0 0) c:=by
 simp[C5t,A0f,t0]
theorem D2f (s:Ps) (b c d e:Value):D4v.foldl (λa p=>a.setIfInBounds p.1 p.2) (A0f s b c d e)=A0f ⟨s.depth,s.came,s.st,s.items,s.opn,s.word,s.tok,tr0⟩ b c d (.slice none 0 0):=by
 simp[D4v,A0f,tr0]
theorem PC.tokNil {B:Nat} {S:Nat->Prop} {w0 W:World} {l n o m:Value} {s:Ps} (h:PC B S w0 l n o m W s):PC B S w0 l n (.slice none 0 0) m (G1k W B C5t) ⟨s.depth,s.came,s.st,s.items,s.opn,s.word,t0,s.tx⟩:=by
 obtain⟨⟨a,b,c,d,e,f⟩,g,k⟩:=h;refine⟨⟨(D4u C5t a).trans (by rw[C8r]),B2k _ b (A8y b a (by decide)),B2k _ c (A8y c a (by decide)),B3u _ 5 1,B2k _ e (A8y e a (by decide)),.inl rfl⟩,E4a _ g (k B (.inl rfl)),?_⟩;intro i j;rcases j with j|j|j|j|j
 ·exact k i (.inl j)
 ·exact k i (.inr (.inl j))
 ·exact k i (.inr (.inr (.inl j)))
 ·cases j
 ·exact k i (.inr (.inr (.inr (.inr j))))
theorem PC.txNil {B:Nat} {S:Nat->Prop} {w0 W:World} {l m n o:Value} {s:Ps} (h:PC B S w0 l m n o W s):PC B S w0 l m n (.slice none 0 0) (G1k W B D4v) ⟨s.depth,s.came,s.st,s.items,s.opn,s.word,s.tok,tr0⟩:=by
 obtain⟨⟨a,b,c,d,e,f⟩,g,k⟩:=h;refine⟨⟨(D4u D4v a).trans (by rw[D2f]),B2k _ b (A8y b a (by decide)),B2k _ c (A8y c a (by decide)),B2k _ d (A8y d a (by decide)),B3u _ 5 1,.inr rfl⟩,E4a _ g (k B (.inl rfl)),?_⟩;intro i j;rcases j with j|j|j|j|j
 ·exact k i (.inl j)
 ·exact k i (.inr (.inl j))
 ·exact k i (.inr (.inr (.inl j)))
 ·exact k i (.inr (.inr (.inr (.inl j))))
 ·cases j
theorem PC.same {B:Nat} {S:Nat->Prop} {w0 W w':World} {j m n l:Value} {s:Ps} (h:PC B S w0 j m n l W s) (i:Fr (λ_=>False) W w'):PC B S w0 j m n l w' s:=by
 obtain⟨⟨a,b,c,d,e,f⟩,g,k⟩:=h;exact⟨⟨i.heap a id,A7e b i (λ_ _=>id),A7e c i (λ_ _=>id),A7e d i (λ_ _=>id),A7e e i (λ_ _=>id),f⟩,g.trans' i (λ_ h=>h.elim),k⟩
theorem F0u (B:Nat) (c:Array Value) (v:Value) (t:Tk) (k:Nat) (w:World) (g:k<=1000000000000000) (a:TkOk t k) (d:B3c 0 w B 8 113 c v t):
 Calls Tryz.prog 37 #[.pointer (some ⟨B,8,none⟩)] w λe w'=>e=.returned (.tuple #[.int .u64 ((A3n t).1:Nat),.int .i64 ((A3n t).2:Nat)])/\Fr (λ_=>False) w w':=by
 by_cases b:A8b t.st
 ·refine(C2u 0 B 8 113 c v t w k g a d b).mono ?_
  rintro e w' ⟨r,hr,rfl,f⟩;refine⟨?_,f⟩;rw[A3n,if_pos b,D4i a.digs a.head hr]
 ·refine(C2t 0 B 8 113 c v t w d b).mono ?_
  rintro e w' ⟨rfl,rfl⟩;refine⟨?_,Fr.refl _ _⟩;rw[A3n,if_neg b];rfl
theorem D4w (B o T:Nat) (E:Array Value) (v:Value) (t:Tk) (k:Nat) (w:World) (K:k<=1000000000000000) (b:TkOk t k) (J:B3c 0 w B o T E v t):
 Calls Tryz.prog 136 #[.pointer (some ⟨B,o,none⟩)] w λe w'=>e=.returned (.bool (A3b t))/\Fr (λ_=>False) w w':=by
 have G:=b.p1;have H:=b.p2;have I:=b.pw;have y:=b.len;obtain⟨d,f,x⟩:=J;have u:=A0a d f.c0;have j:=A0a d f.c2;have l:=A0a d f.c3;have m:=A0a d f.c4;have c:=A0a d f.c5;have s:=lt_of_block d;obtain⟨a,cap,rfl⟩:=A3y x;have C:=hid x;have A:=hid b.digs;unfold A3b;clear b f x d;by_cases p:7<=t.st
 ·have F:decide (7<=(t.st:Int))=true:=dcT (by omega)
  rw[dcT p];clear p;cases n:t.pn
  ·rw[n]at c
   have z:=hid (show(if false=true then t.P-(t.pw:Int)else t.P+(t.pw:Int))=t.at by rw[Tk.at,n]);clear n;go_enter Tryz.func136,Tryz.ntmps136
   go_wp2_with fail
   refine(B4i B o _ t.P t.pw false _ j l m c s a t.D.length cap rfl (by omega) (by omega) (by omega)).mono ?_;rintro e L ⟨rfl,h⟩;rw[z.out];have g:=hid h;have r:=hid (A8c C.out g.out);clear h u j l m c
   go_wp2_with fail
   refine(B3d _ t.D t.at _ A.out (by omega) r.out).mono ?_;rintro e M ⟨rfl,i⟩;have q:=hid (g.trans i);clear i;go_wp2;go_ret;exact⟨rfl,q.out⟩
  ·rw[n]at c
   clear n;go_enter Tryz.func136,Tryz.ntmps136;go_wp2;go_ret;exact⟨rfl,Fr.refl _ _⟩
 ·have F:decide (7<=(t.st:Int))=false:=dcF (by omega)
  rw[dcF p];clear p;go_enter Tryz.func136,Tryz.ntmps136;go_wp2;go_ret;exact⟨rfl,Fr.refl _ _⟩
def G1m (B:Nat) (S:Nat->Prop) (w:World) (r:Except Nat Ps) (e:Ending) (w':World):Prop:=
 match r with
 |.ok s'=>e=.returned (.int .i64 0)/\PSt B S w w' s'
 |.error n=>e=.returned (.int .i64 (n:Int))/\Fr (λ_=>False) w w'
theorem B7a (B:Nat) (z l o i:Value) (s:Ps) (m k:Nat) (w:World) (h:PR B w z l o i s) (C:i.ownBlock=none) (f:PsOk s m k) (hm:m<=5000000) (hk:k<=10000000):
 Calls Tryz.prog 86 #[.pointer (some ⟨B,0,none⟩)] w (G1m B (own B z l o i) w (A2f s)):=by
 have J:=hid (F0u B _ o s.tok k w (by omega) f.tk1 h.tkAt);have H:=hid (PC.start h);have a0:=f.c.oln;have Z:=f.c.iln;unfold A2f;generalize M:(A3n s.tok).1=b at*;generalize N:(A3n s.tok).2=y at*;have Q:=A0a h.blk (show(A0f s z l o i)[5]? =some z from rfl);have A:=lt_of_block h.blk;by_cases x:y≠0
 ·rw[if_pos x]
  have X:((y:Int)!=0)=true:=bne_iff_ne.2 (by omega);clear h f M N x;go_enter Tryz.func86,Tryz.ntmps86
  go_wp2_with fail
  refine Calls.mono J.out ?_;rintro e R ⟨rfl,t⟩;have U:=hid t;clear t;go_wp2;go_ret;exact⟨rfl,U.out⟩
 ·rw[if_neg x]
  have X:((y:Int)!=0)=false:=by
   have:y=0:=by omega
   subst this;rfl
  have T:=hid (λ(w:World) (ui:Value) (v:PR B w ui l (.slice none 0 0) i ⟨s.depth,s.came,s.st,s.items++[⟨3,0,b,[]⟩],s.opn,s.word,t0,s.tx⟩)=>A7a B ui l (.slice none 0 0) i ⟨s.depth,s.came,s.st,s.items++[⟨3,0,b,[]⟩],s.opn,s.word,t0,s.tx⟩ w v ⟨rfl,C⟩ ((f.c.item ⟨3,0,b,[]⟩ s.st s.word f.c.wln t0 s.tx).ok (by omega)) (by show(s.items++[_]).length<=_;simp;omega) (by show s.opn.length<=_;omega));obtain⟨i0,Y,D,E,F⟩:=info_parts Tryz.info29;have G:=h.oi;obtain⟨a,n,cap,rfl⟩:=A0h G;clear h f M N x;go_enter Tryz.func86,Tryz.ntmps86
  go_wp2_with fail
  refine Calls.mono J.out ?_;rintro e R ⟨rfl,t⟩;have S:=hid (H.same t);have j5:=(t.cell (p:=⟨B,5,none⟩) A id).trans Q;have W:=hid (A7e G t (λ_ _=>id));clear t Q G
  go_wp2_with (at_builtin;refine A0g _ rfl _ _ 22 rfl 29 i0 (.agg #[.int .i64 0,.int .i64 0,.int .u64 0,.string ⟨#[]⟩]) 4 40 Tryz.underlying22 Y D E F rfl (by decide) _ _ _ rfl (W.alloc _) ⟨R.heap.size,0,none⟩ 1 1 (A1f ⟨3,0,b,[]⟩) rfl rfl ?c1 ?c2 ?c3 ?c4 ?_)
  case c1=>exact A3p _ _ _ _ _ _
  case c2=>intro u O;simp[A1f]at O;rcases O with rfl|rfl|rfl|rfl<;>rfl
  case c3=>unfold maxLen;omega
  case c4=>omega
  intro v' w2 g q r;obtain⟨a',n',K,rfl⟩:=A0h g;obtain⟨d,L⟩:=S.growI ⟨3,0,b,[]⟩ g q r;have q5:=A0a d (show(A0f s (.slice a n cap) l o i)[5]? =some (.slice a n cap)from rfl);have q8:=A0a d (show(A0f s (.slice a n cap) l o i)[8]? =some (.int .i64 (s.tok.st:Int))from rfl);have q9:=A0a d (show(A0f s (.slice a n cap) l o i)[9]? =some (.bool s.tok.neg)from rfl);have a4:=A0a d (show(A0f s (.slice a n cap) l o i)[10]? =some o from rfl);have a5:=A0a d (show(A0f s (.slice a n cap) l o i)[11]? =some (.int .i64 s.tok.P)from rfl);have a6:=A0a d (show(A0f s (.slice a n cap) l o i)[12]? =some (.int .i64 (s.tok.pw:Int))from rfl);have a7:=A0a d (show(A0f s (.slice a n cap) l o i)[13]? =some (.bool s.tok.pn)from rfl);have p5:=A0b (j:=5) d;have p8:=A0b (j:=8) d;have p9:=A0b (j:=9) d;have p10:=A0b (j:=10) d;have a1:=A0b (j:=11) d;have a2:=A0b (j:=12) d;have a3:=A0b (j:=13) d;have I:=hid L.tokNil;clear g q r d L
  go_wp2_with fail
  refine Calls.mono (T.out _ _ I.pr) ?_;rintro e w3 ⟨rfl,v⟩;have V:=hid (I.trans v);clear v;go_wp2;go_ret;exact⟨rfl,V.out⟩
theorem C5u (B:Nat) (o p l j:Value) (s:Ps) (m k:Nat) (c:UInt8) (w:World) (h:PR B w o p l j s) (u:Nn l j) (a:PsOk s m k) (z:m<=10000000) (b:s.st<=5):
 Calls Tryz.prog 50 #[.pointer (some ⟨B,0,none⟩),.int .u8 (c.toNat:Int)] w (A3v B s.came (own B o p l j) w (B3p s c)):=by
 have H:=hid (PC.start h);have G:=A0a h.blk (show(A0f s o p l j)[4]? =some (.int .i64 (s.st:Int))from rfl);have C:((s.st:Int)==6)=false:=bqF (by omega);have D:((s.st:Int)==7)=false:=bqF (by omega);have E:((s.st:Int)==8)=false:=bqF (by omega);have F:((s.st:Int)==9)=false:=bqF (by omega);have g:=hid (D2e c w);unfold B3p;by_cases d:B2x c=true
 ·rw[if_pos d]
  rw[d]at g;clear h a d b;go_enter Tryz.func50,Tryz.ntmps50
  go_wp2_with fail
  refine Calls.mono g.out ?_;rintro e v ⟨rfl,rfl⟩;go_wp2;go_end0;exact⟨rfl,_,_,_,_,H.out,u.q _⟩
 ·rw[if_neg d]
  have i:B2x c=false:=by simpa using d
  rw[i]at g;have f:=B9z B o p l j s m k c w h u a z b;clear h a d i b;cases hr:A3f s c with
  |error n=>
   rw[hr]at f;have r:=hid f;clear f hr;go_enter Tryz.func50,Tryz.ntmps50
   go_wp2_with fail
   refine Calls.mono g.out ?_;rintro e v ⟨rfl,rfl⟩
   go_wp2_with fail
   refine Calls.mono r.out ?_;rintro e A ⟨rfl,y⟩;exact⟨rfl,rfl,y⟩
  |ok s'=>
   rw[hr]at f;have r:=hid f;clear f hr;go_enter Tryz.func50,Tryz.ntmps50
   go_wp2_with fail
   refine Calls.mono g.out ?_;rintro e v ⟨rfl,rfl⟩
   go_wp2_with fail
   refine Calls.mono r.out ?_;rintro e A ⟨rfl,t⟩;have x:=hid t;clear t;go_wp2;go_end0;exact⟨rfl,x.out⟩
theorem PC.errs {B e:Nat} {S:Nat->Prop} {w0 W w':World} {f i j g:Value} {s:Ps} (h:PC B S w0 f i j g W s) (k:B5p B e (own B f i j g) W w'):B5p B e S w0 w':=by
 obtain⟨l,a,b,c,d⟩:=k;exact⟨l,a,b,c,h.fr.trans' d h.ow⟩
theorem C1r (B:Nat) (v x p o:Value) (s:Ps) (m k:Nat) (c:UInt8) (w:World) (h:PR B w v x p o s) (f:o.ownBlock=none) (a:PsOk s m k) (E:k<=10000000) (C:s.st=7) (t:beh s.tok.st c≠0):
 Calls Tryz.prog 82 #[.pointer (some ⟨B,0,none⟩),.int .u8 (c.toNat:Int)] w (A3v B s.came (own B v x p o) w (A6j s c)):=by
 have u:nxt s.tok c=some (A4q s.tok c (beh s.tok.st c)):=by rw[nxt,if_neg t]
 have d:=C7r a.tk1 a.tk2 u;unfold A6j;rw[u];have A:=hid (B9h 0 B 8 113 _ p s.tok c w k (by decide) (by omega) (by omega) a.tk1 h.tkAt t);have H:=hid (PC.start h);generalize A4q s.tok c (beh s.tok.st c)=t' at*;clear h t u;have z:=hid d.1
 show Calls Tryz.prog 82 _ w (A3v B s.came (own B v x p o) w (if A3b t'=true then .error 6 else .ok ⟨s.depth,s.came,s.st,s.items,s.opn,s.word,t',s.tx⟩))
 cases n:A3b t'
 ·rw[if_neg (by decide)]
  clear d a;go_enter Tryz.func82,Tryz.ntmps82
  go_wp2_with fail
  refine Calls.mono A.out ?_;rintro e y ⟨rfl,l⟩;obtain⟨g,b⟩:=H.tok f l;have r:=hid b;have i:=hid (D4w B 8 113 _ g t' (k+1) y (by omega) z.out b.pr.tkAt);rw[n]at i;clear l b n
  go_wp2_with fail
  refine Calls.mono i.out ?_;rintro e D ⟨rfl,j⟩;have q:=hid j;clear j;go_wp2;go_end0;exact⟨rfl,_,_,_,_,r.same q.out,λh=>absurd C h,λ_ _=>f⟩
 ·rw[if_pos rfl]
  clear d a;go_enter Tryz.func82,Tryz.ntmps82
  go_wp2_with fail
  refine Calls.mono A.out ?_;rintro e y ⟨rfl,l⟩;obtain⟨g,b⟩:=H.tok f l;have r:=hid b;have i:=hid (D4w B 8 113 _ g t' (k+1) y (by omega) z.out b.pr.tkAt);rw[n]at i;clear l b n
  go_wp2_with fail
  refine Calls.mono i.out ?_;rintro e D ⟨rfl,j⟩;have q:=hid j;clear j;go_wp2;exact⟨rfl,rfl,(r.same q.out).err⟩
theorem C5v {s a:Ps} (e:A2f s=.ok a):a.came=s.came:=by
 unfold A2f at e;split at e
 ·cases e
 ·simp only[Except.ok.injEq]at e;subst e;rfl
theorem C8s {s:Ps} {n:Nat} (e:A2f s=.error n):n≠0:=by
 unfold A2f at e;split at e
 ·rename_i h
  simp only[Except.error.injEq]at e;subst e;exact h
 ·cases e
theorem B4v (B:Nat) (u v p o:Value) (s:Ps) (m k:Nat) (c:UInt8) (w:World) (h:PR B w u v p o s) (C:o.ownBlock=none) (b:PsOk s m k) (Q:m<=5000000) (P:k<=10000000) (O:s.st=7) (t:beh s.tok.st c=0):
 Calls Tryz.prog 82 #[.pointer (some ⟨B,0,none⟩),.int .u8 (c.toNat:Int)] w (A3v B s.came (own B u v p o) w (A6j s c)):=by
 have D:nxt s.tok c=none:=by rw[nxt,if_pos t]
 have z:=hid (B9g 0 B 8 113 _ p s.tok c w b.tk1.st h.tkAt t);have l:=B7a B u v p o s m k w h C b Q P;have N:=hid h;unfold A6j;rw[D];cases hr:A2f s with
 |error n=>
  rw[hr]at l;have q:=hid l;have S:((n:Int)!=0)=true:=bne_iff_ne.2 (by have:=C8s hr;omega);clear h t D l hr b;go_enter Tryz.func82,Tryz.ntmps82
  go_wp2_with fail
  refine Calls.mono z.out ?_;rintro e K ⟨rfl,rfl⟩
  go_wp2_with fail
  refine Calls.mono q.out ?_;rintro e x ⟨rfl,r⟩;have M:=hid r;clear r;go_wp2;exact⟨rfl,rfl,B5p.same N.out M.out⟩
 |ok s'=>
  rw[hr]at l;have q:=hid l;obtain⟨f,T⟩:=B9t b O hr;have L:=hid (C5v hr);have I:=hid f;clear h t D l hr b f
  show Calls Tryz.prog 82 _ w (A3v B s.came (own B u v p o) w (B3p s' c))
  cases d:B3p s' c with
  |error n=>
   go_enter Tryz.func82,Tryz.ntmps82
   go_wp2_with fail
   refine Calls.mono z.out ?_;rintro e K ⟨rfl,rfl⟩
   go_wp2_with fail
   refine Calls.mono q.out ?_;rintro e x ⟨rfl,E,G,H,F,j,i⟩;have a:=C5u B E G H F s' (m+2) k c x j.pr ⟨i.1 (by omega),i.2 (by omega) (by omega)⟩ I.out (by omega) (by omega);rw[d,L.out]at a;have g:=hid a;have A:=hid j;clear a j i d
   go_wp2_with fail
   refine Calls.mono g.out ?_;rintro e R ⟨rfl,r⟩;exact⟨rfl,rfl,A.errs r⟩
  |ok s2=>
   go_enter Tryz.func82,Tryz.ntmps82
   go_wp2_with fail
   refine Calls.mono z.out ?_;rintro e K ⟨rfl,rfl⟩
   go_wp2_with fail
   refine Calls.mono q.out ?_;rintro e x ⟨rfl,E,G,H,F,j,i⟩;have a:=C5u B E G H F s' (m+2) k c x j.pr ⟨i.1 (by omega),i.2 (by omega) (by omega)⟩ I.out (by omega) (by omega);rw[d]at a;have g:=hid a;have A:=hid j;clear a j i d
   go_wp2_with fail
   refine Calls.mono g.out ?_;rintro e R ⟨rfl,J⟩;have y:=hid (A.trans J);clear J;go_wp2;go_end0;exact⟨rfl,y.out⟩
end Go.Proofs.YtmkkibaacclhnaaGreatDoor
