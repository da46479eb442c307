/-
  Part Pvx.
-/
import Derived.Test.YtmkkibaacclhnaaGreatDoorPrs
import Derived.Test.YtmkkibaacclhnaaGreatDoorPt
namespace Go.Proofs.YtmkkibaacclhnaaGreatDoor
open Go.RowKit
set_option maxRecDepth 100000
set_option maxHeartbeats 16000000
theorem F0t (B:Nat) (o l f d:Value) (s:Ps) (m k:Nat) (c:UInt8) (w:World) (h:PR B w o l f d s) (q:Nn f d) (a:PsOk s m k) (v:m<=10000000) (g:s.st=0):
 Calls Tryz.prog 85 #[.pointer (some ⟨B,0,none⟩),.int .u8 (c.toNat:Int)] w (A3v B s.came (own B o l f d) w (A3c s c)):=by
 have y:=And.intro q v;clear y;have H:=hid (PC.start h);have E:=hid h;have F:=A0b (j:=4) h.blk;have u:=A0a h.blk (show(A0f s o l f d)[4]? =some (.int .i64 (s.st:Int))from rfl);rw[g]at u;have i:=a.tok (by omega);have t:=a.c.iln;have C:=a.c.oln;have x:=a.c.dep2;have b:=B3g B o l f d s c w h q i (by omega) (by omega);clear h a i g;cases hr:A3c s c with
 |error n=>
  rw[hr]at b;have p:=hid b;clear b hr;go_enter Tryz.func85,Tryz.ntmps85
  go_wp2_with fail
  refine Calls.mono p.out ?_;rintro e A ⟨rfl,z⟩;exact⟨rfl,rfl,z⟩
 |ok s'=>
  rw[hr]at b;have p:=hid b;clear b hr;go_enter Tryz.func85,Tryz.ntmps85
  go_wp2_with fail
  refine Calls.mono p.out ?_;rintro e A ⟨rfl,r⟩;have D:=hid r;clear r;go_wp2;go_end0;exact⟨rfl,D.out⟩
theorem E3p (B:Nat) (p o g f:Value) (s:Ps) (m k:Nat) (c:UInt8) (w:World) (h:PR B w p o g f s) (r:Nn g f) (a:PsOk s m k) (y:m<=10000000) (i:s.st=1) (b:c≠93):
 Calls Tryz.prog 85 #[.pointer (some ⟨B,0,none⟩),.int .u8 (c.toNat:Int)] w (A3v B s.came (own B p o g f) w (A3c s c)):=by
 have A:=And.intro r y;clear A;have H:=hid (PC.start h);have G:=hid h;have I:=A0b (j:=4) h.blk;have x:=A0a h.blk (show(A0f s p o g f)[4]? =some (.int .i64 (s.st:Int))from rfl);rw[i]at x;have l:=a.tok (by omega);have u:=a.c.iln;have E:=a.c.oln;have z:=a.c.dep2;have v:((c.toNat:Int)==93)=false:=bqF (by have:=A0k b;simp at this;omega);have d:=B3g B p o g f s c w h r l (by omega) (by omega);clear h a l i b;cases hr:A3c s c with
 |error n=>
  rw[hr]at d;have q:=hid d;clear d hr;go_enter Tryz.func85,Tryz.ntmps85
  go_wp2_with fail
  refine Calls.mono q.out ?_;rintro e D ⟨rfl,C⟩;exact⟨rfl,rfl,C⟩
 |ok s'=>
  rw[hr]at d;have q:=hid d;clear d hr;go_enter Tryz.func85,Tryz.ntmps85
  go_wp2_with fail
  refine Calls.mono q.out ?_;rintro e D ⟨rfl,t⟩;have F:=hid t;clear t;go_wp2;go_end0;exact⟨rfl,F.out⟩
theorem E3q (B:Nat) (p o g f:Value) (s:Ps) (m k:Nat) (c:UInt8) (w:World) (h:PR B w p o g f s) (t:Nn g f) (a:PsOk s m k) (v:m<=10000000) (l:s.st=1) (d:c=93):
 Calls Tryz.prog 85 #[.pointer (some ⟨B,0,none⟩),.int .u8 (c.toNat:Int)] w (A3v B s.came (own B p o g f) w (.ok (A5d s))):=by
 have E:=And.intro t v;clear E;have H:=hid (PC.start h);have I:=hid h;have K:=A0b (j:=4) h.blk;have A:=A0a h.blk (show(A0f s p o g f)[4]? =some (.int .i64 (s.st:Int))from rfl);rw[l]at A;have r:=a.tok (by omega);have y:=a.c.iln;have n:=a.c.oln;have C:=a.c.dep2;have z:((c.toNat:Int)==93)=true:=by rw[d];rfl
 obtain⟨b,i,q⟩:∃b i,s.opn=b++[i]:=by
  rcases List.eq_nil_or_concat s.opn with D|⟨b,i,G⟩
  ·exact absurd D (a.o13 (by omega))
  ·exact⟨b,i,by rw[G,List.concat_eq_append]⟩
 have x:=hid (B1t B p o g f s b i w h t q (a.c.ok v) (by omega) (by rw[q]at n;simp at n;omega));clear h a r l q d;go_enter Tryz.func85,Tryz.ntmps85
 go_wp2_with fail
 refine Calls.mono x.out ?_;rintro e J ⟨rfl,u⟩;have F:=hid u;clear u;go_wp2;go_end0;exact⟨rfl,F.out⟩
theorem E3r (B:Nat) (p o g f:Value) (s:Ps) (m k:Nat) (c:UInt8) (w:World) (h:PR B w p o g f s) (t:Nn g f) (a:PsOk s m k) (x:m<=10000000) (l:s.st=3) (b:c=125):
 Calls Tryz.prog 85 #[.pointer (some ⟨B,0,none⟩),.int .u8 (c.toNat:Int)] w (A3v B s.came (own B p o g f) w (.ok (A5d s))):=by
 have E:=And.intro t x;clear E;have H:=hid (PC.start h);have I:=hid h;have K:=A0b (j:=4) h.blk;have A:=A0a h.blk (show(A0f s p o g f)[4]? =some (.int .i64 (s.st:Int))from rfl);rw[l]at A;have r:=a.tok (by omega);have z:=a.c.iln;have n:=a.c.oln;have C:=a.c.dep2;have v:((c.toNat:Int)==125)=true:=by rw[b];rfl
 obtain⟨d,i,q⟩:∃d i,s.opn=d++[i]:=by
  rcases List.eq_nil_or_concat s.opn with D|⟨d,i,G⟩
  ·exact absurd D (a.o13 (by omega))
  ·exact⟨d,i,by rw[G,List.concat_eq_append]⟩
 have y:=hid (B1t B p o g f s d i w h t q (a.c.ok x) (by omega) (by rw[q]at n;simp at n;omega));clear h a r l q b;go_enter Tryz.func85,Tryz.ntmps85
 go_wp2_with fail
 refine Calls.mono y.out ?_;rintro e J ⟨rfl,u⟩;have F:=hid u;clear u;go_wp2;go_end0;exact⟨rfl,F.out⟩
theorem E3s (B:Nat) (i g f e:Value) (s:Ps) (m k:Nat) (c:UInt8) (w:World) (h:PR B w i g f e s) (n:Nn f e) (a:PsOk s m k) (r:m<=10000000) (d:s.st=2) (b:c=34):
 Calls Tryz.prog 85 #[.pointer (some ⟨B,0,none⟩),.int .u8 (c.toNat:Int)] w (A3v B s.came (own B i g f e) w (.ok (C1m s 8))):=by
 have u:=And.intro n r;clear u;have H:=hid (PC.start h);have z:=hid h;have A:=A0b (j:=4) h.blk;have p:=A0a h.blk (show(A0f s i g f e)[4]? =some (.int .i64 (s.st:Int))from rfl);rw[d]at p;have l:=a.tok (by omega);have o:=a.c.iln;have x:=a.c.oln;have t:=a.c.dep2;have v:((c.toNat:Int)==34)=true:=by rw[b];rfl
 have y:=hid (H.cell 4 (.int .i64 8) (C1m s 8) rfl rfl rfl rfl rfl);clear h a l d b;go_enter Tryz.func85,Tryz.ntmps85;go_wp2;go_end0;exact⟨rfl,_,_,_,_,y.out,n.q _⟩
theorem E3t (B:Nat) (i g f e:Value) (s:Ps) (m k:Nat) (c:UInt8) (w:World) (h:PR B w i g f e s) (n:Nn f e) (a:PsOk s m k) (r:m<=10000000) (d:s.st=2) (b:c≠34):
 Calls Tryz.prog 85 #[.pointer (some ⟨B,0,none⟩),.int .u8 (c.toNat:Int)] w (A3v B s.came (own B i g f e) w (.error 3)):=by
 have u:=And.intro n r;clear u;have H:=hid (PC.start h);have p:=hid h;have y:=A0b (j:=4) h.blk;have q:=A0a h.blk (show(A0f s i g f e)[4]? =some (.int .i64 (s.st:Int))from rfl);rw[d]at q;have l:=a.tok (by omega);have o:=a.c.iln;have x:=a.c.oln;have t:=a.c.dep2;have v:((c.toNat:Int)==34)=false:=bqF (by have:=A0k b;simp at this;omega);clear h a l d b;go_enter Tryz.func85,Tryz.ntmps85;go_wp2;exact⟨rfl,rfl,B5p.same p.out (Fr.refl _ _)⟩
theorem E3u (B:Nat) (l i g f:Value) (s:Ps) (m k:Nat) (c:UInt8) (w:World) (h:PR B w l i g f s) (o:Nn g f) (b:PsOk s m k) (u:m<=10000000) (e:s.st=3) (a:c≠125) (d:c=34):
 Calls Tryz.prog 85 #[.pointer (some ⟨B,0,none⟩),.int .u8 (c.toNat:Int)] w (A3v B s.came (own B l i g f) w (.ok (C1m s 8))):=by
 have x:=And.intro o u;clear x;have H:=hid (PC.start h);have C:=hid h;have D:=A0b (j:=4) h.blk;have t:=A0a h.blk (show(A0f s l i g f)[4]? =some (.int .i64 (s.st:Int))from rfl);rw[e]at t;have n:=b.tok (by omega);have r:=b.c.iln;have z:=b.c.oln;have v:=b.c.dep2;have p:((c.toNat:Int)==125)=false:=bqF (by have:=A0k a;simp at this;omega);have y:((c.toNat:Int)==34)=true:=by rw[d];rfl
 have A:=hid (H.cell 4 (.int .i64 8) (C1m s 8) rfl rfl rfl rfl rfl);clear h b n e d a;go_enter Tryz.func85,Tryz.ntmps85;go_wp2;go_end0;exact⟨rfl,_,_,_,_,A.out,o.q _⟩
theorem E3v (B:Nat) (l i g f:Value) (s:Ps) (m k:Nat) (c:UInt8) (w:World) (h:PR B w l i g f s) (p:Nn g f) (b:PsOk s m k) (u:m<=10000000) (e:s.st=3) (a:c≠125) (d:c≠34):
 Calls Tryz.prog 85 #[.pointer (some ⟨B,0,none⟩),.int .u8 (c.toNat:Int)] w (A3v B s.came (own B l i g f) w (.error 3)):=by
 have x:=And.intro p u;clear x;have H:=hid (PC.start h);have r:=hid h;have A:=A0b (j:=4) h.blk;have t:=A0a h.blk (show(A0f s l i g f)[4]? =some (.int .i64 (s.st:Int))from rfl);rw[e]at t;have n:=b.tok (by omega);have q:=b.c.iln;have z:=b.c.oln;have v:=b.c.dep2;have o:((c.toNat:Int)==125)=false:=bqF (by have:=A0k a;simp at this;omega);have y:((c.toNat:Int)==34)=false:=bqF (by have:=A0k d;simp at this;omega);clear h b n e d a;go_enter Tryz.func85,Tryz.ntmps85;go_wp2;exact⟨rfl,rfl,B5p.same r.out (Fr.refl _ _)⟩
theorem E3w (B:Nat) (i g f e:Value) (s:Ps) (m k:Nat) (c:UInt8) (w:World) (h:PR B w i g f e s) (n:Nn f e) (a:PsOk s m k) (t:m<=10000000) (d:s.st=4) (b:c=58):
 Calls Tryz.prog 85 #[.pointer (some ⟨B,0,none⟩),.int .u8 (c.toNat:Int)] w (A3v B s.came (own B i g f e) w (.ok (C1m s 0))):=by
 have v:=And.intro n t;clear v;have H:=hid (PC.start h);have z:=hid h;have A:=A0b (j:=4) h.blk;have p:=A0a h.blk (show(A0f s i g f e)[4]? =some (.int .i64 (s.st:Int))from rfl);rw[d]at p;have l:=a.tok (by omega);have o:=a.c.iln;have x:=a.c.oln;have u:=a.c.dep2;have r:((c.toNat:Int)==58)=true:=by rw[b];rfl
 have y:=hid (H.cell 4 (.int .i64 0) (C1m s 0) rfl rfl rfl rfl rfl);clear h a l d b;go_enter Tryz.func85,Tryz.ntmps85;go_wp2;go_end0;exact⟨rfl,_,_,_,_,y.out,n.q _⟩
theorem E3x (B:Nat) (i g f e:Value) (s:Ps) (m k:Nat) (c:UInt8) (w:World) (h:PR B w i g f e s) (n:Nn f e) (a:PsOk s m k) (t:m<=10000000) (d:s.st=4) (b:c≠58):
 Calls Tryz.prog 85 #[.pointer (some ⟨B,0,none⟩),.int .u8 (c.toNat:Int)] w (A3v B s.came (own B i g f e) w (.error 3)):=by
 have v:=And.intro n t;clear v;have H:=hid (PC.start h);have p:=hid h;have y:=A0b (j:=4) h.blk;have q:=A0a h.blk (show(A0f s i g f e)[4]? =some (.int .i64 (s.st:Int))from rfl);rw[d]at q;have l:=a.tok (by omega);have o:=a.c.iln;have x:=a.c.oln;have u:=a.c.dep2;have r:((c.toNat:Int)==58)=false:=bqF (by have:=A0k b;simp at this;omega);clear h a l d b;go_enter Tryz.func85,Tryz.ntmps85;go_wp2;exact⟨rfl,rfl,B5p.same p.out (Fr.refl _ _)⟩
theorem E3y (B:Nat) (i l f e:Value) (s:Ps) (m k:Nat) (c:UInt8) (w:World) (h:PR B w i l f e s) (r:Nn f e) (d:PsOk s m k) (x:m<=10000000) (g:s.st=5) (p:s.opn=[]):
 Calls Tryz.prog 85 #[.pointer (some ⟨B,0,none⟩),.int .u8 (c.toNat:Int)] w (A3v B s.came (own B i l f e) w (.error 3)):=by
 have z:=And.intro r x;clear z;have H:=hid (PC.start h);have u:=hid h;have D:=A0b (j:=4) h.blk;have v:=A0a h.blk (show(A0f s i l f e)[4]? =some (.int .i64 (s.st:Int))from rfl);rw[g]at v;have o:=d.tok (by omega);have t:=d.c.iln;have A:=d.c.oln;have y:=d.c.dep2;have b:=h.oo;rw[p]at b;obtain⟨a,n,cap,rfl⟩:=A0h b
 have q:n=0:=by
  rcases b.2 with⟨h,_⟩|⟨_,_,_,h,_⟩
  ·simp at h;exact h.2.1
  ·simp at h;exact h.2.1
 subst q;have C:=A0a h.blk (show(A0f s i (.slice a 0 cap) f e)[6]? =some (.slice a 0 cap)from rfl);clear b;clear h d o g p;go_enter Tryz.func85,Tryz.ntmps85;go_wp2;exact⟨rfl,rfl,B5p.same u.out (Fr.refl _ _)⟩
theorem E3z (B:Nat) (r t l g:Value) (s:Ps) (m k:Nat) (c:UInt8) (w:World) (h:PR B w r t l g s) (z:Nn l g) (b:PsOk s m k) (E:m<=10000000) (q:s.st=5) (F:s.opn≠[]):
 Calls Tryz.prog 85 #[.pointer (some ⟨B,0,none⟩),.int .u8 (c.toNat:Int)] w (A3v B s.came (own B r t l g) w (A4m s c)):=by
 have N:=And.intro z E;clear N;have H:=hid (PC.start h);have U:=hid h;have V:=A0b (j:=4) h.blk;have J:=A0a h.blk (show(A0f s r t l g)[4]? =some (.int .i64 (s.st:Int))from rfl);rw[q]at J;have v:=b.tok (by omega);have I:=b.c.iln;have Q:=b.c.oln;have K:=b.c.dep2
 obtain⟨a,i,f⟩:∃a i,s.opn=a++[i]:=by
  rcases List.eq_nil_or_concat s.opn with L|⟨a,i,S⟩
  ·exact absurd L F
  ·exact⟨a,i,by rw[S,List.concat_eq_append]⟩
 obtain⟨x,C,_⟩:=b.c.opn i (by rw[f];simp);have p:a.length+1=s.opn.length:=by rw[f];simp
 have o:=C1q B r t l g s a i x c w h z f C (b.c.ok E) (by omega) (by omega);have d:=h.oo;rw[<-p]at d;obtain⟨D,y,rfl⟩:=A9r d (by omega);have T:=A0a h.blk (show(A0f s r (.slice (some ⟨D,0,none⟩) (a.length+1) y) l g)[6]? =some (.slice (some ⟨D,0,none⟩) (a.length+1) y)from rfl);have G:0<a.length+1:=by omega
 clear h b v q F f C p d;generalize a.length+1=M at*;cases hr:A4m s c with
 |error n=>
  rw[hr]at o;have u:=hid o;clear o hr;go_enter Tryz.func85,Tryz.ntmps85
  go_wp2_with fail
  refine Calls.mono u.out ?_;rintro e P ⟨rfl,O⟩;exact⟨rfl,rfl,O⟩
 |ok s'=>
  rw[hr]at o;have u:=hid o;clear o hr;go_enter Tryz.func85,Tryz.ntmps85
  go_wp2_with fail
  refine Calls.mono u.out ?_;rintro e P ⟨rfl,A⟩;have R:=hid A;clear A;go_wp2;go_end0;exact⟨rfl,R.out⟩
theorem B9z (B:Nat) (g f e d:Value) (s:Ps) (m k:Nat) (c:UInt8) (w:World) (h:PR B w g f e d s) (i:Nn e d) (a:PsOk s m k) (j:m<=10000000) (o:s.st<=5):
 Calls Tryz.prog 85 #[.pointer (some ⟨B,0,none⟩),.int .u8 (c.toNat:Int)] w (A3v B s.came (own B g f e d) w (A3f s c)):=by
 unfold A3f;rcases(show s.st=0\/s.st=1\/s.st=2\/s.st=3\/s.st=4\/s.st=5 by omega)with h0|h0|h0|h0|h0|h0
 ·rw[if_neg (by omega),if_pos (.inl h0)]
  exact F0t B g f e d s m k c w h i a j h0
 ·by_cases b:c=93
  ·rw[if_pos (.inl ⟨h0,b⟩)]
   exact E3q B g f e d s m k c w h i a j h0 b
  ·rw[if_neg (by rintro(⟨_,h⟩|⟨h,_⟩);exact b h;omega),if_pos (.inr h0)]
   exact E3p B g f e d s m k c w h i a j h0 b
 ·rw[if_neg (by omega),if_neg (by omega)]
  by_cases b:c=34
  ·rw[if_pos ⟨.inl h0,b⟩]
   exact E3s B g f e d s m k c w h i a j h0 b
  ·rw[if_neg (λh=>b h.2),if_neg (by omega),if_neg (by omega)]
   exact E3t B g f e d s m k c w h i a j h0 b
 ·by_cases b:c=125
  ·rw[if_pos (.inr ⟨h0,b⟩)]
   exact E3r B g f e d s m k c w h i a j h0 b
  ·rw[if_neg (by rintro(⟨h,_⟩|⟨_,h⟩);omega;exact b h),if_neg (by omega)]
   by_cases l:c=34
   ·rw[if_pos ⟨.inr h0,l⟩]
    exact E3u B g f e d s m k c w h i a j h0 b l
   ·rw[if_neg (λh=>l h.2),if_neg (by omega),if_neg (by omega)]
    exact E3v B g f e d s m k c w h i a j h0 b l
 ·rw[if_neg (by omega),if_neg (by omega),if_neg (by omega)]
  by_cases b:c=58
  ·rw[if_pos ⟨h0,b⟩]
   exact E3w B g f e d s m k c w h i a j h0 b
  ·rw[if_neg (λh=>b h.2),if_neg (by omega)]
   exact E3x B g f e d s m k c w h i a j h0 b
 ·rw[if_neg (by omega),if_neg (by omega),if_neg (by omega),if_neg (by omega)]
  by_cases n:s.opn=[]
  ·rw[if_neg (λh=>h.2 n)]
   exact E3y B g f e d s m k c w h i a j h0 n
  ·rw[if_pos ⟨h0,n⟩]
   exact E3z B g f e d s m k c w h i a j h0 n
def G1k (W:World) (B:Nat) (l:List (Nat×Value)):World:=l.foldl (λW p=>W.setCell ⟨B,p.1,none⟩ p.2) W
theorem D4u {W:World} {B T:Nat} {a:Array Value} (l:List (Nat×Value)) (h:W.heap[B]? =some (.cells a T (0,0))):(G1k W B l).heap[B]? =some (.cells (l.foldl (λa p=>a.setIfInBounds p.1 p.2) a) T (0,0)):=by
 induction l generalizing W a with
 |nil=>exact h
 |cons p l ih=>exact ih (heap_setCell_same W B p.1 a T p.2 h)
theorem B2k {W:World} {B e size n:Nat} {v:Value} {xs:List Value} (l:List (Nat×Value)) (h:W.ownsRow 0 e size v n xs) (b:v.ownBlock≠some B):(G1k W B l).ownsRow 0 e size v n xs:=by
 induction l generalizing W with
 |nil=>exact h
 |cons p l ih=>exact ih (A0q h (a:=⟨B,p.1,none⟩) b p.2)
theorem E4a {S:Nat->Prop} {w0 W:World} {B:Nat} (l:List (Nat×Value)) (h:Fr S w0 W) (a:S B\/w0.heap.size<=B):Fr S w0 (G1k W B l):=by
 induction l generalizing W with
 |nil=>exact h
 |cons p l ih=>exact ih (h.setCell (p:=⟨B,p.1,none⟩) a p.2)
theorem B3u (W:World) (e size:Nat):W.ownsRow 0 e size (.slice none 0 0) 0 []:=⟨by simp,.inl ⟨rfl,rfl⟩⟩
def C5t:List (Nat×Value):=[(8,.int .i64 0),(9,.bool false),(10,.slice none 0 0),(11,.int .i64 0),(12,.int .i64 0),(13,.bool false)]
def D4v:List (Nat×Value):=[(14,.int .i64 0),(15,.slice none 0 0),(16,.int .i64 0),(17,.int .u8 0),(18,.int .u8 0),(19,.int .i64 0),(20,.int .i32 0),(21,.int .i32 0)]
theorem C8r (s:Ps) (d b e c:Value):C5t.foldl (λa p=>a.setIfInBounds p.1 p.2) (A0f s d b e c)=A0f ⟨s.depth,s.came,s.st,s.items,s.opn,s.word,t0,s.tx⟩ d b (.slice none 0 0) c:=by
 simp[C5t,A0f,t0]
theorem D2f (s:Ps) (d c b e:Value):D4v.foldl (λa p=>a.setIfInBounds p.1 p.2) (A0f s d c b e)=A0f ⟨s.depth,s.came,s.st,s.items,s.opn,s.word,s.tok,tr0⟩ d c b (.slice none 0 0):=by
 simp[D4v,A0f,tr0]
theorem PC.tokNil {B:Nat} {S:Nat->Prop} {w0 W:World} {n l o m:Value} {s:Ps} (h:PC B S w0 n l o m W s):PC B S w0 n l (.slice none 0 0) m (G1k W B C5t) ⟨s.depth,s.came,s.st,s.items,s.opn,s.word,t0,s.tx⟩:=by
 obtain⟨⟨a,b,c,d,e,f⟩,g,k⟩:=h;refine⟨⟨(D4u C5t a).trans (by rw[C8r]),B2k _ b (A8y b a (by decide)),B2k _ c (A8y c a (by decide)),B3u _ 5 1,B2k _ e (A8y e a (by decide)),.inl rfl⟩,E4a _ g (k B (.inl rfl)),?_⟩;intro i j;rcases j with j|j|j|j|j
 ·exact k i (.inl j)
 ·exact k i (.inr (.inl j))
 ·exact k i (.inr (.inr (.inl j)))
 ·cases j
 ·exact k i (.inr (.inr (.inr (.inr j))))
theorem PC.txNil {B:Nat} {S:Nat->Prop} {w0 W:World} {n l m o:Value} {s:Ps} (h:PC B S w0 n l m o W s):PC B S w0 n l m (.slice none 0 0) (G1k W B D4v) ⟨s.depth,s.came,s.st,s.items,s.opn,s.word,s.tok,tr0⟩:=by
 obtain⟨⟨a,b,c,d,e,f⟩,g,k⟩:=h;refine⟨⟨(D4u D4v a).trans (by rw[D2f]),B2k _ b (A8y b a (by decide)),B2k _ c (A8y c a (by decide)),B2k _ d (A8y d a (by decide)),B3u _ 5 1,.inr rfl⟩,E4a _ g (k B (.inl rfl)),?_⟩;intro i j;rcases j with j|j|j|j|j
 ·exact k i (.inl j)
 ·exact k i (.inr (.inl j))
 ·exact k i (.inr (.inr (.inl j)))
 ·exact k i (.inr (.inr (.inr (.inl j))))
 ·cases j
theorem PC.same {B:Nat} {S:Nat->Prop} {w0 W w':World} {n j m l:Value} {s:Ps} (h:PC B S w0 n j m l W s) (i:Fr (λ_=>False) W w'):PC B S w0 n j m l w' s:=by
 obtain⟨⟨a,b,c,d,e,f⟩,g,k⟩:=h;exact⟨⟨i.heap a id,A7e b i (λ_ _=>id),A7e c i (λ_ _=>id),A7e d i (λ_ _=>id),A7e e i (λ_ _=>id),f⟩,g.trans' i (λ_ h=>h.elim),k⟩
theorem F0u (B:Nat) (c:Array Value) (v:Value) (t:Tk) (k:Nat) (w:World) (g:k<=1000000000000000) (a:TkOk t k) (d:B3c 0 w B 8 113 c v t):
 Calls Tryz.prog 37 #[.pointer (some ⟨B,8,none⟩)] w λe w'=>e=.returned (.tuple #[.int .u64 ((A3n t).1:Nat),.int .i64 ((A3n t).2:Nat)])/\Fr (λ_=>False) w w':=by
 by_cases b:A8b t.st
 ·refine(C2u 0 B 8 113 c v t w k g a d b).mono ?_
  rintro e w' ⟨r,hr,rfl,f⟩;refine⟨?_,f⟩;rw[A3n,if_pos b,D4i a.digs a.head hr]
 ·refine(C2t 0 B 8 113 c v t w d b).mono ?_
  rintro e w' ⟨rfl,rfl⟩;refine⟨?_,Fr.refl _ _⟩;rw[A3n,if_neg b];rfl
theorem D4w (B o T:Nat) (J:Array Value) (v:Value) (t:Tk) (k:Nat) (w:World) (K:k<=1000000000000000) (b:TkOk t k) (C:B3c 0 w B o T J v t):
 Calls Tryz.prog 136 #[.pointer (some ⟨B,o,none⟩)] w λe w'=>e=.returned (.bool (A3b t))/\Fr (λ_=>False) w w':=by
 have z:=b.p1;have F:=b.p2;have H:=b.pw;have y:=b.len;obtain⟨d,f,x⟩:=C;have q:=A0a d f.c0;have i:=A0a d f.c2;have l:=A0a d f.c3;have h:=A0a d f.c4;have c:=A0a d f.c5;have u:=lt_of_block d;obtain⟨a,cap,rfl⟩:=A3y x;have A:=hid x;have I:=hid b.digs;unfold A3b;clear b f x d;by_cases p:7<=t.st
 ·have E:decide (7<=(t.st:Int))=true:=dcT (by omega)
  rw[dcT p];clear p;cases g:t.pn
  ·rw[g]at c
   have G:=hid (show(if false=true then t.P-(t.pw:Int)else t.P+(t.pw:Int))=t.at by rw[Tk.at,g]);clear g;go_enter Tryz.func136,Tryz.ntmps136
   go_wp2_with fail
   refine(B4i B o _ t.P t.pw false _ i l h c u a t.D.length cap rfl (by omega) (by omega) (by omega)).mono ?_;rintro e L ⟨rfl,n⟩;rw[G.out];have m:=hid n;have r:=hid (A8c A.out m.out);clear n q i l h c
   go_wp2_with fail
   refine(B3d _ t.D t.at _ I.out (by omega) r.out).mono ?_;rintro e M ⟨rfl,j⟩;have s:=hid (m.trans j);clear j;go_wp2;go_ret;exact⟨rfl,s.out⟩
  ·rw[g]at c
   clear g;go_enter Tryz.func136,Tryz.ntmps136;go_wp2;go_ret;exact⟨rfl,Fr.refl _ _⟩
 ·have E:decide (7<=(t.st:Int))=false:=dcF (by omega)
  rw[dcF p];clear p;go_enter Tryz.func136,Tryz.ntmps136;go_wp2;go_ret;exact⟨rfl,Fr.refl _ _⟩
def G1m (B:Nat) (S:Nat->Prop) (w:World) (r:Except Nat Ps) (e:Ending) (w':World):Prop:=
 match r with
 |.ok s'=>e=.returned (.int .i64 0)/\PSt B S w w' s'
 |.error n=>e=.returned (.int .i64 (n:Int))/\Fr (λ_=>False) w w'
theorem B7a (B:Nat) (z l o i:Value) (s:Ps) (m k:Nat) (w:World) (h:PR B w z l o i s) (C:i.ownBlock=none) (g:PsOk s m k) (hm:m<=5000000) (hk:k<=10000000):
 Calls Tryz.prog 86 #[.pointer (some ⟨B,0,none⟩)] w (G1m B (own B z l o i) w (A2f s)):=by
 have M:=hid (F0u B _ o s.tok k w (by omega) g.tk1 h.tkAt);have H:=hid (PC.start h);have a2:=g.c.oln;have a1:=g.c.iln;unfold A2f;generalize Q:(A3n s.tok).1=b at*;generalize K:(A3n s.tok).2=y at*;have N:=A0a h.blk (show(A0f s z l o i)[5]? =some z from rfl);have F:=lt_of_block h.blk;by_cases v:y≠0
 ·rw[if_pos v]
  have gy:((y:Int)!=0)=true:=bne_iff_ne.2 (by omega);clear h g Q K v;go_enter Tryz.func86,Tryz.ntmps86
  go_wp2_with fail
  refine Calls.mono M.out ?_;rintro e L ⟨rfl,t⟩;have HF:=hid t;clear t;go_wp2;go_ret;exact⟨rfl,HF.out⟩
 ·rw[if_neg v]
  have gy:((y:Int)!=0)=false:=by
   have:y=0:=by omega
   subst this;rfl
  have HE:=hid (λ(w:World) (ui:Value) (x:PR B w ui l (.slice none 0 0) i ⟨s.depth,s.came,s.st,s.items++[⟨3,0,b,[]⟩],s.opn,s.word,t0,s.tx⟩)=>A7a B ui l (.slice none 0 0) i ⟨s.depth,s.came,s.st,s.items++[⟨3,0,b,[]⟩],s.opn,s.word,t0,s.tx⟩ w x ⟨rfl,C⟩ ((g.c.item ⟨3,0,b,[]⟩ s.st s.word g.c.wln t0 s.tx).ok (by omega)) (by show(s.items++[_]).length<=_;simp;omega) (by show s.opn.length<=_;omega));obtain⟨i0,T,E,G,A⟩:=info_parts Tryz.info29;have D:=h.oi;obtain⟨a,n,cap,rfl⟩:=A0h D;clear h g Q K v;go_enter Tryz.func86,Tryz.ntmps86
  go_wp2_with fail
  refine Calls.mono M.out ?_;rintro e L ⟨rfl,t⟩;have H1:=hid (H.same t);have j5:=(t.cell (p:=⟨B,5,none⟩) F id).trans N;have Z:=hid (A7e D t (λ_ _=>id));clear t N D
  go_wp2_with (at_builtin;refine A0g _ rfl _ _ 22 rfl 29 i0 (.agg #[.int .i64 0,.int .i64 0,.int .u64 0,.string ⟨#[]⟩]) 4 40 Tryz.underlying22 T E G A rfl (by decide) _ _ _ rfl (Z.alloc _) ⟨L.heap.size,0,none⟩ 1 1 (A1f ⟨3,0,b,[]⟩) rfl rfl ?c1 ?c2 ?c3 ?c4 ?_)
  case c1=>exact A3p _ _ _ _ _ _
  case c2=>intro u O;simp[A1f]at O;rcases O with rfl|rfl|rfl|rfl<;>rfl
  case c3=>unfold maxLen;omega
  case c4=>omega
  intro v' w2 f q r;obtain⟨a',n',J,rfl⟩:=A0h f;obtain⟨d,I⟩:=H1.growI ⟨3,0,b,[]⟩ f q r;have q5:=A0a d (show(A0f s (.slice a n cap) l o i)[5]? =some (.slice a n cap)from rfl);have q8:=A0a d (show(A0f s (.slice a n cap) l o i)[8]? =some (.int .i64 (s.tok.st:Int))from rfl);have q9:=A0a d (show(A0f s (.slice a n cap) l o i)[9]? =some (.bool s.tok.neg)from rfl);have U:=A0a d (show(A0f s (.slice a n cap) l o i)[10]? =some o from rfl);have a3:=A0a d (show(A0f s (.slice a n cap) l o i)[11]? =some (.int .i64 s.tok.P)from rfl);have Y:=A0a d (show(A0f s (.slice a n cap) l o i)[12]? =some (.int .i64 (s.tok.pw:Int))from rfl);have a0:=A0a d (show(A0f s (.slice a n cap) l o i)[13]? =some (.bool s.tok.pn)from rfl);have p5:=A0b (j:=5) d;have p8:=A0b (j:=8) d;have p9:=A0b (j:=9) d;have p10:=A0b (j:=10) d;have X:=A0b (j:=11) d;have V:=A0b (j:=12) d;have W:=A0b (j:=13) d;have R:=hid I.tokNil;clear f q r d I
  go_wp2_with fail
  refine Calls.mono (HE.out _ _ R.pr) ?_;rintro e w3 ⟨rfl,x⟩;have S:=hid (R.trans x);clear x;go_wp2;go_ret;exact⟨rfl,S.out⟩
theorem C5u (B:Nat) (p o j g:Value) (s:Ps) (m k:Nat) (c:UInt8) (w:World) (h:PR B w p o j g s) (t:Nn j g) (b:PsOk s m k) (x:m<=10000000) (a:s.st<=5):
 Calls Tryz.prog 50 #[.pointer (some ⟨B,0,none⟩),.int .u8 (c.toNat:Int)] w (A3v B s.came (own B p o j g) w (B3p s c)):=by
 have H:=hid (PC.start h);have F:=A0a h.blk (show(A0f s p o j g)[4]? =some (.int .i64 (s.st:Int))from rfl);have D:((s.st:Int)==6)=false:=bqF (by omega);have C:((s.st:Int)==7)=false:=bqF (by omega);have G:((s.st:Int)==8)=false:=bqF (by omega);have E:((s.st:Int)==9)=false:=bqF (by omega);have l:=hid (D2e c w);unfold B3p;by_cases f:B2x c=true
 ·rw[if_pos f]
  rw[f]at l;clear h b f a;go_enter Tryz.func50,Tryz.ntmps50
  go_wp2_with fail
  refine Calls.mono l.out ?_;rintro e v ⟨rfl,rfl⟩;go_wp2;go_end0;exact⟨rfl,_,_,_,_,H.out,t.q _⟩
 ·rw[if_neg f]
  have i:B2x c=false:=by simpa using f
  rw[i]at l;have d:=B9z B p o j g s m k c w h t b x a;clear h b f i a;cases hr:A3f s c with
  |error n=>
   rw[hr]at d;have r:=hid d;clear d hr;go_enter Tryz.func50,Tryz.ntmps50
   go_wp2_with fail
   refine Calls.mono l.out ?_;rintro e v ⟨rfl,rfl⟩
   go_wp2_with fail
   refine Calls.mono r.out ?_;rintro e z ⟨rfl,y⟩;exact⟨rfl,rfl,y⟩
  |ok s'=>
   rw[hr]at d;have r:=hid d;clear d hr;go_enter Tryz.func50,Tryz.ntmps50
   go_wp2_with fail
   refine Calls.mono l.out ?_;rintro e v ⟨rfl,rfl⟩
   go_wp2_with fail
   refine Calls.mono r.out ?_;rintro e z ⟨rfl,u⟩;have A:=hid u;clear u;go_wp2;go_end0;exact⟨rfl,A.out⟩
theorem PC.errs {B e:Nat} {S:Nat->Prop} {w0 W w':World} {j g f i:Value} {s:Ps} (h:PC B S w0 j g f i W s) (k:B5p B e (own B j g f i) W w'):B5p B e S w0 w':=by
 obtain⟨l,a,b,c,d⟩:=k;exact⟨l,a,b,c,h.fr.trans' d h.ow⟩
theorem C1r (B:Nat) (t q o n:Value) (s:Ps) (m k:Nat) (c:UInt8) (w:World) (h:PR B w t q o n s) (f:n.ownBlock=none) (a:PsOk s m k) (E:k<=10000000) (C:s.st=7) (v:beh s.tok.st c≠0):
 Calls Tryz.prog 82 #[.pointer (some ⟨B,0,none⟩),.int .u8 (c.toNat:Int)] w (A3v B s.came (own B t q o n) w (A6j s c)):=by
 have r:nxt s.tok c=some (A4q s.tok c (beh s.tok.st c)):=by rw[nxt,if_neg v]
 have g:=C7r a.tk1 a.tk2 r;unfold A6j;rw[r];have z:=hid (B9h 0 B 8 113 _ o s.tok c w k (by decide) (by omega) (by omega) a.tk1 h.tkAt v);have H:=hid (PC.start h);generalize A4q s.tok c (beh s.tok.st c)=t' at*;clear h v r;have A:=hid g.1
 show Calls Tryz.prog 82 _ w (A3v B s.came (own B t q o n) w (if A3b t'=true then .error 6 else .ok ⟨s.depth,s.came,s.st,s.items,s.opn,s.word,t',s.tx⟩))
 cases p:A3b t'
 ·rw[if_neg (by decide)]
  clear g a;go_enter Tryz.func82,Tryz.ntmps82
  go_wp2_with fail
  refine Calls.mono z.out ?_;rintro e u ⟨rfl,i⟩;obtain⟨d,b⟩:=H.tok f i;have x:=hid b;have j:=hid (D4w B 8 113 _ d t' (k+1) u (by omega) A.out b.pr.tkAt);rw[p]at j;clear i b p
  go_wp2_with fail
  refine Calls.mono j.out ?_;rintro e D ⟨rfl,l⟩;have y:=hid l;clear l;go_wp2;go_end0;exact⟨rfl,_,_,_,_,x.same y.out,λh=>absurd C h,λ_ _=>f⟩
 ·rw[if_pos rfl]
  clear g a;go_enter Tryz.func82,Tryz.ntmps82
  go_wp2_with fail
  refine Calls.mono z.out ?_;rintro e u ⟨rfl,i⟩;obtain⟨d,b⟩:=H.tok f i;have x:=hid b;have j:=hid (D4w B 8 113 _ d t' (k+1) u (by omega) A.out b.pr.tkAt);rw[p]at j;clear i b p
  go_wp2_with fail
  refine Calls.mono j.out ?_;rintro e D ⟨rfl,l⟩;have y:=hid l;clear l;go_wp2;exact⟨rfl,rfl,(x.same y.out).err⟩
theorem C5v {s a:Ps} (e:A2f s=.ok a):a.came=s.came:=by
 unfold A2f at e;split at e
 ·cases e
 ·simp only[Except.ok.injEq]at e;subst e;rfl
theorem C8s {s:Ps} {n:Nat} (e:A2f s=.error n):n≠0:=by
 unfold A2f at e;split at e
 ·rename_i h
  simp only[Except.error.injEq]at e;subst e;exact h
 ·cases e
theorem B4v (B:Nat) (u q p o:Value) (s:Ps) (m k:Nat) (c:UInt8) (w:World) (h:PR B w u q p o s) (D:o.ownBlock=none) (b:PsOk s m k) (P:m<=5000000) (M:k<=10000000) (L:s.st=7) (x:beh s.tok.st c=0):
 Calls Tryz.prog 82 #[.pointer (some ⟨B,0,none⟩),.int .u8 (c.toNat:Int)] w (A3v B s.came (own B u q p o) w (A6j s c)):=by
 have F:nxt s.tok c=none:=by rw[nxt,if_pos x]
 have y:=hid (B9g 0 B 8 113 _ p s.tok c w b.tk1.st h.tkAt x);have l:=B7a B u q p o s m k w h D b P M;have N:=hid h;unfold A6j;rw[F];cases hr:A2f s with
 |error n=>
  rw[hr]at l;have r:=hid l;have S:((n:Int)!=0)=true:=bne_iff_ne.2 (by have:=C8s hr;omega);clear h x F l hr b;go_enter Tryz.func82,Tryz.ntmps82
  go_wp2_with fail
  refine Calls.mono y.out ?_;rintro e K ⟨rfl,rfl⟩
  go_wp2_with fail
  refine Calls.mono r.out ?_;rintro e t ⟨rfl,v⟩;have R:=hid v;clear v;go_wp2;exact⟨rfl,rfl,B5p.same N.out R.out⟩
 |ok s'=>
  rw[hr]at l;have r:=hid l;obtain⟨f,T⟩:=B9t b L hr;have Q:=hid (C5v hr);have I:=hid f;clear h x F l hr b f
  show Calls Tryz.prog 82 _ w (A3v B s.came (own B u q p o) w (B3p s' c))
  cases d:B3p s' c with
  |error n=>
   go_enter Tryz.func82,Tryz.ntmps82
   go_wp2_with fail
   refine Calls.mono y.out ?_;rintro e K ⟨rfl,rfl⟩
   go_wp2_with fail
   refine Calls.mono r.out ?_;rintro e t ⟨rfl,A,C,z,E,i,g⟩;have a:=C5u B A C z E s' (m+2) k c t i.pr ⟨g.1 (by omega),g.2 (by omega) (by omega)⟩ I.out (by omega) (by omega);rw[d,Q.out]at a;have j:=hid a;have H:=hid i;clear a i g d
   go_wp2_with fail
   refine Calls.mono j.out ?_;rintro e O ⟨rfl,v⟩;exact⟨rfl,rfl,H.errs v⟩
  |ok s2=>
   go_enter Tryz.func82,Tryz.ntmps82
   go_wp2_with fail
   refine Calls.mono y.out ?_;rintro e K ⟨rfl,rfl⟩
   go_wp2_with fail
   refine Calls.mono r.out ?_;rintro e t ⟨rfl,A,C,z,E,i,g⟩;have a:=C5u B A C z E s' (m+2) k c t i.pr ⟨g.1 (by omega),g.2 (by omega) (by omega)⟩ I.out (by omega) (by omega);rw[d]at a;have j:=hid a;have H:=hid i;clear a i g d
   go_wp2_with fail
   refine Calls.mono j.out ?_;rintro e O ⟨rfl,J⟩;have G:=hid (H.trans J);clear J;go_wp2;go_end0;exact⟨rfl,G.out⟩
end Go.Proofs.YtmkkibaacclhnaaGreatDoor
