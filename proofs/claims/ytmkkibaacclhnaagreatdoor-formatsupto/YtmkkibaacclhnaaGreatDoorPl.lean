/-
  Part Pl.
-/
import Derived.Test.YtmkkibaacclhnaaGreatDoorPg
import Derived.Deep.RegionHeld3
import Derived.Deep.RegionLaw
import Derived.RegionDies
import Derived.Laws.BitsAllLaws
namespace Go.Proofs.YtmkkibaacclhnaaGreatDoor
open Go.RowKit
set_option maxRecDepth 100000
set_option maxHeartbeats 16000000
theorem A7q {P:Program} {b:Array Oper} {o:Oper} {a:Act} {w:World} {K:Act->World->Prop} {Q:Exit->Act->World->Prop} {E:Prop}
 (l:o.guard=none) (s x:Operand) (t:TypeId) (k:o.op=Op.call {callee:=Callee.builtin Builtin.append,args:=#[s,x],argTypes:=#[t,t]})
 (e:TypeId) (i:TypeInfo) (z:Value) (size bytes:Nat) (h1:P.underlying t=some (.slice e)) (f:P.info? e=some i) (g:i.zero=some z) (h:i.size=size) (h5:i.bytes=bytes) (h6:z.cells.size=size) (h7:0<size)
 (v:Value) (n:Nat) (xs:List Value) (hs:a.eval s=v) (hown:w.ownsRow 0 e size v n xs)
 (ad:Addr) (m c:Nat) (news:List Value) (hx:a.eval x=.slice (some ad) m c) (hn:news.length=m*size) (hc:∀j u,news[j]? =some u->w.cell? (ad.add j)=some u) (h1c:∀u∈news,u.oneCell'=true)
 (b1:n+m<=maxLen) (b2:(n+m)*bytes<=140737488355328)
 (hK:∀d w',w'.ownsRow 0 e size d (n+m) (xs++news)->w.grownBy w' v.ownBlock->(∀g',d.ownBlock=some g'->v.ownBlock=some g'\/w.heap.size<=g')->K (a.put o.dst d) w'):
 if Region.wanted o (yielded b a.tmps)=true then Oper.wp P o a w K Q else E:=by
 have p:Region.wanted o (yielded b a.tmps)=true:=by simp[Region.wanted,l]
 rw[if_pos p];obtain⟨d,w',hr,f,g,h⟩:=B6u (P:=P) w t o.type e i z size bytes h1 f g h h5 h6 h7 v n xs hown ad m c news hn hc h1c b1 b2;unfold Oper.wp;simp[execOp,k,resolve,invoke,builtin,hs,hx,hr,Result.andThen];exact hK d w' f g h
theorem G1b (B o T:Nat) (j:Array Value) (v:Value) (t:Tr) (c:UInt8) (w:World) (h:C2x 0 w B o T j v t) (l:((c.toNat:Int)==117)=false) (k:((t.high:Int)==0)=true) (g:C4r c=none):
 Calls Tryz.prog 183 #[.pointer (some ⟨B,o,none⟩),.int .u8 (c.toNat:Int)] w λe w'=>e=E0s 3/\Fr (λ_=>False) w w':=by
 obtain⟨f,d,i⟩:=h;obtain⟨a,cap,rfl⟩:=A3y i;have m:=A0a f d.c1;have n:=A0a f d.c7;have b:=hid (λw=>B9p c w);rw[g]at b;simp only at b;clear f d i g;go_enter Tryz.func183,Tryz.ntmps183;go_wp2
 go_region_dies
 all_goals
  refine Calls.mono (b.out _) ?_;rintro e p ⟨rfl,rfl⟩;exact⟨rfl,rfl,(Fr.refl _ _).drew⟩
theorem F7f (B o T:Nat) (l:Array Value) (v:Value) (t:Tr) (c x:UInt8) (w:World) (E:T≠5) (h:C2x 0 w B o T l v t) (N:t.made.length<=40000000) (q:((c.toNat:Int)==117)=false) (L:((t.high:Int)==0)=true) (F:C4r c=some x):
 Calls Tryz.prog 183 #[.pointer (some ⟨B,o,none⟩),.int .u8 (c.toNat:Int)] w λe w'=>e=.returned (.tuple #[])/\A7k 0 B o T l v w w' ⟨0,t.made++[x],t.lack,t.lo,t.hi,t.dg,t.code,t.high⟩:=by
 have H:=hid h;have A:=hid E;obtain⟨k,m,p⟩:=h;obtain⟨a,cap,rfl⟩:=A3y p;have G:=A0a k m.c1;have R:=A0a k m.c7;have z:=hid m;have n:=hid (λw=>B9p c w);rw[F]at n;simp only at n;obtain⟨O,M,r,s,y⟩:=info_parts Tryz.info5;have J:=hid (show(w.drew).ownsRow 0 5 1 (.slice a t.made.length cap) t.made.length (us t.made)from p);have I:=hid (show TrR 0 B o T l (.slice a t.made.length cap) w l (.slice a t.made.length cap) w.drew t from⟨H.out,A5e.refl _ _,(Fr.refl _ _).drew,λ_ h=>.inl h⟩);have U:=(show w.drew.cell? ⟨B,o+1,none⟩=some (.slice a t.made.length cap)from G);have P:=(show w.drew.frozen? ⟨B,o+1,none⟩=false from A0b (j:=o+1) k);have i:=lt_of_block k;have S:∀ob,(w.alloc ob).cell? ⟨B,o+1,none⟩=some (.slice a t.made.length cap):=λob=>(World.cell?_of_block (w:=w) (Below.heap_alloc _ _ _ i)).trans G
 clear k m p F E i;go_enter Tryz.func183,Tryz.ntmps183;go_wp2
 go_region_law (first
  |(refine A7q rfl _ _ 65 rfl 5 O (.int .u8 0) 1 1 Tryz.underlying65 M r s y rfl (by decide) (.slice a t.made.length cap) _ _ rfl (J.alloc _) ⟨w.drew.heap.size,0,none⟩ 1 1 [.int .u8 (x.toNat:Int)] rfl rfl (cell_one_new _ _ _) (by intro u q;simp at q;subst q;rfl) (by unfold maxLen;omega) (by omega) ?_;intro Z w1 b d g;obtain⟨Q,C,rfl⟩:=A4g b;obtain⟨f,D⟩:=I.grow A.out b d (by simpa using g) (C8e x) rfl;have X:=A0a f z.c0;have Y:=A0a f z.c1;have V:=A0b (j:=o) f;have W:=A0b (j:=o+1) f;have K:=hid D;clear b d g f D)
  |(go_simp;go_at_call 211;refine Calls.mono (n.out _) ?_;rintro e w2 ⟨rfl,rfl⟩))
 all_goals
  go_wp2;go_end0;have:=K.s0 A.out 0;exact⟨rfl,_,_,this⟩
theorem E2t (B o T:Nat) (f:Array Value) (v:Value) (t:Tr) (k:Nat) (c:UInt8) (w:World) (l:T≠5) (h:C2x 0 w B o T f v t) (p:TrOk t k) (z:k<=10000000):
 Calls Tryz.prog 183 #[.pointer (some ⟨B,o,none⟩),.int .u8 (c.toNat:Int)] w λe w'=>match B7m t c with
  |.ok t'=>e=.returned (.tuple #[])/\A7k 0 B o T f v w w' t'
  |.error n=>e=E0s n/\Fr (λ_=>False) w w':=by
 have m:t.made.length<=40000000:=by have:=p.len;omega
 unfold B7m;by_cases d:c=117
 ·rw[if_pos d]
  simp only;have H:=hid h;have i:=hid l;obtain⟨a,g,u⟩:=h;have D:=A0a a g.c0;have E:=A0a a g.c5;have F:=A0a a g.c6;have A:=A0b (j:=o) a;have p5:=A0b (j:=o+5) a;have C:=A0b (j:=o+6) a;subst d;clear a g u l
  show Calls Tryz.prog 183 #[.pointer (some ⟨B,o,none⟩),.int .u8 (117:Int)] w _
  go_enter Tryz.func183,Tryz.ntmps183;go_wp2;go_end0;have:=(((TrR.start H.out).s5 i.out 0).s6 i.out 0).s0 i.out 3;exact⟨rfl,_,_,this⟩
 ·rw[if_neg d]
  have s:((c.toNat:Int)==117)=false:=bqF (by have:=A0k d;simp at this;omega);by_cases b:t.high≠0
  ·rw[if_pos b]
   simp only;have G:=A0a h.1 h.2.1.c7;have q:((t.high:Int)==0)=false:=bqF (by omega);have y:((t.high:Int)!=0)=true:=bne_iff_ne.2 (by omega);clear h d b;go_enter Tryz.func183,Tryz.ntmps183;go_wp2;exact⟨rfl,rfl,Fr.refl _ _⟩
  ·rw[if_neg b]
   have q:((t.high:Int)==0)=true:=beq_iff_eq.2 (by omega);cases r:C4r c with
   |none=>exact G1b B o T f v t c w h s q r
   |some x=>exact F7f B o T f v t c x w l h m s q r
theorem TrR.rune {base B o T:Nat} {n m:Array Value} {x v k:Value} {w0 W l:World} {t:Tr} {e:LU8} (u:T≠5) (h:TrR base B o T n x w0 m v W t)
 (j:l.ownsRow base 5 1 k (t.made++e).length (us (t.made++e))) (s:Fr (λi=>v.ownBlock=some i) W l) (A:∀g,k.ownBlock=some g->v.ownBlock=some g\/W.heap.size<=g):
 l.heap[B]? =some (.cells m T (0,0))/\TrR base B o T n x w0 (m.setIfInBounds (o+1) k) k (l.setCell ⟨B,o+1,none⟩ k) ⟨t.st,t.made++e,t.lack,t.lo,t.hi,t.dg,t.code,t.high⟩:=by
 obtain⟨⟨a,b,c⟩,d,f,w⟩:=h;have hro:=A2i c a u;have r:l.heap[B]? =some (.cells m T (0,0)):=s.heap a (λh=>hro h);have C:=b.size;have p:=A2i j r u;have y:=f.size;refine⟨r,⟨heap_setCell_same l B (o+1) m T k r,⟨by rw[A0d (by omega)];exact b.c0,A7p (by omega),by rw[A0d (by omega)];exact b.c2,by rw[A0d (by omega)];exact b.c3,by rw[A0d (by omega)];exact b.c4,by rw[A0d (by omega)];exact b.c5,by rw[A0d (by omega)];exact b.c6,by rw[A0d (by omega)];exact b.c7⟩,ownsRow_setCell_other j (a:=⟨B,o+1,none⟩) p k⟩,d.set 1 (by omega) _,?_,?_⟩
 ·refine(f.trans' s ?_).setCell (.inl (.inl rfl)) _
  intro i z;rcases w i z with h|h
  ·exact .inl (.inr h)
  ·exact .inr h
 ·intro g q
  rcases A g q with h|h
  ·exact w g h
  ·exact .inr (by omega)
theorem A0h {w:World} {base e size n:Nat} {v:Value} {xs:List Value} (h:w.ownsRow base e size v n xs):∃a m c,v=.slice a m c:=by
 rcases h.2 with⟨h,_⟩|⟨g,c,b,h,_⟩
 ·exact⟨_,_,_,h⟩
 ·exact⟨_,_,_,h⟩
theorem G3y (B o T:Nat) (f:Array Value) (v:Value) (t:Tr) (w:World) (g:T≠5) (h:C2x 0 w B o T f v t) (b:t.high=0) (i:55296<=t.code) (k:t.code<56320):
 Calls Tryz.prog 213 #[.pointer (some ⟨B,o,none⟩)] w λe w'=>e=.returned (.tuple #[])/\A7k 0 B o T f v w w' ⟨0,t.made,t.lack,t.lo,t.hi,t.dg,t.code,t.code⟩:=by
 have H:=hid h;have d:=hid g;obtain⟨a,c,l⟩:=h;have s:=A0a a c.c0;have u:=A0a a c.c6;have m:=A0a a c.c7;rw[b]at m;have q:=A0b (j:=o) a;have r:=A0b (j:=o+7) a;have n:(55296:Int)<=(t.code:Int):=by omega
 have p:(t.code:Int)<56320:=by omega
 clear a c l g b i k;go_enter Tryz.func213,Tryz.ntmps213;go_wp2;go_end0;have:=((TrR.start H.out).s7 d.out t.code).s0 d.out 0;exact⟨rfl,_,_,this⟩
theorem G3z (B o T:Nat) (l:Array Value) (v:Value) (t:Tr) (w:World) (x:T≠5) (h:C2x 0 w B o T l v t) (F:t.made.length<=40000000) (i:t.high=0) (C:t.code<55296\/(57344<=t.code/\t.code<65536)):
 Calls Tryz.prog 213 #[.pointer (some ⟨B,o,none⟩)] w λe w'=>e=.returned (.tuple #[])/\A7k 0 B o T l v w w' ⟨0,t.made++A3z t.code,t.lack,t.lo,t.hi,t.dg,t.code,t.high⟩:=by
 have r:=hid x;have y:=hid (show TrR 0 B o T l v w l v w.drew t from⟨h,A5e.refl _ _,(Fr.refl _ _).drew,λ_ h=>.inl h⟩);obtain⟨m,f,k⟩:=h;have q:=hid (λw k=>C5j v t.made t.code w k (by omega) (by omega));have z:=hid k;obtain⟨a,cap,rfl⟩:=A3y k;have L:=A0a m f.c1;have G:=A0a m f.c6;have H:=A0a m f.c7;rw[i]at H;have p:=hid f;obtain⟨R,g⟩:∃R:Int,(t.code:Int)=R:=⟨_,rfl⟩;have E:R<55296\/(57344<=R/\R<65536):=by omega
 have D:0<=R:=by omega
 rw[g]at G q;clear m f k x i C g;rcases E with A|⟨A,J⟩
 all_goals
  go_enter Tryz.func213,Tryz.ntmps213;go_wp2
  go_region_with (go_at_call 172;refine Calls.mono (q.out _ z.out) ?_;rintro e S ⟨Q,rfl,c,u,d⟩;obtain⟨b,g⟩:=y.rune r.out c u d;obtain⟨I,K,s,rfl⟩:=A0h c;have N:=A0a b p.c1;have M:=A0a b p.c0;have O:=A0b (j:=o) b;have P:=A0b (j:=o+1) b;have n:=hid g;clear c u d b g)
 all_goals
  go_wp2;go_end0;have:=n.s0 r.out 0;exact⟨rfl,_,_,this⟩
theorem G4a (B o T:Nat) (k:Array Value) (v:Value) (t:Tr) (w:World) (x:T≠5) (h:C2x 0 w B o T k v t) (I:t.made.length<=40000000) (D:55296<=t.high) (E:t.high<56320) (F:56320<=t.code) (H:t.code<57344):
 Calls Tryz.prog 213 #[.pointer (some ⟨B,o,none⟩)] w λe w'=>e=.returned (.tuple #[])/\A7k 0 B o T k v w w' ⟨0,t.made++A3z (65536+(t.high-55296)*1024+(t.code-56320)),t.lack,t.lo,t.hi,t.dg,t.code,0⟩:=by
 have p:=hid x;have y:=hid (show TrR 0 B o T k v w k v w.drew t from⟨h,A5e.refl _ _,(Fr.refl _ _).drew,λ_ h=>.inl h⟩);obtain⟨l,f,i⟩:=h;obtain⟨N,u⟩:∃N,65536+(t.high-55296)*1024+(t.code-56320)=N:=⟨_,rfl⟩;rw[u];have C:=hid (λw i=>C5j v t.made N w i (by omega) (by omega));have A:=hid i;obtain⟨a,cap,rfl⟩:=A3y i;have U:=A0a l f.c1;have J:=A0a l f.c6;have K:=A0a l f.c7;have m:=hid f;obtain⟨R,g⟩:∃R:Int,(t.code:Int)=R:=⟨_,rfl⟩;obtain⟨G,s⟩:∃G:Int,(t.high:Int)=G:=⟨_,rfl⟩;have M:55296<=G:=by omega
 have O:G<56320:=by omega
 have P:56320<=R:=by omega
 have Q:R<57344:=by omega
 have z:=hid (show 65536+(G-55296)*1024+R-56320=(N:Int) by omega);rw[g]at J;rw[s]at K;clear l f i x D E F H g s u;go_enter Tryz.func213,Tryz.ntmps213;go_wp2;go_region
 all_goals
  go_wp2_with fail
  rw[z.out];refine Calls.mono (C.out _ A.out) ?_;rintro e w2 ⟨v2,rfl,c,r,d⟩;obtain⟨b,g⟩:=y.rune p.out c r d;obtain⟨L,S,q,rfl⟩:=A0h c;have W:=A0a b m.c1;have V:=A0a b m.c0;have X:=A0a b m.c7;have Y:=A0b (j:=o) b;have Z:=A0b (j:=o+1) b;have s7:=A0b (j:=o+7) b;have n:=hid g;clear c r d b g;go_wp2;go_end0;have:=(n.s7 p.out 0).s0 p.out 0;exact⟨rfl,_,_,this⟩
theorem E2u (B o T:Nat) (b:Array Value) (v:Value) (t:Tr) (w:World) (i:T≠5) (h:C2x 0 w B o T b v t) (d:t.made.length<=40000000) (k:t.code<65536) (j:t.high=0\/(55296<=t.high/\t.high<56320)) (a:t.high≠0↔56320<=t.code/\t.code<57344):
 Calls Tryz.prog 213 #[.pointer (some ⟨B,o,none⟩)] w λe w'=>e=.returned (.tuple #[])/\A7k 0 B o T b v w w' (B9b t):=by
 unfold B9b;by_cases f:t.high≠0
 ·rw[if_pos f]
  have:=a.1 f;exact G4a B o T b v t w i h d (by omega) (by omega) this.1 this.2
 ·rw[if_neg f]
  have c:t.high=0:=by omega
  have l:¬(56320<=t.code/\t.code<57344):=λh=>f (a.2 h)
  by_cases g:55296<=t.code/\t.code<56320
  ·rw[if_pos g]
   exact G3y B o T b v t w i h c g.1 g.2
  ·rw[if_neg g]
   exact G3z B o T b v t w i h d c (by omega)
theorem D7k (a b:Nat) (c:a<2147483648) (d:b<2147483648):bits .or .i32 (a:Int) (b:Int)=((a|||b:Nat):Int):=by
 have g:a|||b<2^31:=Nat.or_lt_two_pow (by omega) (by omega)
 show IntKind.i32.wrap ((BitVec.ofInt 32 (a:Int)|||BitVec.ofInt 32 (b:Int)).toNat:Int)=_
 have e:∀n:Nat,n<2147483648->(BitVec.ofInt 32 (n:Int)).toNat=n:=by
  intro n f;rw[BitVec.toNat_ofInt];omega
 rw[BitVec.toNat_or,e a c,e b d];exact IntWalk.i32_in _ (by omega)
theorem E2v (a x:Nat) (b:a<4096) (c:x<16):bits BinOp.or IntKind.i32 (IntKind.i32.wrap ((a:Int)*16)) (x:Int)=((a*16+x:Nat):Int):=by
 rw[IntWalk.i32_in _ (by omega),show(a:Int)*16=((a*16:Nat):Int) by omega,D7k _ _ (by omega) (by omega),nat_join 4 (a*16) x (by omega) (by omega)]
theorem G1c (B o T:Nat) (g:Array Value) (v:Value) (t:Tr) (c:UInt8) (w:World) (h:C2x 0 w B o T g v t) (d:B5v c=none):
 Calls Tryz.prog 184 #[.pointer (some ⟨B,o,none⟩),.int .u8 (c.toNat:Int)] w λe w'=>e=E0s 3/\Fr (λ_=>False) w w':=by
 obtain⟨f,b,i⟩:=h;have j:=A0a f b.c6;have a:=hid (λw=>C5i c w);rw[d]at a;simp only at a;clear f b i d;go_enter Tryz.func184,Tryz.ntmps184;go_wp2
 go_region_dies
 all_goals
  refine Calls.mono (a.out _) ?_;rintro e k ⟨rfl,rfl⟩;exact⟨rfl,rfl,(Fr.refl _ _).drew⟩
structure DigH (B o T:Nat) (cs:Array Value) (v:Value) (t:Tr) (c:UInt8) (x y d:Nat) (w:World):Prop where
 hT:T≠5
 at_:C2x 0 w B o T cs v t
 code:t.code<4096
 hex:B5v c=some x
 y:y=t.code*16+x
 d:d=t.dg+1
 dl:t.dg<=3
theorem C2y (B o T:Nat) (g:Array Value) (v:Value) (t:Tr) (c:UInt8) (x y d:Nat) (w:World) (I:DigH B o T g v t c x y d w) (K:(d=1/\((t.high:Int)!=0)=false)\/(d=1/\((t.high:Int)!=0)=true/\((y:Int)!=13)=false)\/(d=2/\((t.high:Int)!=0)=false/\(y:Int)<220)\/(d=2/\((t.high:Int)!=0)=false/\220<=(y:Int)/\224<=(y:Int))\/(d=2/\((t.high:Int)!=0)=true/\220<=(y:Int)/\(y:Int)<224)\/(d=3)):
 Calls Tryz.prog 184 #[.pointer (some ⟨B,o,none⟩),.int .u8 (c.toNat:Int)] w λe w'=>e=.returned (.tuple #[])/\A7k 0 B o T g v w w' (A8k t x):=by
 obtain⟨s,h,A,m,p,C,J⟩:=I;have D:=A6i m;have n:=E2v t.code x A D;rw[<-p]at n;have q:=hid s;have E:=hid (show TrR 0 B o T g v w g v w.drew t from⟨h,A5e.refl _ _,(Fr.refl _ _).drew,λ_ h=>.inl h⟩);have r:=hid p;have b:=hid C;obtain⟨a,f,L⟩:=h;have O:=A0a a f.c0;have P:=A0a a f.c5;have Q:=A0a a f.c6;have R:=A0a a f.c7;have M:=A0b (j:=o+5) a;have N:=A0b (j:=o+6) a;have z:(t.dg:Int)+1=(d:Int):=by omega
 have k:=hid (λw=>C5i c w);rw[m]at k;simp only at k;have F:=hid ((E.s6 q.out y).s5 q.out d);clear a f L m s D p C A;have G:=hid (show A8k t x=⟨t.st,t.made,t.lack,t.lo,t.hi,d,y,t.high⟩ by unfold A8k;rw[<-r.out,<-b.out]);clear r b;rcases K with⟨rfl,i⟩|⟨rfl,i,l⟩|⟨rfl,i,l⟩|⟨rfl,i,l,H⟩|⟨rfl,i,l,H⟩|rfl
 all_goals
  go_enter Tryz.func184,Tryz.ntmps184
  go_upto_region 0 with fail
  go_cut [14] (λu wc=>wc=(w.setCell ⟨B,o+6,none⟩ (.int .i32 (y:Int))).drew)
  case first=>
   go_region_with (go_at_call 212;refine Calls.mono (k.out _) ?_;rintro e S ⟨rfl,rfl⟩)
   all_goals
    go_wp2;go_meet;rfl
  case rest=>
   subst hcut;go_wp2;go_end0;rw[G.out];exact⟨rfl,_,_,F.out⟩
theorem TrR.err {base B o T:Nat} {cs0 cs:Array Value} {v0 v:Value} {w0 W:World} {t:Tr} (h:TrR base B o T cs0 v0 w0 cs v W t):B7p B o T cs0 v0 w0 W:=⟨cs,h.is.1,h.ap,h.fr⟩
theorem D4k (B o T:Nat) (f:Array Value) (v:Value) (t:Tr) (c:UInt8) (x y d:Nat) (w:World) (H:DigH B o T f v t c x y d w) (J:(d=1/\((t.high:Int)!=0)=true/\((y:Int)!=13)=true)\/(d=2/\((t.high:Int)!=0)=false/\220<=(y:Int)/\(y:Int)<224)\/(d=2/\((t.high:Int)!=0)=true/\(y:Int)<220)\/(d=2/\((t.high:Int)!=0)=true/\220<=(y:Int)/\decide ((y:Int)<224)=false)):
 Calls Tryz.prog 184 #[.pointer (some ⟨B,o,none⟩),.int .u8 (c.toNat:Int)] w λe w'=>e=E0s 5/\B7p B o T f v w w':=by
 obtain⟨r,h,z,m,p,A,I⟩:=H;have C:=A6i m;have n:=E2v t.code x z C;rw[<-p]at n;have q:=hid r;have D:=hid (show TrR 0 B o T f v w f v w.drew t from⟨h,A5e.refl _ _,(Fr.refl _ _).drew,λ_ h=>.inl h⟩);have F:=hid p;have i:=hid A;obtain⟨a,b,K⟩:=h;have N:=A0a a b.c0;have O:=A0a a b.c5;have P:=A0a a b.c6;have Q:=A0a a b.c7;have L:=A0b (j:=o+5) a;have M:=A0b (j:=o+6) a;have s:(t.dg:Int)+1=(d:Int):=by omega
 have g:=hid (λw=>C5i c w);rw[m]at g;simp only at g;have E:=hid ((D.s6 q.out y).s5 q.out d);clear a b K m r C p A z;clear F i;rcases J with⟨rfl,k,l⟩|⟨rfl,k,l,G⟩|⟨rfl,k,l⟩|⟨rfl,k,l,G⟩
 all_goals
  go_enter Tryz.func184,Tryz.ntmps184
  go_upto_region 0 with fail
  go_cut [14] (λu wc=>wc=(w.setCell ⟨B,o+6,none⟩ (.int .i32 (y:Int))).drew)
  case first=>
   go_region_with (go_at_call 212;refine Calls.mono (g.out _) ?_;rintro e R ⟨rfl,rfl⟩)
   all_goals
    go_wp2;go_meet;rfl
  case rest=>
   subst hcut;go_wp2;exact⟨rfl,rfl,E.err⟩
def F4z (B o T:Nat) (cs:Array Value) (v:Value) (w:World) (r:Except Nat (Tr×Bool)) (e:Ending) (w':World):Prop:=
 match r with
 |.ok (t',b)=>e=.returned (.bool b)/\A7k 0 B o T cs v w w' t'
 |.error n=>e=E0s n/\B7p B o T cs v w w'
theorem B7p.same {B o T:Nat} {a:Array Value} {v:Value} {t:Tr} {w w':World} (h:C2x 0 w B o T a v t) (b:Fr (λ_=>False) w w'):B7p B o T a v w w':=
 ⟨a,b.heap h.1 id,A5e.refl _ _,b.mono (λ_ h=>h.elim)⟩
theorem D7m (B o T:Nat) (C:Array Value) (v:Value) (t:Tr) (k:Nat) (c:UInt8) (w:World) (D:T≠5) (h:C2x 0 w B o T C v t) (z:TrOk t k) (W:k<=10000000):
 Calls Tryz.prog 185 #[.pointer (some ⟨B,o,none⟩),.int .u8 (c.toNat:Int)] w (F4z B o T C v w (A9f t c)):=by
 have X:t.made.length<=40000000:=by have:=z.len;omega
 have H:=hid h;have K:=hid D;obtain⟨q,y,r⟩:=h;have k0:=A0a q y.c0;have k1:=A0a q y.c1;have k7:=A0a q y.c7;have f0:=A0b (j:=o) q;have f1:=A0b (j:=o+1) q;have P:=hid y;have Q:=hid r;have U:=hid (λw h=>E2s B o T C v t k c w D h z W);obtain⟨a,cap,rfl⟩:=A3y r;clear q y r D;unfold A9f;by_cases b:c=92
 ·rw[if_pos b]
  subst b
  show Calls Tryz.prog 185 #[.pointer (some ⟨B,o,none⟩),.int .u8 (92:Int)] w _
  go_enter Tryz.func185,Tryz.ntmps185;go_wp2;go_ret;have:=(TrR.start H.out).s0 K.out 2;exact⟨rfl,_,_,this⟩
 rw[if_neg b];have J:((c.toNat:Int)==92)=false:=bqF (by have:=A0k b;simp at this;omega);by_cases i:t.high≠0
 ·rw[if_pos i]
  have E:((t.high:Int)!=0)=true:=bne_iff_ne.2 (by omega);clear i b;go_enter Tryz.func185,Tryz.ntmps185;go_wp2;exact⟨rfl,rfl,B7p.same H.out (Fr.refl _ _)⟩
 rw[if_neg i];have E:((t.high:Int)!=0)=false:=by simp;omega
 by_cases f:c=34
 ·rw[if_pos f]
  subst f;clear b J i
  show Calls Tryz.prog 185 #[.pointer (some ⟨B,o,none⟩),.int .u8 (34:Int)] w _
  go_enter Tryz.func185,Tryz.ntmps185;go_wp2;go_ret;exact⟨rfl,_,_,TrR.start H.out⟩
 rw[if_neg f];have Z:((c.toNat:Int)==34)=false:=bqF (by have:=A0k f;simp at this;omega);clear b f i;by_cases x:c.toNat<32
 ·rw[if_pos x]
  go_enter Tryz.func185,Tryz.ntmps185;go_wp2;exact⟨rfl,rfl,B7p.same H.out (Fr.refl _ _)⟩
 rw[if_neg x];by_cases l:c.toNat<128
 ·rw[if_pos l]
  obtain⟨Y,V,F,G,I⟩:=info_parts Tryz.info5;have r:=Q.out;go_enter Tryz.func185,Tryz.ntmps185
  go_wp2_with (first
   |(at_builtin;refine A0g _ rfl _ _ 65 rfl 5 Y (.int .u8 0) 1 1 Tryz.underlying65 V F G I rfl (by decide) _ _ _ rfl (r.alloc _) ⟨w.heap.size,0,none⟩ 1 1 [.int .u8 (c.toNat:Int)] rfl rfl ?c1 ?c2 ?c3 ?c4 ?_)
   |go_in)
  case c1=>exact cell_one_new _ _ _
  case c2=>intro u O;simp at O;subst O;rfl
  case c3=>unfold maxLen;omega
  case c4=>omega
  intro v' w1 d g m;obtain⟨g',L,rfl⟩:=A4g d;obtain⟨p,M⟩:=(TrR.start H.out).grow K.out d g m (C8e c) rfl;have q1:=A0a p P.c1;have p1:=A0b (j:=o+1) p;have S:=hid M;clear d g m p M r;go_wp2;go_ret;exact⟨rfl,_,_,S.out⟩
 ·rw[if_neg l]
  have s:=U.out w H.out;cases hr:C4s t c with
  |error n=>
   rw[hr]at s;have A:=hid s;clear s hr;go_enter Tryz.func185,Tryz.ntmps185
   go_wp2_with fail
   refine Calls.mono A.out ?_;rintro e w2 ⟨rfl,rfl⟩;exact⟨rfl,rfl,B7p.same H.out (Fr.refl _ _)⟩
  |ok t'=>
   rw[hr]at s;have A:=hid s;clear s hr;go_enter Tryz.func185,Tryz.ntmps185
   go_wp2_with fail
   refine Calls.mono A.out ?_;rintro e w2 ⟨rfl,N⟩;have R:=hid N;clear N;go_wp2;go_ret;exact⟨rfl,R.out⟩
theorem A5e.trans {o:Nat} {a b c:Array Value} (h:A5e o a b) (k:A5e o b c):A5e o a c:=⟨k.1.trans h.1,λj hj=>(k.2 j hj).trans (h.2 j hj)⟩
theorem TrR.trans {base B o T:Nat} {a d:Array Value} {j v:Value} {w0 W w':World} {t f:Tr} (h:TrR base B o T a j w0 d v W t) (k:A7k base B o T d v W w' f):A7k base B o T a j w0 w' f:=by
 obtain⟨c,m,k⟩:=k;have n:=h.fr.size;refine⟨c,m,k.is,h.ap.trans k.ap,h.fr.trans' k.fr ?_,?_⟩
 ·intro i b
  rcases b with b|b
  ·exact .inl (.inl b)
  ·rcases h.ow i b with h|h
   ·exact .inl (.inr h)
   ·exact .inr h
 ·intro g l
  rcases k.ow g l with e|e
  ·exact h.ow g e
  ·exact .inr (by omega)
theorem G4b (B o T:Nat) (f:Array Value) (v:Value) (t:Tr) (c:UInt8) (x y:Nat) (w:World) (H:DigH B o T f v t c x y 4 w) (m:t.made.length<=40000000) (d:t.high=0\/(55296<=t.high/\t.high<56320)) (a:t.high≠0↔56320<=y/\y<57344):
 Calls Tryz.prog 184 #[.pointer (some ⟨B,o,none⟩),.int .u8 (c.toNat:Int)] w λe w'=>e=.returned (.tuple #[])/\A7k 0 B o T f v w w' (B9b (A8k t x)):=by
 obtain⟨k,h,z,l,p,A,I⟩:=H;have D:=A6i l;have n:=E2v t.code x z D;rw[<-p]at n;have r:=hid k;have E:=hid (show TrR 0 B o T f v w f v w.drew t from⟨h,A5e.refl _ _,(Fr.refl _ _).drew,λ_ h=>.inl h⟩);obtain⟨b,g,J⟩:=h;have N:=A0a b g.c5;have O:=A0a b g.c6;have P:=A0a b g.c7;have L:=A0b (j:=o+5) b;have M:=A0b (j:=o+6) b;have s:(t.dg:Int)+1=4:=by omega
 have i:=hid (λw=>C5i c w);rw[l]at i;simp only at i;have q:=hid ((E.s6 r.out y).s5 r.out 4);have e:A8k t x=⟨t.st,t.made,t.lack,t.lo,t.hi,4,y,t.high⟩:=by unfold A8k;rw[<-p,<-A]
 have F:=hid (E2u B o T _ v ⟨t.st,t.made,t.lack,t.lo,t.hi,4,y,t.high⟩ _ k q.is m (by show y<65536;omega) d a);rw[e];clear b g J l k D p A z e d a;go_enter Tryz.func184,Tryz.ntmps184
 go_upto_region 0 with fail
 go_cut [14] (λu wc=>wc=(w.setCell ⟨B,o+6,none⟩ (.int .i32 (y:Int))).drew)
 case first=>
  go_region_with (go_at_call 212;refine Calls.mono (i.out _) ?_;rintro e K ⟨rfl,rfl⟩)
  all_goals
   go_wp2;go_meet;rfl
 case rest=>
  subst hcut
  go_wp2_with fail
  refine Calls.mono F.out ?_;rintro e K ⟨rfl,C⟩;have G:=hid (q.trans C);clear C;go_wp2;go_end0;exact⟨rfl,G.out⟩
theorem E2w (B o T:Nat) (a:Array Value) (v:Value) (t:Tr) (k:Nat) (c:UInt8) (w:World) (I:T≠5) (h:C2x 0 w B o T a v t) (f:TrOk t k) (L:k<=10000000) (z:t.st=3):
 Calls Tryz.prog 184 #[.pointer (some ⟨B,o,none⟩),.int .u8 (c.toNat:Int)] w λe w'=>match B7n t c with
  |.ok t'=>e=.returned (.tuple #[])/\A7k 0 B o T a v w w' t'
  |.error n=>e=E0s n/\B7p B o T a v w w':=by
 have E:t.made.length<=40000000:=by have:=f.len;omega
 have l:=f.dg z;have K:=f.codeD z
 have J:t.code<4096:=by
  have:16^t.dg<=16^3:=Nat.pow_le_pow_right (by omega) l;omega
 unfold B7n;cases A:B5v c with
 |none=>
  simp only;exact(G1c B o T a v t c w h A).mono λe w' ⟨h1,h2⟩=>⟨h1,B7p.same h h2⟩
 |some x=>
  simp only;have M:=A6i A;obtain⟨y,H⟩:∃y,y=t.code*16+x:=⟨_,rfl⟩;have D:∀d,d=t.dg+1->DigH B o T a v t c x y d w:=λd hd=>⟨I,h,J,A,H,hd,l⟩
  rw[<-H];have q:t.high=0->((t.high:Int)!=0)=false:=λh=>by rw[h];rfl
  have i:t.high≠0->((t.high:Int)!=0)=true:=λh=>bne_iff_ne.2 (by omega)
  by_cases j:t.dg+1=1
  ·rw[if_pos j]
   by_cases r:t.high≠0/\y≠13
   ·rw[if_pos r]
    exact D4k B o T a v t c x y 1 w (D 1 j.symm) (.inl ⟨rfl,(i r.1),(bne_iff_ne.2 (by omega))⟩)
   ·rw[if_neg r]
    by_cases b:t.high=0
    ·exact C2y B o T a v t c x y 1 w (D 1 j.symm) (.inl ⟨rfl,(q b)⟩)
    ·have p:y=13:=by
      rcases Nat.decEq y 13 with F|F
      ·exact absurd ⟨b,F⟩ r
      ·exact F
     exact C2y B o T a v t c x y 1 w (D 1 j.symm) (.inr (.inl ⟨rfl,(i b),(by rw[p];rfl)⟩))
  rw[if_neg j];by_cases g:t.dg+1=2
  ·rw[if_pos g]
   by_cases b:t.high=0
   ·have u:decide (t.high≠0)=false:=dcF (λh=>h b)
    rw[u];by_cases m:220<=y/\y<224
    ·rw[dcT m,if_pos (by decide)]
     exact D4k B o T a v t c x y 2 w (D 2 g.symm) (.inr (.inl ⟨rfl,(q b),(by omega),(by omega)⟩))
    ·rw[dcF m,if_neg (by decide)]
     by_cases G:y<220
     ·exact C2y B o T a v t c x y 2 w (D 2 g.symm) (.inr (.inr (.inl ⟨rfl,(q b),(by omega)⟩)))
     ·exact C2y B o T a v t c x y 2 w (D 2 g.symm) (.inr (.inr (.inr (.inl ⟨rfl,(q b),(by omega),(by omega)⟩))))
   ·have u:decide (t.high≠0)=true:=dcT b
    rw[u];by_cases m:220<=y/\y<224
    ·rw[dcT m,if_neg (by decide)]
     exact C2y B o T a v t c x y 2 w (D 2 g.symm) (.inr (.inr (.inr (.inr (.inl ⟨rfl,(i b),(by omega),(by omega)⟩)))))
    ·rw[dcF m,if_pos (by decide)]
     by_cases G:y<220
     ·exact D4k B o T a v t c x y 2 w (D 2 g.symm) (.inr (.inr (.inl ⟨rfl,(i b),(by omega)⟩)))
     ·exact D4k B o T a v t c x y 2 w (D 2 g.symm) (.inr (.inr (.inr ⟨rfl,(i b),(by omega),(dcF (by omega))⟩)))
  rw[if_neg g];by_cases s:t.dg+1=4
  ·rw[if_pos s]
   have C:=f.low3 z (by omega);exact G4b B o T a v t c x y w (D 4 s.symm) E f.high (by rw[C];omega)
  ·rw[if_neg s]
   exact C2y B o T a v t c x y 3 w (D 3 (by omega)) (.inr (.inr (.inr (.inr (.inr rfl)))))
theorem B2j (B o T:Nat) (p:Array Value) (v:Value) (t:Tr) (k:Nat) (c:UInt8) (w:World) (x:T≠5) (h:C2x 0 w B o T p v t) (f:TrOk t k) (y:k<=10000000):
 Calls Tryz.prog 137 #[.pointer (some ⟨B,o,none⟩),.int .u8 (c.toNat:Int)] w (F4z B o T p v w (A2q t c)):=by
 have z:=A0a h.1 h.2.1.c0;have H:=hid h;have i:=f.st;unfold A2q;have A:∀(F:Nat) (r:Except Nat Tr),True:=λ_ _=>trivial
 clear A;by_cases j:t.st=1
 ·rw[if_pos j]
  have a:=F0f B o T p v t k c w x h f y j;rw[j]at z;clear j i h;cases hr:E9k t c with
  |error n=>
   rw[hr]at a;have d:=hid a;clear a hr;go_enter Tryz.func137,Tryz.ntmps137
   go_wp2_with fail
   refine Calls.mono d.out ?_;rintro e m ⟨rfl,rfl⟩;exact⟨rfl,rfl,B7p.same H.out (Fr.refl _ _)⟩
  |ok C=>
   rw[hr]at a;have d:=hid a;clear a hr;go_enter Tryz.func137,Tryz.ntmps137
   go_wp2_with fail
   refine Calls.mono d.out ?_;rintro e m ⟨rfl,g⟩;have l:=hid g;clear g;go_wp2;go_ret;exact⟨rfl,l.out⟩
 rw[if_neg j];by_cases q:t.st=2
 ·rw[if_pos q]
  have a:=E2t B o T p v t k c w x h f y;rw[q]at z;clear j q i h;cases hr:B7m t c with
  |error n=>
   rw[hr]at a;have d:=hid a;clear a hr;go_enter Tryz.func137,Tryz.ntmps137
   go_wp2_with fail
   refine Calls.mono d.out ?_;rintro e m ⟨rfl,u⟩;exact⟨rfl,rfl,B7p.same H.out u⟩
  |ok C=>
   rw[hr]at a;have d:=hid a;clear a hr;go_enter Tryz.func137,Tryz.ntmps137
   go_wp2_with fail
   refine Calls.mono d.out ?_;rintro e m ⟨rfl,g⟩;have l:=hid g;clear g;go_wp2;go_ret;exact⟨rfl,l.out⟩
 rw[if_neg q];by_cases s:t.st=3
 ·rw[if_pos s]
  have a:=E2w B o T p v t k c w x h f y s;rw[s]at z;clear j q s i h;cases hr:B7n t c with
  |error n=>
   rw[hr]at a;have d:=hid a;clear a hr;go_enter Tryz.func137,Tryz.ntmps137
   go_wp2_with fail
   refine Calls.mono d.out ?_;rintro e m ⟨rfl,u⟩;exact⟨rfl,rfl,u⟩
  |ok C=>
   rw[hr]at a;have d:=hid a;clear a hr;go_enter Tryz.func137,Tryz.ntmps137
   go_wp2_with fail
   refine Calls.mono d.out ?_;rintro e m ⟨rfl,g⟩;have l:=hid g;clear g;go_wp2;go_ret;exact⟨rfl,l.out⟩
 rw[if_neg s];have D:t.st=0:=by omega
 have a:=D7m B o T p v t k c w x h f y;rw[D]at z;clear j q s D i h;cases hr:A9f t c with
 |error n=>
  rw[hr]at a;have d:=hid a;clear a hr;go_enter Tryz.func137,Tryz.ntmps137
  go_wp2_with fail
  refine Calls.mono d.out ?_;rintro e m ⟨rfl,u⟩;exact⟨rfl,rfl,u⟩
 |ok tb=>
  obtain⟨C,b⟩:=tb;rw[hr]at a;have d:=hid a;clear a hr;go_enter Tryz.func137,Tryz.ntmps137
  go_wp2_with fail
  refine Calls.mono d.out ?_;rintro e m ⟨rfl,g⟩;have l:=hid g;clear g;go_wp2;go_ret;exact⟨rfl,l.out⟩
end Go.Proofs.YtmkkibaacclhnaaGreatDoor
