/-
  Part Pl.
-/
import Derived.Test.YtmkkibaacclhnaaGreatDoorPg
import Derived.Deep.RegionHeld3
import Derived.Deep.RegionLaw
import Derived.RegionDies
import Derived.Laws.BitsAllLaws
namespace Go.Proofs.YtmkkibaacclhnaaGreatDoor
open Go.RowKit
set_option maxRecDepth 100000
set_option maxHeartbeats 16000000
theorem A7q {P:Program} {d:Array Oper} {o:Oper} {a:Act} {w:World} {K:Act->World->Prop} {Q:Exit->Act->World->Prop} {E:Prop}
 (l:o.guard=none) (s x:Operand) (t:TypeId) (h:o.op=Op.call {callee:=Callee.builtin Builtin.append,args:=#[s,x],argTypes:=#[t,t]})
 (e:TypeId) (i:TypeInfo) (z:Value) (size bytes:Nat) (h1:P.underlying t=some (.slice e)) (g:P.info? e=some i) (f:i.zero=some z) (k:i.size=size) (h5:i.bytes=bytes) (h6:z.cells.size=size) (h7:0<size)
 (v:Value) (n:Nat) (xs:List Value) (hs:a.eval s=v) (hown:w.ownsRow 0 e size v n xs)
 (ad:Addr) (m c:Nat) (news:List Value) (hx:a.eval x=.slice (some ad) m c) (hn:news.length=m*size) (hc:∀j u,news[j]? =some u->w.cell? (ad.add j)=some u) (h1c:∀u∈news,u.oneCell'=true)
 (b1:n+m<=maxLen) (b2:(n+m)*bytes<=140737488355328)
 (hK:∀b w',w'.ownsRow 0 e size b (n+m) (xs++news)->w.grownBy w' v.ownBlock->(∀g',b.ownBlock=some g'->v.ownBlock=some g'\/w.heap.size<=g')->K (a.put o.dst b) w'):
 if Region.wanted o (yielded d a.tmps)=true then Oper.wp P o a w K Q else E:=by
 have p:Region.wanted o (yielded d a.tmps)=true:=by simp[Region.wanted,l]
 rw[if_pos p];obtain⟨b,w',hr,g,f,k⟩:=B6u (P:=P) w t o.type e i z size bytes h1 g f k h5 h6 h7 v n xs hown ad m c news hn hc h1c b1 b2;unfold Oper.wp;simp[execOp,h,resolve,invoke,builtin,hs,hx,hr,Result.andThen];exact hK b w' g f k
theorem G1b (B o T:Nat) (k:Array Value) (v:Value) (t:Tr) (c:UInt8) (w:World) (h:C2x 0 w B o T k v t) (n:((c.toNat:Int)==117)=false) (j:((t.high:Int)==0)=true) (g:C4r c=none):
 Calls Tryz.prog 183 #[.pointer (some ⟨B,o,none⟩),.int .u8 (c.toNat:Int)] w λe w'=>e=E0s 3/\Fr (λ_=>False) w w':=by
 obtain⟨d,b,i⟩:=h;obtain⟨a,cap,rfl⟩:=A3y i;have m:=A0a d b.c1;have l:=A0a d b.c7;have f:=hid (λw=>B9p c w);rw[g]at f;simp only at f;clear d b i g;go_enter Tryz.func183,Tryz.ntmps183;go_wp2
 go_region_dies
 all_goals
  refine Calls.mono (f.out _) ?_;rintro e p ⟨rfl,rfl⟩;exact⟨rfl,rfl,(Fr.refl _ _).drew⟩
theorem F7f (B o T:Nat) (m:Array Value) (v:Value) (t:Tr) (c x:UInt8) (w:World) (A:T≠5) (h:C2x 0 w B o T m v t) (L:t.made.length<=40000000) (r:((c.toNat:Int)==117)=false) (K:((t.high:Int)==0)=true) (F:C4r c=some x):
 Calls Tryz.prog 183 #[.pointer (some ⟨B,o,none⟩),.int .u8 (c.toNat:Int)] w λe w'=>e=.returned (.tuple #[])/\A7k 0 B o T m v w w' ⟨0,t.made++[x],t.lack,t.lo,t.hi,t.dg,t.code,t.high⟩:=by
 have H:=hid h;have G:=hid A;obtain⟨k,l,q⟩:=h;obtain⟨a,cap,rfl⟩:=A3y q;have D:=A0a k l.c1;have Q:=A0a k l.c7;have E:=hid l;have s:=hid (λw=>B9p c w);rw[F]at s;simp only at s;obtain⟨M,I,p,y,n⟩:=info_parts Tryz.info5;have J:=hid (show(w.drew).ownsRow 0 5 1 (.slice a t.made.length cap) t.made.length (us t.made)from q);have N:=hid (show TrR 0 B o T m (.slice a t.made.length cap) w m (.slice a t.made.length cap) w.drew t from⟨H.out,A5e.refl _ _,(Fr.refl _ _).drew,λ_ h=>.inl h⟩);have P:=(show w.drew.cell? ⟨B,o+1,none⟩=some (.slice a t.made.length cap)from D);have V:=(show w.drew.frozen? ⟨B,o+1,none⟩=false from A0b (j:=o+1) k);have i:=lt_of_block k;have ka:∀ob,(w.alloc ob).cell? ⟨B,o+1,none⟩=some (.slice a t.made.length cap):=λob=>(World.cell?_of_block (w:=w) (Below.heap_alloc _ _ _ i)).trans D
 clear k l q F A i;go_enter Tryz.func183,Tryz.ntmps183;go_wp2
 go_region_law (first
  |(refine A7q rfl _ _ 65 rfl 5 M (.int .u8 0) 1 1 Tryz.underlying65 I p y n rfl (by decide) (.slice a t.made.length cap) _ _ rfl (J.alloc _) ⟨w.drew.heap.size,0,none⟩ 1 1 [.int .u8 (x.toNat:Int)] rfl rfl (cell_one_new _ _ _) (by intro u r;simp at r;subst r;rfl) (by unfold maxLen;omega) (by omega) ?_;intro U Z b f g;obtain⟨S,C,rfl⟩:=A4g b;obtain⟨d,z⟩:=N.grow G.out b f (by simpa using g) (C8e x) rfl;have R:=A0a d E.c0;have W:=A0a d E.c1;have Y:=A0b (j:=o) d;have X:=A0b (j:=o+1) d;have O:=hid z;clear b f g d z)
  |(go_simp;go_at_call 211;refine Calls.mono (s.out _) ?_;rintro e w2 ⟨rfl,rfl⟩))
 all_goals
  go_wp2;go_end0;have:=O.s0 G.out 0;exact⟨rfl,_,_,this⟩
theorem E2t (B o T:Nat) (g:Array Value) (v:Value) (t:Tr) (k:Nat) (c:UInt8) (w:World) (i:T≠5) (h:C2x 0 w B o T g v t) (q:TrOk t k) (F:k<=10000000):
 Calls Tryz.prog 183 #[.pointer (some ⟨B,o,none⟩),.int .u8 (c.toNat:Int)] w λe w'=>match B7m t c with
  |.ok t'=>e=.returned (.tuple #[])/\A7k 0 B o T g v w w' t'
  |.error n=>e=E0s n/\Fr (λ_=>False) w w':=by
 have l:t.made.length<=40000000:=by have:=q.len;omega
 unfold B7m;by_cases d:c=117
 ·rw[if_pos d]
  simp only;have H:=hid h;have p:=hid i;obtain⟨b,f,y⟩:=h;have z:=A0a b f.c0;have D:=A0a b f.c5;have E:=A0a b f.c6;have G:=A0b (j:=o) b;have p5:=A0b (j:=o+5) b;have A:=A0b (j:=o+6) b;subst d;clear b f y i
  show Calls Tryz.prog 183 #[.pointer (some ⟨B,o,none⟩),.int .u8 (117:Int)] w _
  go_enter Tryz.func183,Tryz.ntmps183;go_wp2;go_end0;have:=(((TrR.start H.out).s5 p.out 0).s6 p.out 0).s0 p.out 3;exact⟨rfl,_,_,this⟩
 ·rw[if_neg d]
  have r:((c.toNat:Int)==117)=false:=bqF (by have:=A0k d;simp at this;omega);by_cases a:t.high≠0
  ·rw[if_pos a]
   simp only;have C:=A0a h.1 h.2.1.c7;have m:((t.high:Int)==0)=false:=bqF (by omega);have u:((t.high:Int)!=0)=true:=bne_iff_ne.2 (by omega);clear h d a;go_enter Tryz.func183,Tryz.ntmps183;go_wp2;exact⟨rfl,rfl,Fr.refl _ _⟩
  ·rw[if_neg a]
   have m:((t.high:Int)==0)=true:=beq_iff_eq.2 (by omega);cases s:C4r c with
   |none=>exact G1b B o T g v t c w h r m s
   |some x=>exact F7f B o T g v t c x w i h l r m s
theorem TrR.rune {base B o T:Nat} {m p:Array Value} {s v k:Value} {w0 W l:World} {t:Tr} {e:LU8} (u:T≠5) (h:TrR base B o T m s w0 p v W t)
 (j:l.ownsRow base 5 1 k (t.made++e).length (us (t.made++e))) (x:Fr (λi=>v.ownBlock=some i) W l) (z:∀g,k.ownBlock=some g->v.ownBlock=some g\/W.heap.size<=g):
 l.heap[B]? =some (.cells p T (0,0))/\TrR base B o T m s w0 (p.setIfInBounds (o+1) k) k (l.setCell ⟨B,o+1,none⟩ k) ⟨t.st,t.made++e,t.lack,t.lo,t.hi,t.dg,t.code,t.high⟩:=by
 obtain⟨⟨a,b,c⟩,d,f,w⟩:=h;have hro:=A2i c a u;have r:l.heap[B]? =some (.cells p T (0,0)):=x.heap a (λh=>hro h);have C:=b.size;have n:=A2i j r u;have A:=f.size;refine⟨r,⟨heap_setCell_same l B (o+1) p T k r,⟨by rw[A0d (by omega)];exact b.c0,A7p (by omega),by rw[A0d (by omega)];exact b.c2,by rw[A0d (by omega)];exact b.c3,by rw[A0d (by omega)];exact b.c4,by rw[A0d (by omega)];exact b.c5,by rw[A0d (by omega)];exact b.c6,by rw[A0d (by omega)];exact b.c7⟩,ownsRow_setCell_other j (a:=⟨B,o+1,none⟩) n k⟩,d.set 1 (by omega) _,?_,?_⟩
 ·refine(f.trans' x ?_).setCell (.inl (.inl rfl)) _
  intro i y;rcases w i y with h|h
  ·exact .inl (.inr h)
  ·exact .inr h
 ·intro g q
  rcases z g q with h|h
  ·exact w g h
  ·exact .inr (by omega)
theorem A0h {w:World} {base e size n:Nat} {v:Value} {xs:List Value} (h:w.ownsRow base e size v n xs):∃a m c,v=.slice a m c:=by
 rcases h.2 with⟨h,_⟩|⟨g,c,b,h,_⟩
 ·exact⟨_,_,_,h⟩
 ·exact⟨_,_,_,h⟩
theorem G3y (B o T:Nat) (g:Array Value) (v:Value) (t:Tr) (w:World) (d:T≠5) (h:C2x 0 w B o T g v t) (b:t.high=0) (l:55296<=t.code) (m:t.code<56320):
 Calls Tryz.prog 213 #[.pointer (some ⟨B,o,none⟩)] w λe w'=>e=.returned (.tuple #[])/\A7k 0 B o T g v w w' ⟨0,t.made,t.lack,t.lo,t.hi,t.dg,t.code,t.code⟩:=by
 have H:=hid h;have f:=hid d;obtain⟨a,c,k⟩:=h;have p:=A0a a c.c0;have r:=A0a a c.c6;have i:=A0a a c.c7;rw[b]at i;have s:=A0b (j:=o) a;have u:=A0b (j:=o+7) a;have q:(55296:Int)<=(t.code:Int):=by omega
 have n:(t.code:Int)<56320:=by omega
 clear a c k d b l m;go_enter Tryz.func213,Tryz.ntmps213;go_wp2;go_end0;have:=((TrR.start H.out).s7 f.out t.code).s0 f.out 0;exact⟨rfl,_,_,this⟩
theorem G3z (B o T:Nat) (m:Array Value) (v:Value) (t:Tr) (w:World) (p:T≠5) (h:C2x 0 w B o T m v t) (A:t.made.length<=40000000) (g:t.high=0) (G:t.code<55296\/(57344<=t.code/\t.code<65536)):
 Calls Tryz.prog 213 #[.pointer (some ⟨B,o,none⟩)] w λe w'=>e=.returned (.tuple #[])/\A7k 0 B o T m v w w' ⟨0,t.made++A3z t.code,t.lack,t.lo,t.hi,t.dg,t.code,t.high⟩:=by
 have r:=hid p;have H:=hid (show TrR 0 B o T m v w m v w.drew t from⟨h,A5e.refl _ _,(Fr.refl _ _).drew,λ_ h=>.inl h⟩);obtain⟨l,i,k⟩:=h;have u:=hid (λw k=>C5j v t.made t.code w k (by omega) (by omega));have y:=hid k;obtain⟨a,cap,rfl⟩:=A3y k;have L:=A0a l i.c1;have E:=A0a l i.c6;have z:=A0a l i.c7;rw[g]at z;have q:=hid i;obtain⟨R,f⟩:∃R:Int,(t.code:Int)=R:=⟨_,rfl⟩;have C:R<55296\/(57344<=R/\R<65536):=by omega
 have F:0<=R:=by omega
 rw[f]at E u;clear l i k p g G f;rcases C with D|⟨D,I⟩
 all_goals
  go_enter Tryz.func213,Tryz.ntmps213;go_wp2
  go_region_with (go_at_call 172;refine Calls.mono (u.out _ y.out) ?_;rintro e Q ⟨J,rfl,b,s,d⟩;obtain⟨c,f⟩:=H.rune r.out b s d;obtain⟨K,N,x,rfl⟩:=A0h b;have P:=A0a c q.c1;have S:=A0a c q.c0;have M:=A0b (j:=o) c;have O:=A0b (j:=o+1) c;have n:=hid f;clear b s d c f)
 all_goals
  go_wp2;go_end0;have:=n.s0 r.out 0;exact⟨rfl,_,_,this⟩
theorem G4a (B o T:Nat) (l:Array Value) (v:Value) (t:Tr) (w:World) (q:T≠5) (h:C2x 0 w B o T l v t) (C:t.made.length<=40000000) (H:55296<=t.high) (D:t.high<56320) (y:56320<=t.code) (I:t.code<57344):
 Calls Tryz.prog 213 #[.pointer (some ⟨B,o,none⟩)] w λe w'=>e=.returned (.tuple #[])/\A7k 0 B o T l v w w' ⟨0,t.made++A3z (65536+(t.high-55296)*1024+(t.code-56320)),t.lack,t.lo,t.hi,t.dg,t.code,0⟩:=by
 have p:=hid q;have J:=hid (show TrR 0 B o T l v w l v w.drew t from⟨h,A5e.refl _ _,(Fr.refl _ _).drew,λ_ h=>.inl h⟩);obtain⟨k,g,i⟩:=h;obtain⟨N,r⟩:∃N,65536+(t.high-55296)*1024+(t.code-56320)=N:=⟨_,rfl⟩;rw[r];have K:=hid (λw i=>C5j v t.made N w i (by omega) (by omega));have z:=hid i;obtain⟨a,cap,rfl⟩:=A3y i;have U:=A0a k g.c1;have E:=A0a k g.c6;have A:=A0a k g.c7;have n:=hid g;obtain⟨R,f⟩:∃R:Int,(t.code:Int)=R:=⟨_,rfl⟩;obtain⟨G,s⟩:∃G:Int,(t.high:Int)=G:=⟨_,rfl⟩;have V:55296<=G:=by omega
 have O:G<56320:=by omega
 have L:56320<=R:=by omega
 have M:R<57344:=by omega
 have F:=hid (show 65536+(G-55296)*1024+R-56320=(N:Int) by omega);rw[f]at E;rw[s]at A;clear k g i q H D y I f s r;go_enter Tryz.func213,Tryz.ntmps213;go_wp2;go_region
 all_goals
  go_wp2_with fail
  rw[F.out];refine Calls.mono (K.out _ z.out) ?_;rintro e w2 ⟨P,rfl,c,u,d⟩;obtain⟨b,f⟩:=J.rune p.out c u d;obtain⟨Q,Z,x,rfl⟩:=A0h c;have r1:=A0a b n.c1;have r0:=A0a b n.c0;have S:=A0a b n.c7;have W:=A0b (j:=o) b;have Y:=A0b (j:=o+1) b;have X:=A0b (j:=o+7) b;have m:=hid f;clear c u d b f;go_wp2;go_end0;have:=(m.s7 p.out 0).s0 p.out 0;exact⟨rfl,_,_,this⟩
theorem E2u (B o T:Nat) (b:Array Value) (v:Value) (t:Tr) (w:World) (i:T≠5) (h:C2x 0 w B o T b v t) (c:t.made.length<=40000000) (k:t.code<65536) (j:t.high=0\/(55296<=t.high/\t.high<56320)) (a:t.high≠0↔56320<=t.code/\t.code<57344):
 Calls Tryz.prog 213 #[.pointer (some ⟨B,o,none⟩)] w λe w'=>e=.returned (.tuple #[])/\A7k 0 B o T b v w w' (B9b t):=by
 unfold B9b;by_cases g:t.high≠0
 ·rw[if_pos g]
  have:=a.1 g;exact G4a B o T b v t w i h c (by omega) (by omega) this.1 this.2
 ·rw[if_neg g]
  have d:t.high=0:=by omega
  have l:¬(56320<=t.code/\t.code<57344):=λh=>g (a.2 h)
  by_cases f:55296<=t.code/\t.code<56320
  ·rw[if_pos f]
   exact G3y B o T b v t w i h d f.1 f.2
  ·rw[if_neg f]
   exact G3z B o T b v t w i h c d (by omega)
theorem D7k (a b:Nat) (c:a<2147483648) (d:b<2147483648):bits .or .i32 (a:Int) (b:Int)=((a|||b:Nat):Int):=by
 have f:a|||b<2^31:=Nat.or_lt_two_pow (by omega) (by omega)
 show IntKind.i32.wrap ((BitVec.ofInt 32 (a:Int)|||BitVec.ofInt 32 (b:Int)).toNat:Int)=_
 have e:∀n:Nat,n<2147483648->(BitVec.ofInt 32 (n:Int)).toNat=n:=by
  intro n g;rw[BitVec.toNat_ofInt];omega
 rw[BitVec.toNat_or,e a c,e b d];exact IntWalk.i32_in _ (by omega)
theorem E2v (a x:Nat) (c:a<4096) (b:x<16):bits BinOp.or IntKind.i32 (IntKind.i32.wrap ((a:Int)*16)) (x:Int)=((a*16+x:Nat):Int):=by
 rw[IntWalk.i32_in _ (by omega),show(a:Int)*16=((a*16:Nat):Int) by omega,D7k _ _ (by omega) (by omega),nat_join 4 (a*16) x (by omega) (by omega)]
theorem G1c (B o T:Nat) (i:Array Value) (v:Value) (t:Tr) (c:UInt8) (w:World) (h:C2x 0 w B o T i v t) (f:B5v c=none):
 Calls Tryz.prog 184 #[.pointer (some ⟨B,o,none⟩),.int .u8 (c.toNat:Int)] w λe w'=>e=E0s 3/\Fr (λ_=>False) w w':=by
 obtain⟨d,b,g⟩:=h;have j:=A0a d b.c6;have a:=hid (λw=>C5i c w);rw[f]at a;simp only at a;clear d b g f;go_enter Tryz.func184,Tryz.ntmps184;go_wp2
 go_region_dies
 all_goals
  refine Calls.mono (a.out _) ?_;rintro e k ⟨rfl,rfl⟩;exact⟨rfl,rfl,(Fr.refl _ _).drew⟩
structure DigH (B o T:Nat) (cs:Array Value) (v:Value) (t:Tr) (c:UInt8) (x y d:Nat) (w:World):Prop where
 hT:T≠5
 at_:C2x 0 w B o T cs v t
 code:t.code<4096
 hex:B5v c=some x
 y:y=t.code*16+x
 d:d=t.dg+1
 dl:t.dg<=3
theorem C2y (B o T:Nat) (i:Array Value) (v:Value) (t:Tr) (c:UInt8) (x y d:Nat) (w:World) (G:DigH B o T i v t c x y d w) (H:(d=1/\((t.high:Int)!=0)=false)\/(d=1/\((t.high:Int)!=0)=true/\((y:Int)!=13)=false)\/(d=2/\((t.high:Int)!=0)=false/\(y:Int)<220)\/(d=2/\((t.high:Int)!=0)=false/\220<=(y:Int)/\224<=(y:Int))\/(d=2/\((t.high:Int)!=0)=true/\220<=(y:Int)/\(y:Int)<224)\/(d=3)):
 Calls Tryz.prog 184 #[.pointer (some ⟨B,o,none⟩),.int .u8 (c.toNat:Int)] w λe w'=>e=.returned (.tuple #[])/\A7k 0 B o T i v w w' (A8k t x):=by
 obtain⟨A,h,r,n,l,z,E⟩:=G;have C:=A6i n;have k:=E2v t.code x r C;rw[<-l]at k;have D:=hid A;have K:=hid (show TrR 0 B o T i v w i v w.drew t from⟨h,A5e.refl _ _,(Fr.refl _ _).drew,λ_ h=>.inl h⟩);have s:=hid l;have b:=hid z;obtain⟨a,f,J⟩:=h;have R:=A0a a f.c0;have Q:=A0a a f.c5;have O:=A0a a f.c6;have M:=A0a a f.c7;have P:=A0b (j:=o+5) a;have N:=A0b (j:=o+6) a;have q:(t.dg:Int)+1=(d:Int):=by omega
 have p:=hid (λw=>C5i c w);rw[n]at p;simp only at p;have L:=hid ((K.s6 D.out y).s5 D.out d);clear a f J n A C l z r;have I:=hid (show A8k t x=⟨t.st,t.made,t.lack,t.lo,t.hi,d,y,t.high⟩ by unfold A8k;rw[<-s.out,<-b.out]);clear s b;rcases H with⟨rfl,g⟩|⟨rfl,g,m⟩|⟨rfl,g,m⟩|⟨rfl,g,m,F⟩|⟨rfl,g,m,F⟩|rfl
 all_goals
  go_enter Tryz.func184,Tryz.ntmps184
  go_upto_region 0 with fail
  go_cut [14] (λu wc=>wc=(w.setCell ⟨B,o+6,none⟩ (.int .i32 (y:Int))).drew)
  case first=>
   go_region_with (go_at_call 212;refine Calls.mono (p.out _) ?_;rintro e S ⟨rfl,rfl⟩)
   all_goals
    go_wp2;go_meet;rfl
  case rest=>
   subst hcut;go_wp2;go_end0;rw[I.out];exact⟨rfl,_,_,L.out⟩
theorem D4k (B o T:Nat) (f:Array Value) (v:Value) (t:Tr) (c:UInt8) (x y d:Nat) (w:World) (F:DigH B o T f v t c x y d w) (H:(d=1/\((t.high:Int)!=0)=true/\((y:Int)!=13)=true)\/(d=2/\((t.high:Int)!=0)=false/\220<=(y:Int)/\(y:Int)<224)\/(d=2/\((t.high:Int)!=0)=true/\(y:Int)<220)\/(d=2/\((t.high:Int)!=0)=true/\220<=(y:Int)/\decide ((y:Int)<224)=false)):
 Calls Tryz.prog 184 #[.pointer (some ⟨B,o,none⟩),.int .u8 (c.toNat:Int)] w λe w'=>e=E0s 5/\B7p B o T f v w w':=by
 obtain⟨z,h,r,n,k,s,D⟩:=F;have A:=A6i n;have g:=E2v t.code x r A;rw[<-k]at g;have C:=hid z;have J:=hid (show TrR 0 B o T f v w f v w.drew t from⟨h,A5e.refl _ _,(Fr.refl _ _).drew,λ_ h=>.inl h⟩);have G:=hid k;have i:=hid s;obtain⟨a,b,I⟩:=h;have Q:=A0a a b.c0;have P:=A0a a b.c5;have N:=A0a a b.c6;have L:=A0a a b.c7;have O:=A0b (j:=o+5) a;have M:=A0b (j:=o+6) a;have q:(t.dg:Int)+1=(d:Int):=by omega
 have p:=hid (λw=>C5i c w);rw[n]at p;simp only at p;have K:=hid ((J.s6 C.out y).s5 C.out d);clear a b I n z A k s r;clear G i;rcases H with⟨rfl,l,m⟩|⟨rfl,l,m,E⟩|⟨rfl,l,m⟩|⟨rfl,l,m,E⟩
 all_goals
  go_enter Tryz.func184,Tryz.ntmps184
  go_upto_region 0 with fail
  go_cut [14] (λu wc=>wc=(w.setCell ⟨B,o+6,none⟩ (.int .i32 (y:Int))).drew)
  case first=>
   go_region_with (go_at_call 212;refine Calls.mono (p.out _) ?_;rintro e R ⟨rfl,rfl⟩)
   all_goals
    go_wp2;go_meet;rfl
  case rest=>
   subst hcut;go_wp2;exact⟨rfl,rfl,K.err⟩
def F4z (B o T:Nat) (cs:Array Value) (v:Value) (w:World) (r:Except Nat (Tr×Bool)) (e:Ending) (w':World):Prop:=
 match r with
 |.ok (t',b)=>e=.returned (.bool b)/\A7k 0 B o T cs v w w' t'
 |.error n=>e=E0s n/\B7p B o T cs v w w'
theorem B7p.same {B o T:Nat} {a:Array Value} {v:Value} {t:Tr} {w w':World} (h:C2x 0 w B o T a v t) (b:Fr (λ_=>False) w w'):B7p B o T a v w w':=
 ⟨a,b.heap h.1 id,A5e.refl _ _,b.mono (λ_ h=>h.elim)⟩
theorem D7m (B o T:Nat) (I:Array Value) (v:Value) (t:Tr) (k:Nat) (c:UInt8) (w:World) (C:T≠5) (h:C2x 0 w B o T I v t) (z:TrOk t k) (V:k<=10000000):
 Calls Tryz.prog 185 #[.pointer (some ⟨B,o,none⟩),.int .u8 (c.toNat:Int)] w (F4z B o T I v w (A9f t c)):=by
 have R:t.made.length<=40000000:=by have:=z.len;omega
 have H:=hid h;have N:=hid C;obtain⟨r,y,q⟩:=h;have k0:=A0a r y.c0;have k1:=A0a r y.c1;have k7:=A0a r y.c7;have f0:=A0b (j:=o) r;have f1:=A0b (j:=o+1) r;have U:=hid y;have Q:=hid q;have S:=hid (λw h=>E2s B o T I v t k c w C h z V);obtain⟨a,cap,rfl⟩:=A3y q;clear r y q C;unfold A9f;by_cases b:c=92
 ·rw[if_pos b]
  subst b
  show Calls Tryz.prog 185 #[.pointer (some ⟨B,o,none⟩),.int .u8 (92:Int)] w _
  go_enter Tryz.func185,Tryz.ntmps185;go_wp2;go_ret;have:=(TrR.start H.out).s0 N.out 2;exact⟨rfl,_,_,this⟩
 rw[if_neg b];have F:((c.toNat:Int)==92)=false:=bqF (by have:=A0k b;simp at this;omega);by_cases f:t.high≠0
 ·rw[if_pos f]
  have G:((t.high:Int)!=0)=true:=bne_iff_ne.2 (by omega);clear f b;go_enter Tryz.func185,Tryz.ntmps185;go_wp2;exact⟨rfl,rfl,B7p.same H.out (Fr.refl _ _)⟩
 rw[if_neg f];have G:((t.high:Int)!=0)=false:=by simp;omega
 by_cases g:c=34
 ·rw[if_pos g]
  subst g;clear b F f
  show Calls Tryz.prog 185 #[.pointer (some ⟨B,o,none⟩),.int .u8 (34:Int)] w _
  go_enter Tryz.func185,Tryz.ntmps185;go_wp2;go_ret;exact⟨rfl,_,_,TrR.start H.out⟩
 rw[if_neg g];have Y:((c.toNat:Int)==34)=false:=bqF (by have:=A0k g;simp at this;omega);clear b g f;by_cases x:c.toNat<32
 ·rw[if_pos x]
  go_enter Tryz.func185,Tryz.ntmps185;go_wp2;exact⟨rfl,rfl,B7p.same H.out (Fr.refl _ _)⟩
 rw[if_neg x];by_cases l:c.toNat<128
 ·rw[if_pos l]
  obtain⟨X,P,E,J,D⟩:=info_parts Tryz.info5;have q:=Q.out;go_enter Tryz.func185,Tryz.ntmps185
  go_wp2_with (first
   |(at_builtin;refine A0g _ rfl _ _ 65 rfl 5 X (.int .u8 0) 1 1 Tryz.underlying65 P E J D rfl (by decide) _ _ _ rfl (q.alloc _) ⟨w.heap.size,0,none⟩ 1 1 [.int .u8 (c.toNat:Int)] rfl rfl ?c1 ?c2 ?c3 ?c4 ?_)
   |go_in)
  case c1=>exact cell_one_new _ _ _
  case c2=>intro u O;simp at O;subst O;rfl
  case c3=>unfold maxLen;omega
  case c4=>omega
  intro v' w1 d i m;obtain⟨g',M,rfl⟩:=A4g d;obtain⟨p,K⟩:=(TrR.start H.out).grow N.out d i m (C8e c) rfl;have q1:=A0a p U.c1;have p1:=A0b (j:=o+1) p;have HR:=hid K;clear d i m p K q;go_wp2;go_ret;exact⟨rfl,_,_,HR.out⟩
 ·rw[if_neg l]
  have s:=S.out w H.out;cases hr:C4s t c with
  |error n=>
   rw[hr]at s;have A:=hid s;clear s hr;go_enter Tryz.func185,Tryz.ntmps185
   go_wp2_with fail
   refine Calls.mono A.out ?_;rintro e Z ⟨rfl,rfl⟩;exact⟨rfl,rfl,B7p.same H.out (Fr.refl _ _)⟩
  |ok t'=>
   rw[hr]at s;have A:=hid s;clear s hr;go_enter Tryz.func185,Tryz.ntmps185
   go_wp2_with fail
   refine Calls.mono A.out ?_;rintro e Z ⟨rfl,L⟩;have W:=hid L;clear L;go_wp2;go_ret;exact⟨rfl,W.out⟩
theorem A5e.trans {o:Nat} {a b c:Array Value} (h:A5e o a b) (k:A5e o b c):A5e o a c:=⟨k.1.trans h.1,λj hj=>(k.2 j hj).trans (h.2 j hj)⟩
theorem TrR.trans {base B o T:Nat} {b f:Array Value} {d v:Value} {w0 W w':World} {t e:Tr} (h:TrR base B o T b d w0 f v W t) (k:A7k base B o T f v W w' e):A7k base B o T b d w0 w' e:=by
 obtain⟨c,l,k⟩:=k;have n:=h.fr.size;refine⟨c,l,k.is,h.ap.trans k.ap,h.fr.trans' k.fr ?_,?_⟩
 ·intro i a
  rcases a with a|a
  ·exact .inl (.inl a)
  ·rcases h.ow i a with h|h
   ·exact .inl (.inr h)
   ·exact .inr h
 ·intro g m
  rcases k.ow g m with j|j
  ·exact h.ow g j
  ·exact .inr (by omega)
theorem G4b (B o T:Nat) (g:Array Value) (v:Value) (t:Tr) (c:UInt8) (x y:Nat) (w:World) (F:DigH B o T g v t c x y 4 w) (m:t.made.length<=40000000) (d:t.high=0\/(55296<=t.high/\t.high<56320)) (a:t.high≠0↔56320<=y/\y<57344):
 Calls Tryz.prog 184 #[.pointer (some ⟨B,o,none⟩),.int .u8 (c.toNat:Int)] w λe w'=>e=.returned (.tuple #[])/\A7k 0 B o T g v w w' (B9b (A8k t x)):=by
 obtain⟨l,h,r,n,k,s,E⟩:=F;have A:=A6i n;have i:=E2v t.code x r A;rw[<-k]at i;have C:=hid l;have J:=hid (show TrR 0 B o T g v w g v w.drew t from⟨h,A5e.refl _ _,(Fr.refl _ _).drew,λ_ h=>.inl h⟩);obtain⟨b,f,I⟩:=h;have P:=A0a b f.c5;have N:=A0a b f.c6;have L:=A0a b f.c7;have O:=A0b (j:=o+5) b;have M:=A0b (j:=o+6) b;have q:(t.dg:Int)+1=4:=by omega
 have p:=hid (λw=>C5i c w);rw[n]at p;simp only at p;have D:=hid ((J.s6 C.out y).s5 C.out 4);have e:A8k t x=⟨t.st,t.made,t.lack,t.lo,t.hi,4,y,t.high⟩:=by unfold A8k;rw[<-k,<-s]
 have H:=hid (E2u B o T _ v ⟨t.st,t.made,t.lack,t.lo,t.hi,4,y,t.high⟩ _ l D.is m (by show y<65536;omega) d a);rw[e];clear b f I n l A k s r e d a;go_enter Tryz.func184,Tryz.ntmps184
 go_upto_region 0 with fail
 go_cut [14] (λu wc=>wc=(w.setCell ⟨B,o+6,none⟩ (.int .i32 (y:Int))).drew)
 case first=>
  go_region_with (go_at_call 212;refine Calls.mono (p.out _) ?_;rintro e K ⟨rfl,rfl⟩)
  all_goals
   go_wp2;go_meet;rfl
 case rest=>
  subst hcut
  go_wp2_with fail
  refine Calls.mono H.out ?_;rintro e K ⟨rfl,z⟩;have G:=hid (D.trans z);clear z;go_wp2;go_end0;exact⟨rfl,G.out⟩
theorem E2w (B o T:Nat) (a:Array Value) (v:Value) (t:Tr) (k:Nat) (c:UInt8) (w:World) (J:T≠5) (h:C2x 0 w B o T a v t) (f:TrOk t k) (M:k<=10000000) (G:t.st=3):
 Calls Tryz.prog 184 #[.pointer (some ⟨B,o,none⟩),.int .u8 (c.toNat:Int)] w λe w'=>match B7n t c with
  |.ok t'=>e=.returned (.tuple #[])/\A7k 0 B o T a v w w' t'
  |.error n=>e=E0s n/\B7p B o T a v w w':=by
 have C:t.made.length<=40000000:=by have:=f.len;omega
 have j:=f.dg G;have K:=f.codeD G
 have I:t.code<4096:=by
  have:16^t.dg<=16^3:=Nat.pow_le_pow_right (by omega) j;omega
 unfold B7n;cases E:B5v c with
 |none=>
  simp only;exact(G1c B o T a v t c w h E).mono λe w' ⟨h1,h2⟩=>⟨h1,B7p.same h h2⟩
 |some x=>
  simp only;have L:=A6i E;obtain⟨y,H⟩:∃y,y=t.code*16+x:=⟨_,rfl⟩;have D:∀d,d=t.dg+1->DigH B o T a v t c x y d w:=λd hd=>⟨J,h,I,E,H,hd,j⟩
  rw[<-H];have q:t.high=0->((t.high:Int)!=0)=false:=λh=>by rw[h];rfl
  have m:t.high≠0->((t.high:Int)!=0)=true:=λh=>bne_iff_ne.2 (by omega)
  by_cases i:t.dg+1=1
  ·rw[if_pos i]
   by_cases r:t.high≠0/\y≠13
   ·rw[if_pos r]
    exact D4k B o T a v t c x y 1 w (D 1 i.symm) (.inl ⟨rfl,(m r.1),(bne_iff_ne.2 (by omega))⟩)
   ·rw[if_neg r]
    by_cases b:t.high=0
    ·exact C2y B o T a v t c x y 1 w (D 1 i.symm) (.inl ⟨rfl,(q b)⟩)
    ·have l:y=13:=by
      rcases Nat.decEq y 13 with u|u
      ·exact absurd ⟨b,u⟩ r
      ·exact u
     exact C2y B o T a v t c x y 1 w (D 1 i.symm) (.inr (.inl ⟨rfl,(m b),(by rw[l];rfl)⟩))
  rw[if_neg i];by_cases g:t.dg+1=2
  ·rw[if_pos g]
   by_cases b:t.high=0
   ·have A:decide (t.high≠0)=false:=dcF (λh=>h b)
    rw[A];by_cases p:220<=y/\y<224
    ·rw[dcT p,if_pos (by decide)]
     exact D4k B o T a v t c x y 2 w (D 2 g.symm) (.inr (.inl ⟨rfl,(q b),(by omega),(by omega)⟩))
    ·rw[dcF p,if_neg (by decide)]
     by_cases z:y<220
     ·exact C2y B o T a v t c x y 2 w (D 2 g.symm) (.inr (.inr (.inl ⟨rfl,(q b),(by omega)⟩)))
     ·exact C2y B o T a v t c x y 2 w (D 2 g.symm) (.inr (.inr (.inr (.inl ⟨rfl,(q b),(by omega),(by omega)⟩))))
   ·have A:decide (t.high≠0)=true:=dcT b
    rw[A];by_cases p:220<=y/\y<224
    ·rw[dcT p,if_neg (by decide)]
     exact C2y B o T a v t c x y 2 w (D 2 g.symm) (.inr (.inr (.inr (.inr (.inl ⟨rfl,(m b),(by omega),(by omega)⟩)))))
    ·rw[dcF p,if_pos (by decide)]
     by_cases z:y<220
     ·exact D4k B o T a v t c x y 2 w (D 2 g.symm) (.inr (.inr (.inl ⟨rfl,(m b),(by omega)⟩)))
     ·exact D4k B o T a v t c x y 2 w (D 2 g.symm) (.inr (.inr (.inr ⟨rfl,(m b),(by omega),(dcF (by omega))⟩)))
  rw[if_neg g];by_cases F:t.dg+1=4
  ·rw[if_pos F]
   have s:=f.low3 G (by omega);exact G4b B o T a v t c x y w (D 4 F.symm) C f.high (by rw[s];omega)
  ·rw[if_neg F]
   exact C2y B o T a v t c x y 3 w (D 3 (by omega)) (.inr (.inr (.inr (.inr (.inr rfl)))))
theorem B2j (B o T:Nat) (q:Array Value) (v:Value) (t:Tr) (k:Nat) (c:UInt8) (w:World) (x:T≠5) (h:C2x 0 w B o T q v t) (g:TrOk t k) (y:k<=10000000):
 Calls Tryz.prog 137 #[.pointer (some ⟨B,o,none⟩),.int .u8 (c.toNat:Int)] w (F4z B o T q v w (A2q t c)):=by
 have z:=A0a h.1 h.2.1.c0;have H:=hid h;have i:=g.st;unfold A2q;have A:∀(F:Nat) (r:Except Nat Tr),True:=λ_ _=>trivial
 clear A;by_cases j:t.st=1
 ·rw[if_pos j]
  have a:=F0f B o T q v t k c w x h g y j;rw[j]at z;clear j i h;cases hr:E9k t c with
  |error n=>
   rw[hr]at a;have d:=hid a;clear a hr;go_enter Tryz.func137,Tryz.ntmps137
   go_wp2_with fail
   refine Calls.mono d.out ?_;rintro e m ⟨rfl,rfl⟩;exact⟨rfl,rfl,B7p.same H.out (Fr.refl _ _)⟩
  |ok C=>
   rw[hr]at a;have d:=hid a;clear a hr;go_enter Tryz.func137,Tryz.ntmps137
   go_wp2_with fail
   refine Calls.mono d.out ?_;rintro e m ⟨rfl,f⟩;have l:=hid f;clear f;go_wp2;go_ret;exact⟨rfl,l.out⟩
 rw[if_neg j];by_cases p:t.st=2
 ·rw[if_pos p]
  have a:=E2t B o T q v t k c w x h g y;rw[p]at z;clear j p i h;cases hr:B7m t c with
  |error n=>
   rw[hr]at a;have d:=hid a;clear a hr;go_enter Tryz.func137,Tryz.ntmps137
   go_wp2_with fail
   refine Calls.mono d.out ?_;rintro e m ⟨rfl,u⟩;exact⟨rfl,rfl,B7p.same H.out u⟩
  |ok C=>
   rw[hr]at a;have d:=hid a;clear a hr;go_enter Tryz.func137,Tryz.ntmps137
   go_wp2_with fail
   refine Calls.mono d.out ?_;rintro e m ⟨rfl,f⟩;have l:=hid f;clear f;go_wp2;go_ret;exact⟨rfl,l.out⟩
 rw[if_neg p];by_cases s:t.st=3
 ·rw[if_pos s]
  have a:=E2w B o T q v t k c w x h g y s;rw[s]at z;clear j p s i h;cases hr:B7n t c with
  |error n=>
   rw[hr]at a;have d:=hid a;clear a hr;go_enter Tryz.func137,Tryz.ntmps137
   go_wp2_with fail
   refine Calls.mono d.out ?_;rintro e m ⟨rfl,u⟩;exact⟨rfl,rfl,u⟩
  |ok C=>
   rw[hr]at a;have d:=hid a;clear a hr;go_enter Tryz.func137,Tryz.ntmps137
   go_wp2_with fail
   refine Calls.mono d.out ?_;rintro e m ⟨rfl,f⟩;have l:=hid f;clear f;go_wp2;go_ret;exact⟨rfl,l.out⟩
 rw[if_neg s];have D:t.st=0:=by omega
 have a:=D7m B o T q v t k c w x h g y;rw[D]at z;clear j p s D i h;cases hr:A9f t c with
 |error n=>
  rw[hr]at a;have d:=hid a;clear a hr;go_enter Tryz.func137,Tryz.ntmps137
  go_wp2_with fail
  refine Calls.mono d.out ?_;rintro e m ⟨rfl,u⟩;exact⟨rfl,rfl,u⟩
 |ok tb=>
  obtain⟨C,b⟩:=tb;rw[hr]at a;have d:=hid a;clear a hr;go_enter Tryz.func137,Tryz.ntmps137
  go_wp2_with fail
  refine Calls.mono d.out ?_;rintro e m ⟨rfl,f⟩;have l:=hid f;clear f;go_wp2;go_ret;exact⟨rfl,l.out⟩
end Go.Proofs.YtmkkibaacclhnaaGreatDoor
