/-
  Part Pd.
-/
import Derived.Test.YtmkkibaacclhnaaGreatDoorSrb
import Derived.Test.YtmkkibaacclhnaaGreatDoorCde
import Derived.Lib.BitFns
namespace Go.Proofs.YtmkkibaacclhnaaGreatDoor
open Go.RowKit
set_option maxRecDepth 100000
set_option maxHeartbeats 16000000
structure It where
 k:Nat
 n:Nat
 b:Nat
 s:LU8
structure Ps where
 depth:Nat
 came:Nat
 st:Nat
 items:List It
 opn:List Nat
 word:LU8
 tok:Tk
 tx:Tr
def ps0 (depth:Nat):Ps:=⟨depth,0,0,[],[],[],t0,tr0⟩
noncomputable def F7e (D:List Nat) (P:Int):Nat:=open Classical in if h:∃r,A8v D P r then h.choose else 0
theorem E2r {D:List Nat} {P:Int} {r s:Nat} (a:B0m D) (b:D.head? ≠some 0) (c:A8v D P r) (d:A8v D P s):r=s:=(B6a a b c).uniq (B6a a b d)
theorem D4i {D:List Nat} {P:Int} {r:Nat} (b:B0m D) (c:D.head? ≠some 0) (h:A8v D P r):F7e D P=r:=by
 have a:∃r,A8v D P r:=⟨r,h⟩;unfold F7e;rw[dif_pos a];exact E2r b c a.choose_spec h
noncomputable def A3n (t:Tk):Nat×Nat:=open Classical in if A8b t.st then A2z t.neg (F7e t.D t.at)else(0,3)
def A3b (t:Tk):Bool:=decide (7<=t.st)&& !t.pn&&oor t.D t.at
def B2x (c:UInt8):Bool:=decide (c=32\/c=10\/c=13\/c=9)
def bump (items:List It):List Nat->List It
 |[]=>items
 |i::r=>match r with
  |[]=>items.modify i (λx=>⟨x.k,x.n+1,x.b,x.s⟩)
  |_::_=>bump items r
def A2h (s:Ps):Ps:=⟨s.depth,s.came,5,bump s.items s.opn,s.opn,s.word,s.tok,s.tx⟩
def A5d (s:Ps):Ps:=A2h ⟨s.depth,s.came,s.st,s.items,s.opn.dropLast,s.word,s.tok,s.tx⟩
def C2w (s:Ps) (k:Nat) (rest:LU8):Ps:=⟨s.depth,s.came,6,s.items++[⟨k,0,0,[]⟩],s.opn,rest,s.tok,s.tx⟩
def A6b (s:Ps) (k st:Nat):Except Nat Ps:=
 if s.opn.length=s.depth then .error 4 else .ok ⟨s.depth,s.came,st,s.items++[⟨k,0,0,[]⟩],s.opn++[s.items.length],s.word,s.tok,s.tx⟩
def C1m (s:Ps) (st:Nat):Ps:=⟨s.depth,s.came,st,s.items,s.opn,s.word,s.tok,s.tx⟩
def A3c (s:Ps) (c:UInt8):Except Nat Ps:=
 if c=110 then .ok (C2w s 0 [117,108,108])
 else if c=102 then .ok (C2w s 1 [97,108,115,101])
 else if c=116 then .ok (C2w s 2 [114,117,101])
 else if c=34 then .ok (C1m s 9)
 else if c=91 then A6b s 5 1
 else if c=123 then A6b s 6 3
 else match nxt s.tok c with
  |none=>.error 3
  |some t=>.ok ⟨s.depth,s.came,7,s.items,s.opn,s.word,t,s.tx⟩
def C8c (s:Ps):Bool:=match s.opn.getLast? with
 |none=>false
 |some i=>match s.items[i]? with
  |none=>false
  |some x=>decide (x.k=5)
def A4m (s:Ps) (c:UInt8):Except Nat Ps:=
 if C8c s=true/\c=44 then .ok (C1m s 0)
 else if C8c s=false/\c=44 then .ok (C1m s 2)
 else if(C8c s=true/\c=93)\/(C8c s=false/\c=125)then .ok (A5d s)
 else .error 3
def A3f (s:Ps) (c:UInt8):Except Nat Ps:=
 if(s.st=1/\c=93)\/(s.st=3/\c=125)then .ok (A5d s)
 else if s.st=0\/s.st=1 then A3c s c
 else if(s.st=2\/s.st=3)/\c=34 then .ok (C1m s 8)
 else if s.st=4/\c=58 then .ok (C1m s 0)
 else if s.st=5/\s.opn≠[]then A4m s c
 else .error 3
def B3p (s:Ps) (c:UInt8):Except Nat Ps:=if B2x c=true then .ok s else A3f s c
def A6t (s:Ps) (c:UInt8):Except Nat Ps:=
 match s.word with
 |[]=>.error 3
 |x::r=>if c≠x then .error 3 else if r=[]then .ok (A2h ⟨s.depth,s.came,s.st,s.items,s.opn,r,s.tok,s.tx⟩)else .ok ⟨s.depth,s.came,s.st,s.items,s.opn,r,s.tok,s.tx⟩
noncomputable def A2f (s:Ps):Except Nat Ps:=
 if(A3n s.tok).2≠0 then .error (A3n s.tok).2 else .ok (A2h ⟨s.depth,s.came,s.st,s.items++[⟨3,0,(A3n s.tok).1,[]⟩],s.opn,s.word,t0,s.tx⟩)
noncomputable def A6j (s:Ps) (c:UInt8):Except Nat Ps:=
 match nxt s.tok c with
 |some t=>if A3b t=true then .error 6 else .ok ⟨s.depth,s.came,s.st,s.items,s.opn,s.word,t,s.tx⟩
 |none=>match A2f s with
  |.error n=>.error n
  |.ok s'=>B3p s' c
def A5r (s:Ps) (c:UInt8):Except Nat Ps:=
 match A2q s.tx c with
 |.error n=>.error n
 |.ok (t,false)=>.ok ⟨s.depth,s.came,s.st,s.items,s.opn,s.word,s.tok,t⟩
 |.ok (t,true)=>
  if s.st=8 then .ok ⟨s.depth,s.came,4,s.items++[⟨4,0,0,t.made⟩],s.opn,s.word,s.tok,tr0⟩
  else .ok (A2h ⟨s.depth,s.came,s.st,s.items++[⟨4,0,0,t.made⟩],s.opn,s.word,s.tok,tr0⟩)
noncomputable def A1u (s:Ps) (c:UInt8):Except Nat Ps:=
 if s.st=6 then A6t s c
 else if s.st=7 then A6j s c
 else if s.st=8\/s.st=9 then A5r s c
 else B3p s c
def A9y (s:Ps):Ps:=⟨s.depth,s.came+1,s.st,s.items,s.opn,s.word,s.tok,s.tx⟩
noncomputable def A0p (s:Ps):LU8->Except (Nat×Nat) Ps
 |[]=>.ok s
 |c::l=>match A1u s c with
  |.error n=>.error (n,s.came)
  |.ok s'=>A0p (A9y s') l
theorem C8d (s:Ps) (a b:LU8):A0p s (a++b)=match A0p s a with|.error x=>.error x|.ok s'=>A0p s' b:=by
 induction a generalizing s with
 |nil=>rfl
 |cons c a ih=>
  simp only[List.cons_append,A0p];cases A1u s c with
  |error n=>rfl
  |ok s'=>exact ih _
def us (l:LU8):List Value:=l.map (λc=>Value.int .u8 ((c.toNat:Nat):Int))
theorem A0k {c d:UInt8} (h:c≠d):c.toNat≠d.toNat:=λe=>h (UInt8.toNat_inj.1 e)
theorem B9n (a b:LU8):us (a++b)=us a++us b:=by simp[us]
def E0s (n:Nat):Ending:=.panicked [{v:=.iface 153 (.agg #[.int .i64 (n:Int)]),recovered:=false}]
theorem B9p (c:UInt8) (w:World):Calls Tryz.prog 211 #[.int .u8 (c.toNat:Int)] w λe w'=>(match C4r c with|some x=>e=.returned (.int .u8 (x.toNat:Int))|none=>e=E0s 3)/\w'=w:=by
 by_cases g:c=34
 ·subst g
  show Calls Tryz.prog 211 #[.int .u8 (34:Int)] w λe w'=>e=.returned (.int .u8 (34:Int))/\w'=w
  go_enter Tryz.func211,Tryz.ntmps211;go_wp2;go_ret;exact⟨rfl,rfl⟩
 have p:((c.toNat:Int)==34)=false:=bqF (by have:=A0k g;simp at this;omega);by_cases i:c=92
 ·subst i
  show Calls Tryz.prog 211 #[.int .u8 (92:Int)] w λe w'=>e=.returned (.int .u8 (92:Int))/\w'=w
  go_enter Tryz.func211,Tryz.ntmps211;go_wp2;go_ret;exact⟨rfl,rfl⟩
 have r:((c.toNat:Int)==92)=false:=bqF (by have:=A0k i;simp at this;omega);by_cases h:c=47
 ·subst h
  show Calls Tryz.prog 211 #[.int .u8 (47:Int)] w λe w'=>e=.returned (.int .u8 (47:Int))/\w'=w
  go_enter Tryz.func211,Tryz.ntmps211;go_wp2;go_ret;exact⟨rfl,rfl⟩
 have q:((c.toNat:Int)==47)=false:=bqF (by have:=A0k h;simp at this;omega);by_cases j:c=98
 ·subst j
  show Calls Tryz.prog 211 #[.int .u8 (98:Int)] w λe w'=>e=.returned (.int .u8 (8:Int))/\w'=w
  go_enter Tryz.func211,Tryz.ntmps211;go_wp2;go_ret;exact⟨rfl,rfl⟩
 have s:((c.toNat:Int)==98)=false:=bqF (by have:=A0k j;simp at this;omega);by_cases a:c=102
 ·subst a
  show Calls Tryz.prog 211 #[.int .u8 (102:Int)] w λe w'=>e=.returned (.int .u8 (12:Int))/\w'=w
  go_enter Tryz.func211,Tryz.ntmps211;go_wp2;go_ret;exact⟨rfl,rfl⟩
 have l:((c.toNat:Int)==102)=false:=bqF (by have:=A0k a;simp at this;omega);by_cases b:c=110
 ·subst b
  show Calls Tryz.prog 211 #[.int .u8 (110:Int)] w λe w'=>e=.returned (.int .u8 (10:Int))/\w'=w
  go_enter Tryz.func211,Tryz.ntmps211;go_wp2;go_ret;exact⟨rfl,rfl⟩
 have m:((c.toNat:Int)==110)=false:=bqF (by have:=A0k b;simp at this;omega);by_cases d:c=114
 ·subst d
  show Calls Tryz.prog 211 #[.int .u8 (114:Int)] w λe w'=>e=.returned (.int .u8 (13:Int))/\w'=w
  go_enter Tryz.func211,Tryz.ntmps211;go_wp2;go_ret;exact⟨rfl,rfl⟩
 have n:((c.toNat:Int)==114)=false:=bqF (by have:=A0k d;simp at this;omega);by_cases f:c=116
 ·subst f
  show Calls Tryz.prog 211 #[.int .u8 (116:Int)] w λe w'=>e=.returned (.int .u8 (9:Int))/\w'=w
  go_enter Tryz.func211,Tryz.ntmps211;go_wp2;go_ret;exact⟨rfl,rfl⟩
 have o:((c.toNat:Int)==116)=false:=bqF (by have:=A0k f;simp at this;omega);have k:C4r c=none:=by simp[C4r,g,i,h,j,a,b,d,f]
 rw[k];clear k g i h j a b d f;go_enter Tryz.func211,Tryz.ntmps211;go_wp2;exact⟨rfl,rfl,rfl⟩
theorem C5i (c:UInt8) (w:World):Calls Tryz.prog 212 #[.int .u8 (c.toNat:Int)] w λe w'=>(match B5v c with|some x=>e=.returned (.int .i32 (x:Int))|none=>e=E0s 3)/\w'=w:=by
 have j:c.toNat<256:=c.toNat_lt;unfold B5v;generalize c.toNat=n at*;by_cases d:48<=n/\n<=57
 ·rw[if_pos d]
  obtain⟨a,b⟩:=d;go_enter Tryz.func212,Tryz.ntmps212;go_wp2;go_ret;exact⟨by simp only;go_num,rfl⟩
 rw[if_neg d];by_cases f:97<=n/\n<=102
 ·rw[if_pos f]
  obtain⟨a,b⟩:=f;clear d;go_enter Tryz.func212,Tryz.ntmps212;go_wp2;go_ret;exact⟨by simp only;go_num,rfl⟩
 rw[if_neg f];by_cases g:65<=n/\n<=70
 ·rw[if_pos g]
  obtain⟨a,b⟩:=g;clear d f;go_enter Tryz.func212,Tryz.ntmps212;go_wp2;go_ret;exact⟨by simp only;go_num,rfl⟩
 rw[if_neg g];have i:n<48\/(57<n/\n<65)\/(70<n/\n<97)\/102<n:=by omega
 clear d f g;rcases i with h|⟨h,k⟩|⟨h,k⟩|h
 all_goals
  go_enter Tryz.func212,Tryz.ntmps212;go_wp2;exact⟨rfl,rfl,rfl⟩
theorem A3j {n:Nat} (h:n<256):((UInt8.ofNat n).toNat:Int)=(n:Int):=by rw[UInt8.toNat_ofNat_of_lt' h]
theorem B2i {v b:Value} {l e:LU8} {w c:World} {o:Obj} {k:Nat} {xs:List Value} (a:c.ownsRow 0 5 1 b (l.length+k) (us l++xs)) (m:us e=xs) (d:e.length=k) (f:(w.alloc o).grownBy c v.ownBlock) (j:∀g',b.ownBlock=some g'->v.ownBlock=some g'\/w.heap.size+1<=g'):
 c.ownsRow 0 5 1 b (l++e).length (us (l++e))/\Fr (λi=>v.ownBlock=some i) w c/\(∀g',b.ownBlock=some g'->v.ownBlock=some g'\/w.heap.size<=g'):=by
 subst m;subst d;rw[B9n,List.length_append];exact⟨a,((Fr.refl _ w).alloc _).grown f (λk d=>.inl d),λg hg'=>(j g hg').imp id (λh=>by omega)⟩
theorem G0u (v:Value) (l:LU8) (r:Nat) (w:World) (t:w.ownsRow 0 5 1 v l.length (us l)) (F:l.length<=100000000000) (A:0<=r) (p:r<128):
 Calls Tryz.prog 172 #[v,.int .i32 (r:Int)] w λe w'=>∃g,e=.returned g/\w'.ownsRow 0 5 1 g (l++A3z r).length (us (l++A3z r))/\Fr (λi=>v.ownBlock=some i) w w'/\(∀g',g.ownBlock=some g'->v.ownBlock=some g'\/w.heap.size<=g'):=by
 have h:A3z r=[UInt8.ofNat r]:=by unfold A3z;rw[if_pos p]
 have k:us (A3z r)=[.int .u8 (r:Int)]:=by
  rw[h];simp only[us,List.map_cons,List.map_nil];rw[A3j (by omega)]
 have s:(A3z r).length=1:=by rw[h];rfl
 obtain⟨R,q⟩:∃R:Int,(r:Int)=R:=⟨_,rfl⟩;rw[q]at k ⊢;have z:=hid k;have y:=hid s;have D:0<=R:=by omega
 have E:R<128:=by omega
 clear h k s A p q;obtain⟨C,B,m,n,o⟩:=info_parts Tryz.info5;go_enter Tryz.func172,Tryz.ntmps172
 go_wp2_with (first
  |(at_builtin;refine A0g _ rfl _ _ 65 rfl 5 C (.int .u8 0) 1 1 Tryz.underlying65 B m n o rfl (by decide) _ _ _ rfl (t.alloc _) ⟨w.heap.size,0,none⟩ 1 1 [.int .u8 R] rfl rfl ?c1 ?c2 ?c3 ?c4 ?_)
  |go_in)
 case c1=>
  intro j u d
  match j,d with
  |0,d=>simp at d;subst d;simp[Addr.add]
  |(j+1),d=>simp at d
 case c2=>intro u x;simp at x;rcases x with rfl<;>rfl
 case c3=>unfold maxLen;omega
 case c4=>omega
 intro g G b a c;have f:=hid (B2i b z.out y.out a c);clear b a c t;go_wp2;go_ret;exact⟨_,rfl,f.out⟩
theorem G0v (v:Value) (l:LU8) (r:Nat) (w:World) (t:w.ownsRow 0 5 1 v l.length (us l)) (F:l.length<=100000000000) (A:128<=r) (p:r<2048):
 Calls Tryz.prog 172 #[v,.int .i32 (r:Int)] w λe w'=>∃g,e=.returned g/\w'.ownsRow 0 5 1 g (l++A3z r).length (us (l++A3z r))/\Fr (λi=>v.ownBlock=some i) w w'/\(∀g',g.ownBlock=some g'->v.ownBlock=some g'\/w.heap.size<=g'):=by
 have h:A3z r=[UInt8.ofNat (192+r/64),UInt8.ofNat (128+r % 64)]:=by unfold A3z;rw[if_neg (show¬r<128 by omega),if_pos p]
 have k:us (A3z r)=[.int .u8 (192+(r:Int)/64),.int .u8 (128+(r:Int) % 64)]:=by
  rw[h];simp only[us,List.map_cons,List.map_nil];rw[A3j (by omega),A3j (by omega)];simp only[Int.natCast_add,Int.natCast_ediv,Int.natCast_emod];rfl
 have s:(A3z r).length=2:=by rw[h];rfl
 obtain⟨R,q⟩:∃R:Int,(r:Int)=R:=⟨_,rfl⟩;rw[q]at k ⊢;have z:=hid k;have y:=hid s;have D:128<=R:=by omega
 have E:R<2048:=by omega
 clear h k s A p q;obtain⟨C,B,m,n,o⟩:=info_parts Tryz.info5;go_enter Tryz.func172,Tryz.ntmps172
 go_wp2_with (first
  |(at_builtin;refine A0g _ rfl _ _ 65 rfl 5 C (.int .u8 0) 1 1 Tryz.underlying65 B m n o rfl (by decide) _ _ _ rfl (t.alloc _) ⟨w.heap.size,0,none⟩ 2 2 [.int .u8 (192+R/64),.int .u8 (128+R % 64)] rfl rfl ?c1 ?c2 ?c3 ?c4 ?_)
  |go_in)
 case c1=>
  intro j u c
  match j,c with
  |0,c=>simp at c;subst c;simp[Addr.add]
  |1,c=>simp at c;subst c;simp[Addr.add]
  |(j+2),c=>simp at c
 case c2=>intro u x;simp at x;rcases x with rfl|rfl<;>rfl
 case c3=>unfold maxLen;omega
 case c4=>omega
 intro g G b a d;have f:=hid (B2i b z.out y.out a d);clear b a d t;go_wp2;go_ret;exact⟨_,rfl,f.out⟩
theorem G0w (v:Value) (l:LU8) (r:Nat) (w:World) (s:w.ownsRow 0 5 1 v l.length (us l)) (F:l.length<=100000000000) (z:2048<=r) (A:r<55296):
 Calls Tryz.prog 172 #[v,.int .i32 (r:Int)] w λe w'=>∃g,e=.returned g/\w'.ownsRow 0 5 1 g (l++A3z r).length (us (l++A3z r))/\Fr (λi=>v.ownBlock=some i) w w'/\(∀g',g.ownBlock=some g'->v.ownBlock=some g'\/w.heap.size<=g'):=by
 have h:A3z r=[UInt8.ofNat (224+r/4096),UInt8.ofNat (128+r/64 % 64),UInt8.ofNat (128+r % 64)]:=by unfold A3z;rw[if_neg (show¬r<128 by omega),if_neg (show¬r<2048 by omega),if_pos (show r<65536 by omega)]
 have k:us (A3z r)=[.int .u8 (224+(r:Int)/4096),.int .u8 (128+(r:Int)/64 % 64),.int .u8 (128+(r:Int) % 64)]:=by
  rw[h];simp only[us,List.map_cons,List.map_nil];rw[A3j (by omega),A3j (by omega),A3j (by omega)];simp only[Int.natCast_add,Int.natCast_ediv,Int.natCast_emod];rfl
 have q:(A3z r).length=3:=by rw[h];rfl
 obtain⟨R,p⟩:∃R:Int,(r:Int)=R:=⟨_,rfl⟩;rw[p]at k ⊢;have y:=hid k;have x:=hid q;have D:2048<=R:=by omega
 have E:R<55296:=by omega
 clear h k q z A p;obtain⟨C,B,m,n,o⟩:=info_parts Tryz.info5;go_enter Tryz.func172,Tryz.ntmps172
 go_wp2_with (first
  |(at_builtin;refine A0g _ rfl _ _ 65 rfl 5 C (.int .u8 0) 1 1 Tryz.underlying65 B m n o rfl (by decide) _ _ _ rfl (s.alloc _) ⟨w.heap.size,0,none⟩ 3 3 [.int .u8 (224+R/4096),.int .u8 (128+R/64 % 64),.int .u8 (128+R % 64)] rfl rfl ?c1 ?c2 ?c3 ?c4 ?_)
  |go_in)
 case c1=>
  intro j u a
  match j,a with
  |0,a=>simp at a;subst a;simp[Addr.add]
  |1,a=>simp at a;subst a;simp[Addr.add]
  |2,a=>simp at a;subst a;simp[Addr.add]
  |(j+3),a=>simp at a
 case c2=>intro u t;simp at t;rcases t with rfl|rfl|rfl<;>rfl
 case c3=>unfold maxLen;omega
 case c4=>omega
 intro g G c b d;have f:=hid (B2i c y.out x.out b d);clear c b d s;go_wp2;go_ret;exact⟨_,rfl,f.out⟩
theorem G0x (v:Value) (l:LU8) (r:Nat) (w:World) (t:w.ownsRow 0 5 1 v l.length (us l)) (F:l.length<=100000000000) (A:57344<=r) (p:r<65536):
 Calls Tryz.prog 172 #[v,.int .i32 (r:Int)] w λe w'=>∃g,e=.returned g/\w'.ownsRow 0 5 1 g (l++A3z r).length (us (l++A3z r))/\Fr (λi=>v.ownBlock=some i) w w'/\(∀g',g.ownBlock=some g'->v.ownBlock=some g'\/w.heap.size<=g'):=by
 have h:A3z r=[UInt8.ofNat (224+r/4096),UInt8.ofNat (128+r/64 % 64),UInt8.ofNat (128+r % 64)]:=by unfold A3z;rw[if_neg (show¬r<128 by omega),if_neg (show¬r<2048 by omega),if_pos p]
 have k:us (A3z r)=[.int .u8 (224+(r:Int)/4096),.int .u8 (128+(r:Int)/64 % 64),.int .u8 (128+(r:Int) % 64)]:=by
  rw[h];simp only[us,List.map_cons,List.map_nil];rw[A3j (by omega),A3j (by omega),A3j (by omega)];simp only[Int.natCast_add,Int.natCast_ediv,Int.natCast_emod];rfl
 have s:(A3z r).length=3:=by rw[h];rfl
 obtain⟨R,q⟩:∃R:Int,(r:Int)=R:=⟨_,rfl⟩;rw[q]at k ⊢;have z:=hid k;have y:=hid s;have D:57344<=R:=by omega
 have E:R<65536:=by omega
 clear h k s A p q;obtain⟨C,B,m,n,o⟩:=info_parts Tryz.info5;go_enter Tryz.func172,Tryz.ntmps172
 go_wp2_with (first
  |(at_builtin;refine A0g _ rfl _ _ 65 rfl 5 C (.int .u8 0) 1 1 Tryz.underlying65 B m n o rfl (by decide) _ _ _ rfl (t.alloc _) ⟨w.heap.size,0,none⟩ 3 3 [.int .u8 (224+R/4096),.int .u8 (128+R/64 % 64),.int .u8 (128+R % 64)] rfl rfl ?c1 ?c2 ?c3 ?c4 ?_)
  |go_in)
 case c1=>
  intro j u a
  match j,a with
  |0,a=>simp at a;subst a;simp[Addr.add]
  |1,a=>simp at a;subst a;simp[Addr.add]
  |2,a=>simp at a;subst a;simp[Addr.add]
  |(j+3),a=>simp at a
 case c2=>intro u x;simp at x;rcases x with rfl|rfl|rfl<;>rfl
 case c3=>unfold maxLen;omega
 case c4=>omega
 intro g G c b d;have f:=hid (B2i c z.out y.out b d);clear c b d t;go_wp2;go_ret;exact⟨_,rfl,f.out⟩
theorem G0y (v:Value) (l:LU8) (r:Nat) (w:World) (s:w.ownsRow 0 5 1 v l.length (us l)) (F:l.length<=100000000000) (z:65536<=r) (A:r<=1114111):
 Calls Tryz.prog 172 #[v,.int .i32 (r:Int)] w λe w'=>∃g,e=.returned g/\w'.ownsRow 0 5 1 g (l++A3z r).length (us (l++A3z r))/\Fr (λi=>v.ownBlock=some i) w w'/\(∀g',g.ownBlock=some g'->v.ownBlock=some g'\/w.heap.size<=g'):=by
 have h:A3z r=[UInt8.ofNat (240+r/262144),UInt8.ofNat (128+r/4096 % 64),UInt8.ofNat (128+r/64 % 64),UInt8.ofNat (128+r % 64)]:=by unfold A3z;rw[if_neg (show¬r<128 by omega),if_neg (show¬r<2048 by omega),if_neg (show¬r<65536 by omega)]
 have k:us (A3z r)=[.int .u8 (240+(r:Int)/262144),.int .u8 (128+(r:Int)/4096 % 64),.int .u8 (128+(r:Int)/64 % 64),.int .u8 (128+(r:Int) % 64)]:=by
  rw[h];simp only[us,List.map_cons,List.map_nil];rw[A3j (by omega),A3j (by omega),A3j (by omega),A3j (by omega)];simp only[Int.natCast_add,Int.natCast_ediv,Int.natCast_emod];rfl
 have q:(A3z r).length=4:=by rw[h];rfl
 obtain⟨R,p⟩:∃R:Int,(r:Int)=R:=⟨_,rfl⟩;rw[p]at k ⊢;have y:=hid k;have x:=hid q;have D:65536<=R:=by omega
 have E:R<=1114111:=by omega
 clear h k q z A p;obtain⟨C,B,m,n,o⟩:=info_parts Tryz.info5;go_enter Tryz.func172,Tryz.ntmps172
 go_wp2_with (first
  |(at_builtin;refine A0g _ rfl _ _ 65 rfl 5 C (.int .u8 0) 1 1 Tryz.underlying65 B m n o rfl (by decide) _ _ _ rfl (s.alloc _) ⟨w.heap.size,0,none⟩ 4 4 [.int .u8 (240+R/262144),.int .u8 (128+R/4096 % 64),.int .u8 (128+R/64 % 64),.int .u8 (128+R % 64)] rfl rfl ?c1 ?c2 ?c3 ?c4 ?_)
  |go_in)
 case c1=>
  intro j u a
  match j,a with
  |0,a=>simp at a;subst a;simp[Addr.add]
  |1,a=>simp at a;subst a;simp[Addr.add]
  |2,a=>simp at a;subst a;simp[Addr.add]
  |3,a=>simp at a;subst a;simp[Addr.add]
  |(j+4),a=>simp at a
 case c2=>intro u t;simp at t;rcases t with rfl|rfl|rfl|rfl<;>rfl
 case c3=>unfold maxLen;omega
 case c4=>omega
 intro g G c b d;have f:=hid (B2i c y.out x.out b d);clear c b d s;go_wp2;go_ret;exact⟨_,rfl,f.out⟩
theorem C5j (v:Value) (l:LU8) (r:Nat) (w:World) (b:w.ownsRow 0 5 1 v l.length (us l)) (a:l.length<=100000000000) (hr:r<55296\/(57344<=r/\r<=1114111)):
 Calls Tryz.prog 172 #[v,.int .i32 (r:Int)] w λe w'=>∃v',e=.returned v'/\w'.ownsRow 0 5 1 v' (l++A3z r).length (us (l++A3z r))/\Fr (λi=>v.ownBlock=some i) w w'/\(∀g',v'.ownBlock=some g'->v.ownBlock=some g'\/w.heap.size<=g'):=by
 by_cases c:r<128
 ·exact G0u v l r w b a (Nat.zero_le _) c
 by_cases d:r<2048
 ·exact G0v v l r w b a (by omega) d
 by_cases f:r<55296
 ·exact G0w v l r w b a (by omega) f
 by_cases g:r<65536
 ·exact G0x v l r w b a (by omega) g
 ·exact G0y v l r w b a (by omega) (by omega)
end Go.Proofs.YtmkkibaacclhnaaGreatDoor
