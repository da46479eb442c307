/-
  Part Vb.
-/
import Derived.Test.YtmkkibaacclhnaaGreatDoorVs
import Derived.Lib.UnsafeStr
import Derived.Test.YtmkkibaacclhnaaGreatDoorVj
namespace Go.Proofs.YtmkkibaacclhnaaGreatDoor
open Go.RowKit
set_option maxRecDepth 100000
set_option maxHeartbeats 32000000
theorem Fr.freeze {S:Nat->Prop} {a w:World} (h:Fr S a w) {p:Addr} (b:S p.block\/a.heap.size<=p.block) (n:Nat):Fr S a (w.freeze p n):=by
 unfold World.freeze;split
 ·exact h
 ·refine⟨h.os,h.tape,h.output,by simpa using h.size,λk hk hs=>?_⟩
  simp only[Array.getElem?_modify]
  rw[if_neg (by rintro rfl;rcases b with b|b
                ·exact hs b
                ·omega)]
  exact h.block k hk hs
theorem D0j (l:LU8) (j:Nat) (x:UInt8) (h:l[j]? =some x):(us l)[j]? =some (.int .u8 (x.toNat:Int)):=by
 unfold us;rw[List.getElem?_map,h];rfl
theorem Tryz.cells5B:Tryz.prog.cellsOf 5=1:=by kernel_rfl
theorem D9p (B:Nat) (w:World) (v u:Value) (s c:Int) (so:Bool) (t:Nat) (n m:Value) (bs:LU8) (h:WAt B w v u s c so t n m bs) (o:bs≠[]) (I:bs.length<=100000000000):
 Calls Tryz.prog 27 #[.pointer (some ⟨B,6,none⟩)] w λe w'=>e=.returned (.string (ofL bs))/\Fr (λi=>m.ownBlock=some i) w w':=by
 have l:bs.length≠0:=by simpa using o
 obtain⟨g,cap,a,rfl,C,q,D,d,f,b⟩:∃g cap a,m=.slice (some ⟨g,0,none⟩) bs.length cap/\0<=g/\w.heap[g]? =some (.cells a 5 (0,0))/\bs.length<=cap/\cap<=maxLen/\a.size=cap*1/\a.toList.take (bs.length*1)=us bs:=by
  rcases h.row.2 with⟨_,G⟩|⟨g,cap,a,E,r⟩
  ·exact absurd G l
  ·exact⟨g,cap,a,E,r⟩
 have H:=A0a h.blk (show(A9k v u s c so t n (.slice (some ⟨g,0,none⟩) bs.length cap))[7]? =some (.slice (some ⟨g,0,none⟩) bs.length cap)from rfl)
 have z:(Builtin.unsafeSliceData_ #[65] 105 #[.slice (some ⟨g,0,none⟩) bs.length cap]).run Tryz.prog w.drew=.ok (.pointer (some ⟨g,0,none⟩)) w.drew:=
  Lib.run_unsafeSliceData_row _ _ _ _ _ _ (by omega)
 have A:(Builtin.unsafeString_ #[105,3] 9 #[.pointer (some ⟨g,0,none⟩),.int .i64 bs.length]).run Tryz.prog w.drew=.ok (.string ⟨bs.toArray⟩) (w.drew.freeze ⟨g,0,none⟩ bs.length):=by
  refine Lib.run_unsafeString_row w.drew 105 3 9 5 Tryz.underlying105 Tryz.cells5B g a.size (by have k:w.drew.heap[g]? =some (.cells a 5 (0,0)):=q;simp[World.shape?,k]) bs o (by omega) (by unfold maxLen at d;omega) ?_;intro j x F;have:=h.row.cells (g:=g) rfl j (.int .u8 x.toNat) (D0j bs j x F);exact this
 have y:=hid (((Fr.refl (λi=>(Value.slice (some ⟨g,0,none⟩) bs.length cap).ownBlock=some i) w).drew).freeze (p:=⟨g,0,none⟩) (.inl rfl) bs.length);have mixed:=Tryz.mixedR;clear h q f b;go_enter Tryz.func27,Tryz.ntmps27;go_wp2;go_region
 all_goals (go_wp2;go_ret;exact⟨rfl,y.out⟩)
theorem E6s (w:World) (l:Addr) (cap inn:Nat) (x:Im) (r:List Im) (indent:Int) (so:Bool) (h:LR w (some l) (x::r)) (p:x.s.length<=100000000) (y:x.k<5) (d:A0z x=true) (m:x.b<18446744073709551616):
 Calls Tryz.prog 47 #[.slice (some l) (r.length+1) cap,.int .i64 indent,.bool so,.int .i64 (inn:Int)] w λe w'=>e=.returned (.string (ofL (B3v x)))/\Fr (λ_=>False) w w':=by
 obtain⟨q,t,u,v⟩:=h.at0;have i:=hid (λo=>(Fr.refl (λ_=>False) w).alloc o);have z:(0:Int)<(r.length:Int)+1:=by omega
 have a:=B5h d
 have f:x.k=0\/x.k=1\/x.k=2\/x.k=3\/x.k=4:=by
  unfold A0z at d;split at d
  ·omega
  split at d
  ·omega
  split at d
  ·omega
  ·rw[if_neg (by omega)]at d;cases d
 obtain⟨k,n,b,s⟩:=x;simp only at q t u v p a f m;generalize r.length=rl at*;clear h d y;rcases f with rfl|rfl|rfl|rfl|rfl
 ·go_enter Tryz.func47,Tryz.ntmps47
  go_wp2;go_ret;exact⟨rfl,i.out _⟩
 ·go_enter Tryz.func47,Tryz.ntmps47
  go_wp2;go_ret;exact⟨rfl,i.out _⟩
 ·go_enter Tryz.func47,Tryz.ntmps47
  go_wp2;go_ret;exact⟨rfl,i.out _⟩
 ·have j:=hid (λw=>F2n b w m (a rfl))
  rw[show B3v ⟨3,n,b,s⟩=A9p b from rfl];generalize A9p b=T at*;clear a;go_enter Tryz.func47,Tryz.ntmps47
  go_wp2_with fail
  refine Calls.mono (j.out _) ?_;rintro e A ⟨rfl,c⟩;have g:=hid ((i.out _).trans c);clear c;go_wp2;go_ret;exact⟨rfl,g.out⟩
 ·have j:=hid (λw=>C3k s w p)
  rw[show B3v ⟨4,n,b,s⟩=A3g s from rfl];generalize A3g s=T at*;clear a;go_enter Tryz.func47,Tryz.ntmps47
  go_wp2_with fail
  refine Calls.mono (j.out _) ?_;rintro e A ⟨rfl,c⟩;have g:=hid ((i.out _).trans c);clear c;go_wp2;go_ret;exact⟨rfl,g.out⟩
theorem D0k (indent:Int) (inn:Nat) (w:World) (l:indent<=16) (i:inn<=1001):
 Calls Tryz.prog 80 #[.int .i64 indent,.int .i64 (inn:Int)] w λe w'=>e=.returned (.string (ofL (A6p indent inn)))/\w'=w:=by
 unfold A6p;by_cases h:indent<0
 ·rw[if_pos h]
  go_enter Tryz.func80,Tryz.ntmps80;go_wp2;go_ret;exact⟨rfl,rfl⟩
 ·rw[if_neg h]
  obtain⟨n,rfl⟩:∃n:Nat,indent=(n:Int):=⟨indent.toNat,by omega⟩;rw[Int.toNat_natCast];have r:¬((n:Int)<0):=by omega
  obtain⟨T,c⟩:∃T,n*inn=T:=⟨_,rfl⟩;have f:(n:Int)*(inn:Int)=(T:Int):=by rw[<-c];simp
  have o:T<=17000:=by rw[<-c];exact Nat.le_trans (Nat.mul_le_mul (show n<=16 by omega) i) (by omega)
  have y:IntKind.i64.wrap ((n:Int)*(inn:Int))=(T:Int):=by rw[f];exact IntWalk.i64_in _ (by omega)
  rw[c];have m:(⟨#[10]⟩:ByteArray)=ofL [10]:=rfl;clear c l i h;go_enter Tryz.func80,Tryz.ntmps80;go_wp2
  go_loopw [5,6] (λs t wr=>∃k:Nat,k<=T/\s=.string (ofL (10::List.replicate k 32))/\t=.int .i64 (k:Int)/\wr=w) (λ_ t _=>T-(intOf t).toNat)
  case atStart=>exact⟨0,by omega,rfl,rfl,rfl⟩
  case round=>
   obtain⟨k,x,rfl,rfl,rfl⟩:=hrel;by_cases q:k<T
   ·have b:ofL (10::List.replicate k 32)++(⟨#[32]⟩:ByteArray)=ofL (10::List.replicate (k+1) 32):=by
     rw[show(⟨#[32]⟩:ByteArray)=ofL [32]from rfl,A0j];congr 1;rw[List.replicate_succ'];rfl
    have v:(ofL (10::List.replicate k 32)).size=k+1:=by rw[A0c];simp
    have j:(⟨#[32]⟩:ByteArray).size=1:=rfl;generalize ofL (10::List.replicate k 32)=S at*;obtain⟨g,a⟩:∃g,ofL (10::List.replicate (k+1) 32)=g:=⟨_,rfl⟩;rw[a]at b;have d:=hid a;clear a;have p:(k:Int)<(T:Int):=by omega
    go_wp2;go_roundw
    case rel=>exact⟨k+1,by omega,by rw[d.out],by go_num,by trivial⟩
    case measure=>simp[intOf];omega
   ·obtain rfl:k=T:=by omega
    have u:¬((k:Int)<(k:Int)):=by omega
    go_wp2;go_ret;exact⟨rfl,rfl⟩
structure InvW (d:Nat) (indent:Int) (so obj:Bool) (N:Nat) (l:List Im) (F:List KT) (i a:Nat) (cur:List KT):Prop where
 m:∃m,A0m (A0i d) obj (N-i) (l.drop a)=some m
 f:(A7m (A0i d) (wrD indent so d) indent obj (N-i) (l.drop a)).foldl (B2z (so&&obj)) cur=F
 n:cur.length=i
theorem E6t (so:Bool) (L:List KT) (p:KT):(B2z so L p).length=L.length+1:=by
 unfold B2z;have h:=B8j (L.map (·.1)) p.1 L.length;simp only[List.length_append,List.length_take,List.length_drop,List.length_singleton];split<;>omega
theorem InvW.totle {d:Nat} {indent:Int} {so c:Bool} {N:Nat} {l:List Im} {F:List KT} {i a:Nat} {b:List KT} (h:InvW d indent so c N l F i a b):tot b<=tot F:=by
 rw[<-h.f,C6r];omega
theorem D3f {L:List KT} {p:KT} (h:p∈L):p.2.length<=tot L:=by
 induction L with
 |nil=>cases h
 |cons q L ih=>
  rw[B2s];rcases List.mem_cons.1 h with rfl|h
  ·omega
  ·have:=ih h;omega
theorem InvW.arr {d:Nat} {indent:Int} {so:Bool} {N:Nat} {l:List Im} {F:List KT} {i a:Nat} {b:List KT} (h:InvW d indent so false N l F i a b) (u:i<N):
 ∃n1,0<n1/\A0i d (l.drop a)=n1/\a+n1<=l.length/\a<l.length/\(wrD indent so d (l.drop a)).length<=tot F/\InvW d indent so false N l F (i+1) (a+n1) (b++[([],wrD indent so d (l.drop a))]):=by
 obtain⟨c,s⟩:∃c,N-i=c+1:=⟨N-i-1,by omega⟩;obtain⟨m,g⟩:=h.m;have e:=h.f;rw[s]at g e;simp only[A0m,A7m,Bool.false_eq_true,if_false,List.foldl_cons]at g e;split at g
 ·cases g
 ·rename_i h0
  obtain⟨t,o,rfl⟩:=Option.map_eq_some_iff.1 g;rw[List.drop_drop]at o e;have j:=A5w d (l.drop a);rw[List.length_drop]at j;have k:B2z (so&&false) b ([],wrD indent so d (l.drop a))=b++[([],wrD indent so d (l.drop a))]:=by simp[B2z]
  rw[k]at e
  have q:InvW d indent so false N l F (i+1) (a+A0i d (l.drop a)) (b++[([],wrD indent so d (l.drop a))]):=by
   refine⟨⟨t,?_⟩,?_,by simp[h.n]⟩
   ·rw[show N-(i+1)=c by omega];exact o
   ·rw[show N-(i+1)=c by omega];exact e
  refine⟨A0i d (l.drop a),by omega,rfl,by omega,by omega,?_,q⟩;have:=q.totle;have r:=D3f (L:=b++[(([]:LU8),wrD indent so d (l.drop a))]) (p:=([],wrD indent so d (l.drop a))) (by simp);simp only at r;omega
theorem InvW.obj {d:Nat} {indent:Int} {so:Bool} {N:Nat} {l:List Im} {F:List KT} {i a:Nat} {e:List KT} (h:InvW d indent so true N l F i a e) (z:i<N):
 ∃y n1,0<n1/\l[a]? =some y/\A0i d (l.drop (a+1))=n1/\a+1+n1<=l.length/\(A7h indent y.s++wrD indent so d (l.drop (a+1))).length<=tot F/\InvW d indent so true N l F (i+1) (a+1+n1) (B2z so e (y.s,A7h indent y.s++wrD indent so d (l.drop (a+1)))):=by
 obtain⟨c,v⟩:∃c,N-i=c+1:=⟨N-i-1,by omega⟩;obtain⟨m,b⟩:=h.m;have j:=h.f;rw[v]at b j;cases k:l.drop a with
 |nil=>rw[k]at b;simp[A0m]at b
 |cons y r=>
  have g:a<l.length:=by
   by_cases w:a<l.length
   ·exact w
   ·rw[List.drop_eq_nil_of_le (by omega)]at k;cases k
  rw[List.drop_eq_getElem_cons g]at k;injection k with hy hr
  have p:l[a]? =some y:=by rw[List.getElem?_eq_getElem g,hy]
  rw[List.drop_eq_getElem_cons g,hy]at b j;simp only[A0m,A7m,if_true,List.foldl_cons]at b j;split at b
  ·split at b
   ·cases b
   ·rename_i h0
    obtain⟨x,q,rfl⟩:=Option.map_eq_some_iff.1 b;rw[List.drop_drop]at q j;have o:=A5w d (l.drop (a+1));rw[List.length_drop]at o;rw[Bool.and_true]at j
    have u:InvW d indent so true N l F (i+1) (a+1+A0i d (l.drop (a+1))) (B2z so e (y.s,A7h indent y.s++wrD indent so d (l.drop (a+1)))):=by
     refine⟨⟨x,?_⟩,?_,by rw[E6t,h.n]⟩
     ·rw[show N-(i+1)=c by omega];exact q
     ·rw[show N-(i+1)=c by omega,Bool.and_true];exact j
    refine⟨y,A0i d (l.drop (a+1)),by omega,p,rfl,by omega,?_,u⟩;have t:=u.totle;rw[D5m]at t;simp only at t;omega
  ·cases b
theorem InvW.done {d:Nat} {indent:Int} {so c:Bool} {N:Nat} {l:List Im} {F:List KT} {a:Nat} {b:List KT} (h:InvW d indent so c N l F N a b):b=F:=by
 have:=h.f;rw[Nat.sub_self]at this;exact this
def G4p (d:Nat):Prop:=∀(w:World) (pa:Option Addr) (cap inn:Nat) (l:List Im) (indent:Int) (so:Bool),d+inn=1000->LR w pa l->l.length<=cap->cap<=9223372036854775807->l.length<=10000000->(∀x,x∈l->x.s.length<=100000000)->Bok l-> -1<=indent->indent<=16->A0i d l≠0->wgt l<=100000000000->
 Calls Tryz.prog 47 #[.slice pa l.length cap,.int .i64 indent,.bool so,.int .i64 (inn:Int)] w λe w'=>e=.returned (.string (ofL (wrD indent so d l)))/\Fr (λ_=>False) w w'
theorem D0m (w:World) (a b e f:Value) (T:Nat) (c:World) (g:Fr (λ_=>False) (w.alloc (.cells #[a,b,e,f] T)) c):
 c.cell? ⟨w.heap.size,0,none⟩=some a/\c.cell? ⟨w.heap.size,1,none⟩=some b:=by
 have d:=g.heap (heap_alloc_new w (.cells #[a,b,e,f] T)) id;exact⟨A0a d rfl,A0a d rfl⟩
theorem D0n (w:World) (d:Nat) (inn:Nat) (x:Im) (r:List Im) (N:Nat) (indent:Int) (so a:Bool) (h:d+1+inn=1000) (e:indent<=16) (c:Bok (x::r)) (o:A0z x=true) (i:¬x.k<5) (g:x.n=(N:Int)) (j:decide (x.k=6)=a) (b:A0i (d+1) (x::r)≠0):
 ∃F,wrD indent so (d+1) (x::r)=A7w indent inn a (F.map (·.2))/\InvW d indent so a N (x::r) F 0 1 []/\tot F+33000<=wgt (x::r):=by
 simp only[A0i]at b;rw[if_pos o,if_neg i,j,g,Int.toNat_natCast]at b;cases f:A0m (A0i d) a N r with
 |none=>rw[f]at b;exact absurd rfl b
 |some m=>
  refine⟨F8m (so&&a) (A7m (A0i d) (wrD indent so d) indent a N r),?_,⟨⟨m,by rw[Nat.sub_zero];exact f⟩,by rw[Nat.sub_zero];rfl,rfl⟩,?_⟩
  ·simp only[wrD]
   rw[if_neg i,j,g,Int.toNat_natCast,show 999-d=inn by omega]
  ·have p:=C3u (wr:=wrD indent so d) (indent:=indent) a (λl c h0=>E6b w indent so e d l c h0) N r m (λy hy=>c y (List.mem_cons_of_mem _ hy)) f
   unfold F8m;rw[C6r,B2q];have q:=C0s r m;have:tot []=0:=rfl;omega
theorem E6u (a:List KT) (k i:Nat) (p:KT) (b:a.length=i) (f:KT->LU8) (h:k=i):(a.map f).take k++[f p]++(a.map f).drop k=(a++[p]).map f:=by
 subst h;rw[List.take_of_length_le (by simp[b]),List.drop_eq_nil_of_le (by simp[b])];simp
theorem D5y (a:List KT) (k:Nat) (p:KT) (f:KT->LU8):(a.map f).take k++[f p]++(a.map f).drop k=(a.take k++[p]++a.drop k).map f:=by simp
theorem C0z (indent:Int) (inn:Nat) (a:List (LU8)) (j:Nat) (p:LU8) (S:LU8) (h:a[j]? =some p):
 S++A2r indent inn (decide (j=0)) (a.drop j)=S++(if j=0 then[]else[44])++A6p indent inn++p++A2r indent inn (decide (j+1=0)) (a.drop (j+1)):=by
 obtain⟨b,c⟩:=List.getElem?_eq_some_iff.1 h;rw[List.drop_eq_getElem_cons b,c];simp[A2r]
theorem G2p (d:Nat) (IH:G4p d) (w:World) (ad:Addr) (cap inn:Nat) (n:Int) (b:Nat) (s:LU8) (r:List Im) (indent:Int) (so:Bool) (f1:d+1+inn=1000) (h:LR w (some ad) (⟨5,n,b,s⟩::r)) (e7:r.length+1<=cap) (hc:cap<=9223372036854775807) (h2:r.length+1<=10000000) (hs:∀y,y∈(⟨5,n,b,s⟩:Im)::r->y.s.length<=100000000) (hb:Bok (⟨5,n,b,s⟩::r)) (h0: -1<=indent) (G:indent<=16) (hg:A0z ⟨5,n,b,s⟩=true) (H:A0i (d+1) (⟨5,n,b,s⟩::r)≠0) (b7:wgt (⟨5,n,b,s⟩::r)<=100000000000):
 Calls Tryz.prog 47 #[.slice (some ad) (r.length+1) cap,.int .i64 indent,.bool so,.int .i64 (inn:Int)] w λe w'=>e=.returned (.string (ofL (wrD indent so (d+1) (⟨5,n,b,s⟩::r))))/\Fr (λ_=>False) w w':=by
 have h4:0<=n:=(A5i hg (by simp)).2;obtain⟨N,rfl⟩:∃N:Nat,n=(N:Int):=⟨n.toNat,by omega⟩;obtain⟨F,hW,b0,f6⟩:=D0n w d inn ⟨5,(N:Int),b,s⟩ r N indent so false f1 G hb hg (by simp) rfl rfl H;rw[hW];obtain⟨U,hU⟩:∃U,A7w indent inn false (F.map (·.2))=U:=⟨_,rfl⟩;rw[hU];have HU:=hid hU;clear hU;obtain⟨l,hl⟩:∃l,(⟨5,(N:Int),b,s⟩:Im)::r=l:=⟨_,rfl⟩;have d1:=hid (show LR w (some ad) l from by rw[<-hl];exact h);obtain⟨c0,c1,c2,c3⟩:=h.at0
 try simp only at c0 c1 c2 c3
 have b6:l.length=r.length+1:=by rw[<-hl];rfl
 obtain⟨L,hL⟩:∃L,r.length+1=L:=⟨_,rfl⟩;rw[hL]at b6 e7 h2;have C:=hid b6;rw[hl]at b0 f6 b7;have a9:=hid (show tot F<=100000000000 from by omega);have c5:=hid b0;have i9:1<=L:=by omega
 rw[hL];have k1:IntKind.i64.wrap ((inn:Int)+1)=(inn:Int)+1:=IntWalk.i64_in _ (by omega);have i8:(0:Int)<(L:Int):=by omega
 have d4:=hid (show∀y,y∈l->y.s.length<=100000000 from by rw[<-hl];exact hs);have f7:=hid (show Bok l from by rw[<-hl];exact hb);have K:=hid (show d+(inn+1)=1000 from by omega);have g2:=hid b7
 have c6:=hid (λ(c:World) (a:Nat) (O:Fr (λ_=>False) w c) (ha:a<L) (hz:A0i d (l.drop a)≠0)=>(show Calls Tryz.prog 47 #[.slice (some (ad.add (a*4))) (L-a) (cap-a),.int .i64 indent,.bool so,.int .i64 ((inn+1:Nat):Int)] c λe w'=>e=.returned (.string (ofL (wrD indent so d (l.drop a))))/\Fr (λ_=>False) c w' from by
  have:=IH c (some (ad.add (a*4))) (cap-a) (inn+1) (l.drop a) indent so K.out ((d1.fr O).drop a) (by have:=C.out;rw[List.length_drop];omega) (by omega) (by have:=C.out;rw[List.length_drop];omega) (λy hy=>d4.out y (List.mem_of_mem_drop hy)) (f7.drop a) h0 G hz (Nat.le_trans (C0r l a) g2.out);rw[List.length_drop,C.out]at this
  exact this))
 have d5:=hid (λ(c:World) (a:Nat) (O:Fr (λ_=>False) w c) (ha:a<L)=>(show Calls Tryz.prog 46 #[.slice (some (ad.add (a*4))) (L-a) (cap-a),.int .i64 ((inn+1:Nat):Int)] c λe w'=>e=.returned (.int .i64 ((A0i d (l.drop a):Nat):Int))/\Fr (λ_=>False) c w' from by
  have:=C6a d c (some (ad.add (a*4))) (cap-a) (inn+1) (l.drop a) K.out ((d1.fr O).drop a) (by have:=C.out;rw[List.length_drop];omega) (by omega) (λy hy=>d4.out y (List.mem_of_mem_drop hy));rw[List.length_drop,C.out]at this
  exact this))
 have d6:=hid (Fr.refl (λ_=>False) (w.alloc (.cells #[.int .i64 5,.int .i64 (N:Int),.int .u64 (b:Int),.string (ofL s)] 29)));have V:=hid ((Fr.refl (λ_=>False) w).alloc (.cells #[.int .i64 5,.int .i64 (N:Int),.int .u64 (b:Int),.string (ofL s)] 29));have HX:=hid (λ(c:World) O=>D0m w (.int .i64 5) (.int .i64 (N:Int)) (.int .u64 (b:Int)) (.string (ofL s)) 29 c O);have a7:=hid (SP.nil (w.alloc (.cells #[.int .i64 5,.int .i64 (N:Int),.int .u64 (b:Int),.string (ofL s)] 29)));have a4:=hid (λ(k:Nat) (c:World) (hk:k<=inn+1)=>D0k indent k c G (by omega));have i4:(inn:Int)+1=((inn+1:Nat):Int):=by omega
 clear h hs hg hl b6 hL h4 hb H b7 f6 b0 hW IH;go_enter Tryz.func47,Tryz.ntmps47;go_wp2
 go_loopw [12,13,14,15] (λp q s2 t wr=>∃(pa:Option Addr) (pc:Nat) (ka:Option Addr) (kc a i:Nat) (f:List KT),i+1<=a/\a<=L/\i<=N/\p=.slice pa i pc/\q=.slice ka i kc/\s2=.int .i64 (a:Int)/\t=.int .i64 (i:Int)/\Hid (InvW d indent so false N l F i a f)/\Hid (SP wr (.slice pa i pc) (f.map (·.2)))/\Hid (SP wr (.slice ka i kc) (f.map (·.1)))/\Hid (Fr (λ_=>False) (w.alloc (.cells #[.int .i64 5,.int .i64 (N:Int),.int .u64 (b:Int),.string (ofL s)] 29)) wr)) (λ_ _ _ t _=>N-(intOf t).toNat)
 case atStart=>exact⟨none,0,none,0,1,0,[],by omega,by omega,by omega,rfl,rfl,by go_num,by go_num,c5,a7,a7,d6⟩
 case round=>
  clear c0 c1 c2 c3 c5 a7 d6;obtain⟨pa,pc,ka,kc,a,i,f,j3,j1,j2,rfl,rfl,rfl,rfl,hI,hP,hK,hF⟩:=hrel;obtain⟨x0,x1⟩:=HX.out wr hF.out;by_cases h3:i<N
  ·have j4:(i:Int)<(N:Int):=by omega
   obtain⟨n1,h7,H,b1,b2,hT,d8⟩:=hI.arr h3;rw[C.out]at b1 b2;have a1:=hid d8;have HW:=hid (λc O=>c6.out c a O b2 (by rw[H];omega));have HS:=hid (λc O=>d5.out c a O b2);rw[H]at HS;obtain⟨T,e5⟩:∃T,wrD indent so d (l.drop a)=T:=⟨_,rfl⟩;rw[e5]at HW a1 hT;have u:=hid hI.n;have j0:T.length<=100000000000:=Nat.le_trans hT a9.out;have k0:(ofL T).size=T.length:=A0c T;have e8:(⟨#[]⟩:ByteArray)++ofL T=ofL T:=by rw[show(⟨#[]⟩:ByteArray)=ofL []from rfl,A0j];rfl
   have k5:(⟨#[]⟩:ByteArray).size=0:=rfl;have a5:=hid (λ(c:World) (h:SP c (.slice pa i pc) (f.map (·.2)))=>C6t T c pa i pc i _ h (by simp[u.out]) (by simp[u.out];omega));have a6:=hid (λ(c:World) (h:SP c (.slice ka i kc) (f.map (·.1)))=>(show Calls Tryz.prog 79 #[.slice ka i kc,.int .i64 (i:Int),.string ⟨#[]⟩] c _ from C6t [] c ka i kc i _ h (by simp[u.out]) (by simp[u.out];omega)));rw[List.length_map,u.out]at a5 a6;have f9:=hid (E6u f i i ([],T) u.out (·.2) rfl);have g0:=hid (E6u f i i ([],T) u.out (·.1) rfl);obtain⟨a2,Z⟩:∃a2,a+n1=a2:=⟨_,rfl⟩;rw[Z]at a1 b1;have e6:(a:Int)+(n1:Int)=(a2:Int):=by omega
   have k3:IntKind.i64.wrap ((a:Int)+(n1:Int))=(a2:Int):=by rw[e6];exact IntWalk.i64_in _ (by omega)
   have i5:i+2<=a2:=by omega
   have k2:IntKind.i64.wrap ((i:Int)+1)=(i:Int)+1:=IntWalk.i64_in _ (by omega);have i2:a<cap:=by omega
   generalize ofL T=TS at*;generalize T.length=tl at*;generalize inn+1=inn1 at*;clear hT H e5 d8 Z h7 hI
   go_wp2_with fail
   refine Calls.mono (HW.out _ (V.trans hF.out)) ?_;rintro e w3 ⟨rfl,P⟩;have R:=hid (hF.trans P);have e2:=hid (hP.fr P);have d9:=hid (hK.fr P);obtain⟨y0,y1⟩:=HX.out w3 (hF.trans P);clear P x0 x1 hF hP hK HW
   go_wp2_with fail
   refine Calls.mono (HS.out _ (V.trans R.out)) ?_;rintro e w4 ⟨rfl,Q⟩;have b8:=hid (R.trans Q);have e3:=hid (e2.fr Q);have e0:=hid (d9.fr Q);obtain⟨x0,x1⟩:=HX.out w4 (R.trans Q);clear Q y0 y1 R e2 d9 HS
   go_wp2_with fail
   refine Calls.mono (a5.out _ e3.out) ?_;rintro e w5 ⟨i0,i1,rfl,h5,b3⟩;have b9:=hid (b8.trans b3);have e4:=hid h5;have e1:=hid (e0.fr b3);clear b3 x0 x1 b8 e3 e0 a5 h5
   go_wp2_with fail
   refine Calls.mono (a6.out _ e1.out) ?_;rintro e w6 ⟨h8,h9,rfl,h6,b4⟩;have f8:=hid (b9.trans b4);have g4:=hid h6;have g5:=hid (e4.fr b4);clear b4 b9 e4 e1 a6 h6;go_wp2;go_roundw
   case rel=>exact⟨i0,i1,h8,h9,a2,i+1,f++[([],T)],by omega,b1,by omega,rfl,rfl,rfl,by go_num,a1,hid (by rw[<-f9.out];exact g5.out),hid (by rw[<-g0.out];exact g4.out),f8⟩
   case measure=>simp[intOf];omega
  ·have f0:i=N:=by omega
   subst f0;have j7:¬((i:Int)<(i:Int)):=by omega
   have g7:=hI.done;have u:=hid hI.n;subst g7;obtain⟨B,X⟩:∃B,f.map (·.2)=B:=⟨_,rfl⟩;have c9:=hid (B6r indent (inn+1) true f G (by have:=K.out;omega));have d2:=hid (λp (z:p∈f)=>D3f z)
   have g1:=hid (show∀(j:Nat) p,B[j]? =some p->p.length<=100000000000 from by
    intro j p z;rw[<-X]at z;obtain⟨q,hq,rfl⟩:=List.mem_map.1 (List.mem_of_getElem? z)
    exact Nat.le_trans (d2.out q hq) a9.out)
   have D:=hid (show B.length=i from by rw[<-X,List.length_map,u.out]);rw[X]at hP c9 HU;clear X d2 hI hK c6 d5;by_cases e9:i=0
   ·subst e9
    have W:A7w indent inn false B=[91,93]:=by unfold A7w;rw[if_pos D.out];rfl
    rw[W]at HU;have a0:=hid (V.trans hF.out);have e8:(⟨#[91]⟩:ByteArray)++(⟨#[93]⟩:ByteArray)=ofL [91,93]:=rfl;have k6:(⟨#[91]⟩:ByteArray).size=1:=rfl;have k7:(⟨#[93]⟩:ByteArray).size=1:=rfl;go_wp2;go_ret;exact⟨by rw[<-HU.out];rfl,a0.out⟩
   ·have i3:((i:Int)==0)=false:=bqF (by omega)
    obtain⟨J,hJ⟩:∃J,91::A2r indent (inn+1) true B=J:=⟨_,rfl⟩;have W:A7w indent inn false B=J++A6p indent inn++[93]:=by unfold A7w;rw[if_neg (by have:=D.out;omega),<-hJ];simp[F2r,G3m]
    have g3:J.length<=100000000001:=by rw[<-hJ,List.length_cons];have:=c9.out;have:=a9.out;omega
    rw[W]at HU;obtain⟨gi,rfl⟩:=A5s hP.1 (by have:=D.out;omega)
    have d3:=hid (show∀(c:World) (j:Nat) p,Fr (λ_=>False) wr c->B[j]? =some p->c.cell? ⟨gi,j,none⟩=some (.string (ofL p))from by
     intro c j p O z;have h1:=A7e hP.1 O (λ_ _=>id);rw[D.out]at h1
     exact A2c h1 j _ (by unfold B5q;rw[List.getElem?_map,z];rfl))
    have d0:=hid (λc=>a4.out inn c (by omega));have a3:=hid (λc=>a4.out (inn+1) c (by omega));have f4:=B2t indent inn G (by have:=K.out;omega);have f5:=B2t indent (inn+1) G (by have:=K.out;omega);have c7:=hid (show[91]++A2r indent (inn+1) (decide (0=0)) (B.drop 0)=J from hJ);have c8:=hid (λ(j:Nat) (p S:LU8) (z:B[j]? =some p)=>C0z indent (inn+1) B j p S z);obtain⟨A,f2⟩:∃A,A6p indent inn=A:=⟨_,rfl⟩;obtain⟨g,f3⟩:∃g,A6p indent (inn+1)=g:=⟨_,rfl⟩;rw[f2]at d0 f4 HU;rw[f3]at a3 f5 c8;have d7:=hid (Fr.refl (λ_=>False) wr);clear f2 f3 W hJ a4;generalize inn+1=inn1 at*;go_wp2
    go_loopw [20,22] (λs2 t wj=>∃(j:Nat) (S:LU8),j<=i/\s2=.string (ofL S)/\t=.int .i64 (j:Int)/\Hid (S++A2r indent inn1 (decide (j=0)) (B.drop j)=J)/\Hid (Fr (λ_=>False) wr wj)) (λ_ t _=>i-(intOf t).toNat)
    case atStart=>exact⟨0,[91],by omega,rfl,by go_num,c7,d7⟩
    case round=>
     clear c7 d7 x0 x1
     rename_i wr0
     obtain⟨j,S,j5,rfl,rfl,hS,E⟩:=hrel;by_cases i7:j<i
     ·have j6:(j:Int)<(i:Int):=by omega
      obtain⟨p,z⟩:∃p,B[j]? =some p:=⟨B[j]'(by have:=D.out;omega),List.getElem?_eq_getElem _⟩;have g9:=d3.out _ j p E.out z;have j9:=g1.out j p z;have v:=c8.out j p S z;rw[hS.out]at v;have x:=congrArg List.length v;have k4:IntKind.i64.wrap ((j:Int)+1)=(j:Int)+1:=IntWalk.i64_in _ (by omega);have z1:(ofL S).size=S.length:=A0c S;have z2:(ofL g).size=g.length:=A0c g;have z3:(ofL p).size=p.length:=A0c p;have c4:=hid (λn=>E.drewN n);by_cases b5:j=0
      ·subst b5
       rw[if_pos rfl,List.append_nil]at v x;have M:ofL S++ofL g=ofL (S++g):=A0j _ _;have o:ofL (S++g)++ofL p=ofL (S++g++p):=A0j _ _;have z4:(ofL (S++g)).size=S.length+g.length:=by rw[A0c];simp
       have a8:=hid v.symm;simp only[List.length_append]at x;obtain⟨Y,m⟩:∃Y,ofL (S++g++p)=Y:=⟨_,rfl⟩;rw[m]at o;have I:=hid m;generalize ofL (S++g)=A1 at*;generalize ofL S=A0 at*;generalize ofL g=L1 at*;generalize ofL p=PP at*;clear v m z hS E;go_wp2;go_quiet ((go_at_call 80;exact Calls.quiet_of_same (a3.out _)));go_wp2;go_roundw
       case rel=>exact⟨1,S++g++p,by omega,by rw[I.out],by go_num,a8,hid (c4.out _)⟩
       case measure=>simp[intOf];omega
      ·rw[if_neg b5]at v x
       have i6:(0:Int)<(j:Int):=by omega
       have g8:ofL S++(⟨#[44]⟩:ByteArray)=ofL (S++[44]):=A0j _ [44];have M:ofL (S++[44])++ofL g=ofL (S++[44]++g):=A0j _ _;have o:ofL (S++[44]++g)++ofL p=ofL (S++[44]++g++p):=A0j _ _;have z4:(ofL (S++[44]++g)).size=S.length+1+g.length:=by rw[A0c];simp only[List.length_append,List.length_singleton]
       have z5:(ofL (S++[44])).size=S.length+1:=by rw[A0c];simp
       have z6:(⟨#[44]⟩:ByteArray).size=1:=rfl;have a8:=hid v.symm;simp only[List.length_append,List.length_singleton]at x;obtain⟨Y,m⟩:∃Y,ofL (S++[44]++g++p)=Y:=⟨_,rfl⟩;rw[m]at o;have I:=hid m;generalize ofL (S++[44]++g)=A1 at*;generalize ofL (S++[44])=A01 at*;generalize ofL S=A0 at*;generalize ofL g=L1 at*;generalize ofL p=PP at*;clear v m z hS E b5;go_wp2;go_quiet ((go_at_call 80;exact Calls.quiet_of_same (a3.out _)));go_wp2;go_roundw
       case rel=>exact⟨j+1,S++[44]++g++p,by omega,by rw[I.out],by go_num,a8,hid (c4.out _)⟩
       case measure=>simp[intOf];omega
     ·obtain rfl:j=i:=by omega
      have j8:¬((j:Int)<(j:Int)):=by omega
      have g6:S=J:=by
       have:=hS.out;rw[List.drop_eq_nil_of_le (by have:=D.out;omega)]at this;simpa[A2r]using this
      subst g6;have a0:=hid (V.trans (hF.trans E.out));have z1:(ofL S).size=S.length:=A0c S;have z2:(ofL A).size=A.length:=A0c A;have z3:(⟨#[93]⟩:ByteArray).size=1:=rfl;have M:ofL S++ofL A=ofL (S++A):=A0j _ _;have o:ofL (S++A)++(⟨#[93]⟩:ByteArray)=ofL (S++A++[93]):=A0j _ [93];have z4:(ofL (S++A)).size=S.length+A.length:=by rw[A0c];simp
      obtain⟨Y,m⟩:∃Y,ofL (S++A++[93])=Y:=⟨_,rfl⟩;rw[m]at o;have I:=hid m;generalize ofL (S++A)=A1 at*;generalize ofL S=A0 at*;generalize ofL A=L0 at*;clear m hS E e9
      go_wp2_with fail
      refine Calls.mono (d0.out _) ?_;rintro e w7 ⟨rfl,rfl⟩;go_wp2;go_ret;exact⟨by rw[<-HU.out,I.out];rfl,a0.out⟩
end Go.Proofs.YtmkkibaacclhnaaGreatDoor
