/-
  Part Vb.
-/
import Derived.Test.YtmkkibaacclhnaaGreatDoorVs
import Derived.Lib.UnsafeStr
import Derived.Test.YtmkkibaacclhnaaGreatDoorVj
namespace Go.Proofs.YtmkkibaacclhnaaGreatDoor
open Go.RowKit
set_option maxRecDepth 100000
set_option maxHeartbeats 32000000
theorem Fr.freeze {S:Nat->Prop} {a w:World} (h:Fr S a w) {p:Addr} (b:S p.block\/a.heap.size<=p.block) (n:Nat):Fr S a (w.freeze p n):=by
 unfold World.freeze;split
 ·exact h
 ·refine⟨h.os,h.tape,h.output,by simpa using h.size,λk hk hs=>?_⟩
  simp only[Array.getElem?_modify]
  rw[if_neg (by rintro rfl;rcases b with b|b
                ·exact hs b
                ·omega)]
  exact h.block k hk hs
theorem D0j (l:LU8) (j:Nat) (x:UInt8) (h:l[j]? =some x):(us l)[j]? =some (.int .u8 (x.toNat:Int)):=by
 unfold us;rw[List.getElem?_map,h];rfl
theorem Tryz.cells5B:Tryz.prog.cellsOf 5=1:=by kernel_rfl
theorem D9p (B:Nat) (w:World) (s v:Value) (q c:Int) (so:Bool) (n:Nat) (t d:Value) (bs:LU8) (h:WAt B w s v q c so n t d bs) (u:bs≠[]) (I:bs.length<=100000000000):
 Calls Tryz.prog 27 #[.pointer (some ⟨B,6,none⟩)] w λe w'=>e=.returned (.string (ofL bs))/\Fr (λi=>d.ownBlock=some i) w w':=by
 have m:bs.length≠0:=by simpa using u
 obtain⟨g,cap,a,rfl,y,o,C,k,f,b⟩:∃g cap a,d=.slice (some ⟨g,0,none⟩) bs.length cap/\0<=g/\w.heap[g]? =some (.cells a 5 (0,0))/\bs.length<=cap/\cap<=maxLen/\a.size=cap*1/\a.toList.take (bs.length*1)=us bs:=by
  rcases h.row.2 with⟨_,A⟩|⟨g,cap,a,E,r⟩
  ·exact absurd A m
  ·exact⟨g,cap,a,E,r⟩
 have H:=A0a h.blk (show(A9k s v q c so n t (.slice (some ⟨g,0,none⟩) bs.length cap))[7]? =some (.slice (some ⟨g,0,none⟩) bs.length cap)from rfl)
 have z:(Builtin.unsafeSliceData_ #[65] 105 #[.slice (some ⟨g,0,none⟩) bs.length cap]).run Tryz.prog w.drew=.ok (.pointer (some ⟨g,0,none⟩)) w.drew:=
  Lib.run_unsafeSliceData_row _ _ _ _ _ _ (by omega)
 have F:(Builtin.unsafeString_ #[105,3] 9 #[.pointer (some ⟨g,0,none⟩),.int .i64 bs.length]).run Tryz.prog w.drew=.ok (.string ⟨bs.toArray⟩) (w.drew.freeze ⟨g,0,none⟩ bs.length):=by
  refine Lib.run_unsafeString_row w.drew 105 3 9 5 Tryz.underlying105 Tryz.cells5B g a.size (by have l:w.drew.heap[g]? =some (.cells a 5 (0,0)):=o;simp[World.shape?,l]) bs u (by omega) (by unfold maxLen at k;omega) ?_;intro j x D;have:=h.row.cells (g:=g) rfl j (.int .u8 x.toNat) (D0j bs j x D);exact this
 have G:=hid (((Fr.refl (λi=>(Value.slice (some ⟨g,0,none⟩) bs.length cap).ownBlock=some i) w).drew).freeze (p:=⟨g,0,none⟩) (.inl rfl) bs.length);have mixed:=Tryz.mixedR;clear h o f b;go_enter Tryz.func27,Tryz.ntmps27;go_wp2;go_region
 all_goals (go_wp2;go_ret;exact⟨rfl,G.out⟩)
theorem E6s (w:World) (m:Addr) (cap inn:Nat) (x:Im) (r:List Im) (indent:Int) (so:Bool) (h:LR w (some m) (x::r)) (l:x.s.length<=100000000) (u:x.k<5) (f:A0z x=true) (p:x.b<18446744073709551616):
 Calls Tryz.prog 47 #[.slice (some m) (r.length+1) cap,.int .i64 indent,.bool so,.int .i64 (inn:Int)] w λe w'=>e=.returned (.string (ofL (B3v x)))/\Fr (λ_=>False) w w':=by
 obtain⟨A,y,q,t⟩:=h.at0;have i:=hid (λo=>(Fr.refl (λ_=>False) w).alloc o);have v:(0:Int)<(r.length:Int)+1:=by omega
 have a:=B5h f
 have d:x.k=0\/x.k=1\/x.k=2\/x.k=3\/x.k=4:=by
  unfold A0z at f;split at f
  ·omega
  split at f
  ·omega
  split at f
  ·omega
  ·rw[if_neg (by omega)]at f;cases f
 obtain⟨k,n,b,s⟩:=x;simp only at A y q t l a d p;generalize r.length=rl at*;clear h f u;rcases d with rfl|rfl|rfl|rfl|rfl
 ·go_enter Tryz.func47,Tryz.ntmps47
  go_wp2;go_ret;exact⟨rfl,i.out _⟩
 ·go_enter Tryz.func47,Tryz.ntmps47
  go_wp2;go_ret;exact⟨rfl,i.out _⟩
 ·go_enter Tryz.func47,Tryz.ntmps47
  go_wp2;go_ret;exact⟨rfl,i.out _⟩
 ·have j:=hid (λw=>F2n b w p (a rfl))
  rw[show B3v ⟨3,n,b,s⟩=A9p b from rfl];generalize A9p b=T at*;clear a;go_enter Tryz.func47,Tryz.ntmps47
  go_wp2_with fail
  refine Calls.mono (j.out _) ?_;rintro e z ⟨rfl,c⟩;have g:=hid ((i.out _).trans c);clear c;go_wp2;go_ret;exact⟨rfl,g.out⟩
 ·have j:=hid (λw=>C3k s w l)
  rw[show B3v ⟨4,n,b,s⟩=A3g s from rfl];generalize A3g s=T at*;clear a;go_enter Tryz.func47,Tryz.ntmps47
  go_wp2_with fail
  refine Calls.mono (j.out _) ?_;rintro e z ⟨rfl,c⟩;have g:=hid ((i.out _).trans c);clear c;go_wp2;go_ret;exact⟨rfl,g.out⟩
theorem D0k (indent:Int) (inn:Nat) (w:World) (v:indent<=16) (g:inn<=1001):
 Calls Tryz.prog 80 #[.int .i64 indent,.int .i64 (inn:Int)] w λe w'=>e=.returned (.string (ofL (A6p indent inn)))/\w'=w:=by
 unfold A6p;by_cases h:indent<0
 ·rw[if_pos h]
  go_enter Tryz.func80,Tryz.ntmps80;go_wp2;go_ret;exact⟨rfl,rfl⟩
 ·rw[if_neg h]
  obtain⟨n,rfl⟩:∃n:Nat,indent=(n:Int):=⟨indent.toNat,by omega⟩;rw[Int.toNat_natCast];have p:¬((n:Int)<0):=by omega
  obtain⟨T,c⟩:∃T,n*inn=T:=⟨_,rfl⟩;have d:(n:Int)*(inn:Int)=(T:Int):=by rw[<-c];simp
  have q:T<=17000:=by rw[<-c];exact Nat.le_trans (Nat.mul_le_mul (show n<=16 by omega) g) (by omega)
  have y:IntKind.i64.wrap ((n:Int)*(inn:Int))=(T:Int):=by rw[d];exact IntWalk.i64_in _ (by omega)
  rw[c];have l:(⟨#[10]⟩:ByteArray)=ofL [10]:=rfl;clear c v g h;go_enter Tryz.func80,Tryz.ntmps80;go_wp2
  go_loopw [5,6] (λs t wr=>∃k:Nat,k<=T/\s=.string (ofL (10::List.replicate k 32))/\t=.int .i64 (k:Int)/\wr=w) (λ_ t _=>T-(intOf t).toNat)
  case atStart=>exact⟨0,by omega,rfl,rfl,rfl⟩
  case round=>
   obtain⟨k,x,rfl,rfl,rfl⟩:=hrel;by_cases r:k<T
   ·have b:ofL (10::List.replicate k 32)++(⟨#[32]⟩:ByteArray)=ofL (10::List.replicate (k+1) 32):=by
     rw[show(⟨#[32]⟩:ByteArray)=ofL [32]from rfl,A0j];congr 1;rw[List.replicate_succ'];rfl
    have u:(ofL (10::List.replicate k 32)).size=k+1:=by rw[A0c];simp
    have j:(⟨#[32]⟩:ByteArray).size=1:=rfl;generalize ofL (10::List.replicate k 32)=S at*;obtain⟨i,a⟩:∃i,ofL (10::List.replicate (k+1) 32)=i:=⟨_,rfl⟩;rw[a]at b;have f:=hid a;clear a;have m:(k:Int)<(T:Int):=by omega
    go_wp2;go_roundw
    case rel=>exact⟨k+1,by omega,by rw[f.out],by go_num,by trivial⟩
    case measure=>simp[intOf];omega
   ·obtain rfl:k=T:=by omega
    have o:¬((k:Int)<(k:Int)):=by omega
    go_wp2;go_ret;exact⟨rfl,rfl⟩
structure InvW (d:Nat) (indent:Int) (so obj:Bool) (N:Nat) (l:List Im) (F:List KT) (i a:Nat) (cur:List KT):Prop where
 m:∃m,A0m (A0i d) obj (N-i) (l.drop a)=some m
 f:(A7m (A0i d) (wrD indent so d) indent obj (N-i) (l.drop a)).foldl (B2z (so&&obj)) cur=F
 n:cur.length=i
theorem E6t (so:Bool) (L:List KT) (p:KT):(B2z so L p).length=L.length+1:=by
 unfold B2z;have h:=B8j (L.map (·.1)) p.1 L.length;simp only[List.length_append,List.length_take,List.length_drop,List.length_singleton];split<;>omega
theorem InvW.totle {d:Nat} {indent:Int} {so c:Bool} {N:Nat} {l:List Im} {F:List KT} {i a:Nat} {b:List KT} (h:InvW d indent so c N l F i a b):tot b<=tot F:=by
 rw[<-h.f,C6r];omega
theorem D3f {L:List KT} {p:KT} (h:p∈L):p.2.length<=tot L:=by
 induction L with
 |nil=>cases h
 |cons q L ih=>
  rw[B2s];rcases List.mem_cons.1 h with rfl|h
  ·omega
  ·have:=ih h;omega
theorem InvW.arr {d:Nat} {indent:Int} {so:Bool} {N:Nat} {l:List Im} {F:List KT} {i a:Nat} {b:List KT} (h:InvW d indent so false N l F i a b) (u:i<N):
 ∃n1,0<n1/\A0i d (l.drop a)=n1/\a+n1<=l.length/\a<l.length/\(wrD indent so d (l.drop a)).length<=tot F/\InvW d indent so false N l F (i+1) (a+n1) (b++[([],wrD indent so d (l.drop a))]):=by
 obtain⟨c,r⟩:∃c,N-i=c+1:=⟨N-i-1,by omega⟩;obtain⟨m,g⟩:=h.m;have e:=h.f;rw[r]at g e;simp only[A0m,A7m,Bool.false_eq_true,if_false,List.foldl_cons]at g e;split at g
 ·cases g
 ·rename_i h0
  obtain⟨s,q,rfl⟩:=Option.map_eq_some_iff.1 g;rw[List.drop_drop]at q e;have k:=A5w d (l.drop a);rw[List.length_drop]at k;have j:B2z (so&&false) b ([],wrD indent so d (l.drop a))=b++[([],wrD indent so d (l.drop a))]:=by simp[B2z]
  rw[j]at e
  have o:InvW d indent so false N l F (i+1) (a+A0i d (l.drop a)) (b++[([],wrD indent so d (l.drop a))]):=by
   refine⟨⟨s,?_⟩,?_,by simp[h.n]⟩
   ·rw[show N-(i+1)=c by omega];exact q
   ·rw[show N-(i+1)=c by omega];exact e
  refine⟨A0i d (l.drop a),by omega,rfl,by omega,by omega,?_,o⟩;have:=o.totle;have t:=D3f (L:=b++[(([]:LU8),wrD indent so d (l.drop a))]) (p:=([],wrD indent so d (l.drop a))) (by simp);simp only at t;omega
theorem InvW.obj {d:Nat} {indent:Int} {so:Bool} {N:Nat} {l:List Im} {F:List KT} {i a:Nat} {e:List KT} (h:InvW d indent so true N l F i a e) (z:i<N):
 ∃y n1,0<n1/\l[a]? =some y/\A0i d (l.drop (a+1))=n1/\a+1+n1<=l.length/\(A7h indent y.s++wrD indent so d (l.drop (a+1))).length<=tot F/\InvW d indent so true N l F (i+1) (a+1+n1) (B2z so e (y.s,A7h indent y.s++wrD indent so d (l.drop (a+1)))):=by
 obtain⟨c,v⟩:∃c,N-i=c+1:=⟨N-i-1,by omega⟩;obtain⟨m,b⟩:=h.m;have j:=h.f;rw[v]at b j;cases k:l.drop a with
 |nil=>rw[k]at b;simp[A0m]at b
 |cons y r=>
  have g:a<l.length:=by
   by_cases x:a<l.length
   ·exact x
   ·rw[List.drop_eq_nil_of_le (by omega)]at k;cases k
  rw[List.drop_eq_getElem_cons g]at k;injection k with hy hr
  have o:l[a]? =some y:=by rw[List.getElem?_eq_getElem g,hy]
  rw[List.drop_eq_getElem_cons g,hy]at b j;simp only[A0m,A7m,if_true,List.foldl_cons]at b j;split at b
  ·split at b
   ·cases b
   ·rename_i h0
    obtain⟨w,u,rfl⟩:=Option.map_eq_some_iff.1 b;rw[List.drop_drop]at u j;have p:=A5w d (l.drop (a+1));rw[List.length_drop]at p;rw[Bool.and_true]at j
    have t:InvW d indent so true N l F (i+1) (a+1+A0i d (l.drop (a+1))) (B2z so e (y.s,A7h indent y.s++wrD indent so d (l.drop (a+1)))):=by
     refine⟨⟨w,?_⟩,?_,by rw[E6t,h.n]⟩
     ·rw[show N-(i+1)=c by omega];exact u
     ·rw[show N-(i+1)=c by omega,Bool.and_true];exact j
    refine⟨y,A0i d (l.drop (a+1)),by omega,o,rfl,by omega,?_,t⟩;have q:=t.totle;rw[D5m]at q;simp only at q;omega
  ·cases b
theorem InvW.done {d:Nat} {indent:Int} {so c:Bool} {N:Nat} {l:List Im} {F:List KT} {a:Nat} {b:List KT} (h:InvW d indent so c N l F N a b):b=F:=by
 have:=h.f;rw[Nat.sub_self]at this;exact this
def G4p (d:Nat):Prop:=∀(w:World) (pa:Option Addr) (cap inn:Nat) (l:List Im) (indent:Int) (so:Bool),d+inn=1000->LR w pa l->l.length<=cap->cap<=9223372036854775807->l.length<=10000000->(∀x,x∈l->x.s.length<=100000000)->Bok l-> -1<=indent->indent<=16->A0i d l≠0->wgt l<=100000000000->
 Calls Tryz.prog 47 #[.slice pa l.length cap,.int .i64 indent,.bool so,.int .i64 (inn:Int)] w λe w'=>e=.returned (.string (ofL (wrD indent so d l)))/\Fr (λ_=>False) w w'
theorem D0m (w:World) (a c f d:Value) (T:Nat) (b:World) (g:Fr (λ_=>False) (w.alloc (.cells #[a,c,f,d] T)) b):
 b.cell? ⟨w.heap.size,0,none⟩=some a/\b.cell? ⟨w.heap.size,1,none⟩=some c:=by
 have e:=g.heap (heap_alloc_new w (.cells #[a,c,f,d] T)) id;exact⟨A0a e rfl,A0a e rfl⟩
theorem D0n (w:World) (d:Nat) (inn:Nat) (x:Im) (r:List Im) (N:Nat) (indent:Int) (so a:Bool) (g:d+1+inn=1000) (f:indent<=16) (e:Bok (x::r)) (o:A0z x=true) (i:¬x.k<5) (h:x.n=(N:Int)) (j:decide (x.k=6)=a) (b:A0i (d+1) (x::r)≠0):
 ∃F,wrD indent so (d+1) (x::r)=A7w indent inn a (F.map (·.2))/\InvW d indent so a N (x::r) F 0 1 []/\tot F+33000<=wgt (x::r):=by
 simp only[A0i]at b;rw[if_pos o,if_neg i,j,h,Int.toNat_natCast]at b;cases c:A0m (A0i d) a N r with
 |none=>rw[c]at b;exact absurd rfl b
 |some m=>
  refine⟨F8m (so&&a) (A7m (A0i d) (wrD indent so d) indent a N r),?_,⟨⟨m,by rw[Nat.sub_zero];exact c⟩,by rw[Nat.sub_zero];rfl,rfl⟩,?_⟩
  ·simp only[wrD]
   rw[if_neg i,j,h,Int.toNat_natCast,show 999-d=inn by omega]
  ·have p:=C3u (wr:=wrD indent so d) (indent:=indent) a (λl e h0=>E6b w indent so f d l e h0) N r m (λy hy=>e y (List.mem_cons_of_mem _ hy)) c
   unfold F8m;rw[C6r,B2q];have q:=C0s r m;have:tot []=0:=rfl;omega
theorem E6u (a:List KT) (k i:Nat) (p:KT) (b:a.length=i) (f:KT->LU8) (h:k=i):(a.map f).take k++[f p]++(a.map f).drop k=(a++[p]).map f:=by
 subst h;rw[List.take_of_length_le (by simp[b]),List.drop_eq_nil_of_le (by simp[b])];simp
theorem D5y (a:List KT) (k:Nat) (p:KT) (f:KT->LU8):(a.map f).take k++[f p]++(a.map f).drop k=(a.take k++[p]++a.drop k).map f:=by simp
theorem C0z (indent:Int) (inn:Nat) (a:List (LU8)) (j:Nat) (p:LU8) (S:LU8) (h:a[j]? =some p):
 S++A2r indent inn (decide (j=0)) (a.drop j)=S++(if j=0 then[]else[44])++A6p indent inn++p++A2r indent inn (decide (j+1=0)) (a.drop (j+1)):=by
 obtain⟨b,c⟩:=List.getElem?_eq_some_iff.1 h;rw[List.drop_eq_getElem_cons b,c];simp[A2r]
theorem G2p (d:Nat) (IH:G4p d) (w:World) (ad:Addr) (cap inn:Nat) (n:Int) (b:Nat) (s:LU8) (r:List Im) (indent:Int) (so:Bool) (b9:d+1+inn=1000) (h:LR w (some ad) (⟨5,n,b,s⟩::r)) (e5:r.length+1<=cap) (hc:cap<=9223372036854775807) (g5:r.length+1<=10000000) (hs:∀y,y∈(⟨5,n,b,s⟩:Im)::r->y.s.length<=100000000) (hb:Bok (⟨5,n,b,s⟩::r)) (h3: -1<=indent) (H:indent<=16) (hg:A0z ⟨5,n,b,s⟩=true) (E:A0i (d+1) (⟨5,n,b,s⟩::r)≠0) (b4:wgt (⟨5,n,b,s⟩::r)<=100000000000):
 Calls Tryz.prog 47 #[.slice (some ad) (r.length+1) cap,.int .i64 indent,.bool so,.int .i64 (inn:Int)] w λe w'=>e=.returned (.string (ofL (wrD indent so (d+1) (⟨5,n,b,s⟩::r))))/\Fr (λ_=>False) w w':=by
 have f8:0<=n:=(A5i hg (by simp)).2;obtain⟨N,rfl⟩:∃N:Nat,n=(N:Int):=⟨n.toNat,by omega⟩;obtain⟨F,hW,b6,b8⟩:=D0n w d inn ⟨5,(N:Int),b,s⟩ r N indent so false b9 H hb hg (by simp) rfl rfl E;rw[hW];obtain⟨U,hU⟩:∃U,A7w indent inn false (F.map (·.2))=U:=⟨_,rfl⟩;rw[hU];have HU:=hid hU;clear hU;obtain⟨l,hl⟩:∃l,(⟨5,(N:Int),b,s⟩:Im)::r=l:=⟨_,rfl⟩;have f6:=hid (show LR w (some ad) l from by rw[<-hl];exact h);obtain⟨c0,c1,c2,c3⟩:=h.at0
 try simp only at c0 c1 c2 c3
 have b0:l.length=r.length+1:=by rw[<-hl];rfl
 obtain⟨L,hL⟩:∃L,r.length+1=L:=⟨_,rfl⟩;rw[hL]at b0 e5 g5;have G:=hid b0;rw[hl]at b6 b8 b4;have a4:=hid (show tot F<=100000000000 from by omega);have e1:=hid b6;have k7:1<=L:=by omega
 rw[hL];have k5:IntKind.i64.wrap ((inn:Int)+1)=(inn:Int)+1:=IntWalk.i64_in _ (by omega);have j0:(0:Int)<(L:Int):=by omega
 have f5:=hid (show∀y,y∈l->y.s.length<=100000000 from by rw[<-hl];exact hs);have f9:=hid (show Bok l from by rw[<-hl];exact hb);have O:=hid (show d+(inn+1)=1000 from by omega);have g3:=hid b4
 have d3:=hid (λ(c:World) (a:Nat) (P:Fr (λ_=>False) w c) (ha:a<L) (hz:A0i d (l.drop a)≠0)=>(show Calls Tryz.prog 47 #[.slice (some (ad.add (a*4))) (L-a) (cap-a),.int .i64 indent,.bool so,.int .i64 ((inn+1:Nat):Int)] c λe w'=>e=.returned (.string (ofL (wrD indent so d (l.drop a))))/\Fr (λ_=>False) c w' from by
  have:=IH c (some (ad.add (a*4))) (cap-a) (inn+1) (l.drop a) indent so O.out ((f6.fr P).drop a) (by have:=G.out;rw[List.length_drop];omega) (by omega) (by have:=G.out;rw[List.length_drop];omega) (λy hy=>f5.out y (List.mem_of_mem_drop hy)) (f9.drop a) h3 H hz (Nat.le_trans (C0r l a) g3.out);rw[List.length_drop,G.out]at this
  exact this))
 have e3:=hid (λ(c:World) (a:Nat) (P:Fr (λ_=>False) w c) (ha:a<L)=>(show Calls Tryz.prog 46 #[.slice (some (ad.add (a*4))) (L-a) (cap-a),.int .i64 ((inn+1:Nat):Int)] c λe w'=>e=.returned (.int .i64 ((A0i d (l.drop a):Nat):Int))/\Fr (λ_=>False) c w' from by
  have:=C6a d c (some (ad.add (a*4))) (cap-a) (inn+1) (l.drop a) O.out ((f6.fr P).drop a) (by have:=G.out;rw[List.length_drop];omega) (by omega) (λy hy=>f5.out y (List.mem_of_mem_drop hy));rw[List.length_drop,G.out]at this
  exact this))
 have d5:=hid (Fr.refl (λ_=>False) (w.alloc (.cells #[.int .i64 5,.int .i64 (N:Int),.int .u64 (b:Int),.string (ofL s)] 29)));have X:=hid ((Fr.refl (λ_=>False) w).alloc (.cells #[.int .i64 5,.int .i64 (N:Int),.int .u64 (b:Int),.string (ofL s)] 29));have HX:=hid (λ(c:World) P=>D0m w (.int .i64 5) (.int .i64 (N:Int)) (.int .u64 (b:Int)) (.string (ofL s)) 29 c P);have a6:=hid (SP.nil (w.alloc (.cells #[.int .i64 5,.int .i64 (N:Int),.int .u64 (b:Int),.string (ofL s)] 29)));have a3:=hid (λ(k:Nat) (c:World) (hk:k<=inn+1)=>D0k indent k c H (by omega));have i5:(inn:Int)+1=((inn+1:Nat):Int):=by omega
 clear h hs hg hl b0 hL f8 hb E b4 b8 b6 hW IH;go_enter Tryz.func47,Tryz.ntmps47;go_wp2
 go_loopw [12,13,14,15] (λp q s2 t wr=>∃(pa:Option Addr) (pc:Nat) (ka:Option Addr) (kc a i:Nat) (g:List KT),i+1<=a/\a<=L/\i<=N/\p=.slice pa i pc/\q=.slice ka i kc/\s2=.int .i64 (a:Int)/\t=.int .i64 (i:Int)/\Hid (InvW d indent so false N l F i a g)/\Hid (SP wr (.slice pa i pc) (g.map (·.2)))/\Hid (SP wr (.slice ka i kc) (g.map (·.1)))/\Hid (Fr (λ_=>False) (w.alloc (.cells #[.int .i64 5,.int .i64 (N:Int),.int .u64 (b:Int),.string (ofL s)] 29)) wr)) (λ_ _ _ t _=>N-(intOf t).toNat)
 case atStart=>exact⟨none,0,none,0,1,0,[],by omega,by omega,by omega,rfl,rfl,by go_num,by go_num,e1,a6,a6,d5⟩
 case round=>
  clear c0 c1 c2 c3 e1 a6 d5;obtain⟨pa,pc,ka,kc,a,i,g,k3,k1,k2,rfl,rfl,rfl,rfl,hI,hP,hK,hF⟩:=hrel;obtain⟨x0,x1⟩:=HX.out wr hF.out;by_cases g1:i<N
  ·have j7:(i:Int)<(N:Int):=by omega
   obtain⟨n1,f7,E,b7,a7,hT,e8⟩:=hI.arr g1;rw[G.out]at b7 a7;have a1:=hid e8;have HW:=hid (λc P=>d3.out c a P a7 (by rw[E];omega));have HS:=hid (λc P=>e3.out c a P a7);rw[E]at HS;obtain⟨T,f2⟩:∃T,wrD indent so d (l.drop a)=T:=⟨_,rfl⟩;rw[f2]at HW a1 hT;have u:=hid hI.n;have j9:T.length<=100000000000:=Nat.le_trans hT a4.out;have k0:(ofL T).size=T.length:=A0c T;have c7:(⟨#[]⟩:ByteArray)++ofL T=ofL T:=by rw[show(⟨#[]⟩:ByteArray)=ofL []from rfl,A0j];rfl
   have j4:(⟨#[]⟩:ByteArray).size=0:=rfl;have b5:=hid (λ(c:World) (h:SP c (.slice pa i pc) (g.map (·.2)))=>C6t T c pa i pc i _ h (by simp[u.out]) (by simp[u.out];omega));have a9:=hid (λ(c:World) (h:SP c (.slice ka i kc) (g.map (·.1)))=>(show Calls Tryz.prog 79 #[.slice ka i kc,.int .i64 (i:Int),.string ⟨#[]⟩] c _ from C6t [] c ka i kc i _ h (by simp[u.out]) (by simp[u.out];omega)));rw[List.length_map,u.out]at b5 a9;have g9:=hid (E6u g i i ([],T) u.out (·.2) rfl);have g2:=hid (E6u g i i ([],T) u.out (·.1) rfl);obtain⟨a2,Z⟩:∃a2,a+n1=a2:=⟨_,rfl⟩;rw[Z]at a1 b7;have d8:(a:Int)+(n1:Int)=(a2:Int):=by omega
   have j6:IntKind.i64.wrap ((a:Int)+(n1:Int))=(a2:Int):=by rw[d8];exact IntWalk.i64_in _ (by omega)
   have i2:i+2<=a2:=by omega
   have j2:IntKind.i64.wrap ((i:Int)+1)=(i:Int)+1:=IntWalk.i64_in _ (by omega);have i3:a<cap:=by omega
   generalize ofL T=TS at*;generalize T.length=tl at*;generalize inn+1=inn1 at*;clear hT E f2 e8 Z f7 hI
   go_wp2_with fail
   refine Calls.mono (HW.out _ (X.trans hF.out)) ?_;rintro e w3 ⟨rfl,Q⟩;have W:=hid (hF.trans Q);have f3:=hid (hP.fr Q);have c5:=hid (hK.fr Q);obtain⟨y0,y1⟩:=HX.out w3 (hF.trans Q);clear Q x0 x1 hF hP hK HW
   go_wp2_with fail
   refine Calls.mono (HS.out _ (X.trans W.out)) ?_;rintro e w4 ⟨rfl,K⟩;have d6:=hid (W.trans K);have e7:=hid (f3.fr K);have f0:=hid (c5.fr K);obtain⟨x0,x1⟩:=HX.out w4 (W.trans K);clear K y0 y1 W f3 c5 HS
   go_wp2_with fail
   refine Calls.mono (b5.out _ e7.out) ?_;rintro e w5 ⟨g0,h4,rfl,h5,a0⟩;have d9:=hid (d6.trans a0);have e6:=hid h5;have e0:=hid (f0.fr a0);clear a0 x0 x1 d6 e7 f0 b5 h5
   go_wp2_with fail
   refine Calls.mono (a9.out _ e0.out) ?_;rintro e w6 ⟨h8,h9,rfl,h6,b1⟩;have g7:=hid (d9.trans b1);have g6:=hid h6;have h2:=hid (e6.fr b1);clear b1 d9 e6 e0 a9 h6;go_wp2;go_roundw
   case rel=>exact⟨g0,h4,h8,h9,a2,i+1,g++[([],T)],by omega,b7,by omega,rfl,rfl,rfl,by go_num,a1,hid (by rw[<-g9.out];exact h2.out),hid (by rw[<-g2.out];exact g6.out),g7⟩
   case measure=>simp[intOf];omega
  ·have c6:i=N:=by omega
   subst c6;have j5:¬((i:Int)<(i:Int)):=by omega
   have g4:=hI.done;have u:=hid hI.n;subst g4;obtain⟨x,R⟩:∃x,g.map (·.2)=x:=⟨_,rfl⟩;have d0:=hid (B6r indent (inn+1) true g H (by have:=O.out;omega));have f4:=hid (λp (A:p∈g)=>D3f A)
   have g8:=hid (show∀(j:Nat) p,x[j]? =some p->p.length<=100000000000 from by
    intro j p A;rw[<-R]at A;obtain⟨q,hq,rfl⟩:=List.mem_map.1 (List.mem_of_getElem? A)
    exact Nat.le_trans (f4.out q hq) a4.out)
   have D:=hid (show x.length=i from by rw[<-R,List.length_map,u.out]);rw[R]at hP d0 HU;clear R f4 hI hK d3 e3;by_cases d4:i=0
   ·subst d4
    have V:A7w indent inn false x=[91,93]:=by unfold A7w;rw[if_pos D.out];rfl
    rw[V]at HU;have a8:=hid (X.trans hF.out);have c7:(⟨#[91]⟩:ByteArray)++(⟨#[93]⟩:ByteArray)=ofL [91,93]:=rfl;have k4:(⟨#[91]⟩:ByteArray).size=1:=rfl;have j3:(⟨#[93]⟩:ByteArray).size=1:=rfl;go_wp2;go_ret;exact⟨by rw[<-HU.out];rfl,a8.out⟩
   ·have i4:((i:Int)==0)=false:=bqF (by omega)
    obtain⟨J,hJ⟩:∃J,91::A2r indent (inn+1) true x=J:=⟨_,rfl⟩;have V:A7w indent inn false x=J++A6p indent inn++[93]:=by unfold A7w;rw[if_neg (by have:=D.out;omega),<-hJ];simp[F2r,G3m]
    have i0:J.length<=100000000001:=by rw[<-hJ,List.length_cons];have:=d0.out;have:=a4.out;omega
    rw[V]at HU;obtain⟨gi,rfl⟩:=A5s hP.1 (by have:=D.out;omega)
    have c4:=hid (show∀(c:World) (j:Nat) p,Fr (λ_=>False) wr c->x[j]? =some p->c.cell? ⟨gi,j,none⟩=some (.string (ofL p))from by
     intro c j p P A;have h1:=A7e hP.1 P (λ_ _=>id);rw[D.out]at h1
     exact A2c h1 j _ (by unfold B5q;rw[List.getElem?_map,A];rfl))
    have c9:=hid (λc=>a3.out inn c (by omega));have b2:=hid (λc=>a3.out (inn+1) c (by omega));have f1:=B2t indent inn H (by have:=O.out;omega);have e4:=B2t indent (inn+1) H (by have:=O.out;omega);have d7:=hid (show[91]++A2r indent (inn+1) (decide (0=0)) (x.drop 0)=J from hJ);have e2:=hid (λ(j:Nat) (p S:LU8) (A:x[j]? =some p)=>C0z indent (inn+1) x j p S A);obtain⟨z,d2⟩:∃z,A6p indent inn=z:=⟨_,rfl⟩;obtain⟨f,e9⟩:∃f,A6p indent (inn+1)=f:=⟨_,rfl⟩;rw[d2]at c9 f1 HU;rw[e9]at b2 e4 e2;have d1:=hid (Fr.refl (λ_=>False) wr);clear d2 e9 V hJ a3;generalize inn+1=inn1 at*;go_wp2
    go_loopw [20,22] (λs2 t wj=>∃(j:Nat) (S:LU8),j<=i/\s2=.string (ofL S)/\t=.int .i64 (j:Int)/\Hid (S++A2r indent inn1 (decide (j=0)) (x.drop j)=J)/\Hid (Fr (λ_=>False) wr wj)) (λ_ t _=>i-(intOf t).toNat)
    case atStart=>exact⟨0,[91],by omega,rfl,by go_num,d7,d1⟩
    case round=>
     clear d7 d1 x0 x1
     rename_i wr0
     obtain⟨j,S,j1,rfl,rfl,hS,C⟩:=hrel;by_cases i7:j<i
     ·have k6:(j:Int)<(i:Int):=by omega
      obtain⟨p,A⟩:∃p,x[j]? =some p:=⟨x[j]'(by have:=D.out;omega),List.getElem?_eq_getElem _⟩;have i1:=c4.out _ j p C.out A;have i8:=g8.out j p A;have v:=e2.out j p S A;rw[hS.out]at v;have B:=congrArg List.length v;have j8:IntKind.i64.wrap ((j:Int)+1)=(j:Int)+1:=IntWalk.i64_in _ (by omega);have z1:(ofL S).size=S.length:=A0c S;have z2:(ofL f).size=f.length:=A0c f;have z3:(ofL p).size=p.length:=A0c p;have c8:=hid (λn=>C.drewN n);by_cases a5:j=0
      ·subst a5
       rw[if_pos rfl,List.append_nil]at v B;have M:ofL S++ofL f=ofL (S++f):=A0j _ _;have m:ofL (S++f)++ofL p=ofL (S++f++p):=A0j _ _;have z4:(ofL (S++f)).size=S.length+f.length:=by rw[A0c];simp
       have b3:=hid v.symm;simp only[List.length_append]at B;obtain⟨Y,o⟩:∃Y,ofL (S++f++p)=Y:=⟨_,rfl⟩;rw[o]at m;have I:=hid o;generalize ofL (S++f)=A1 at*;generalize ofL S=A0 at*;generalize ofL f=L1 at*;generalize ofL p=PP at*;clear v o A hS C;go_wp2;go_quiet ((go_at_call 80;exact Calls.quiet_of_same (b2.out _)));go_wp2;go_roundw
       case rel=>exact⟨1,S++f++p,by omega,by rw[I.out],by go_num,b3,hid (c8.out _)⟩
       case measure=>simp[intOf];omega
      ·rw[if_neg a5]at v B
       have i6:(0:Int)<(j:Int):=by omega
       have h0:ofL S++(⟨#[44]⟩:ByteArray)=ofL (S++[44]):=A0j _ [44];have M:ofL (S++[44])++ofL f=ofL (S++[44]++f):=A0j _ _;have m:ofL (S++[44]++f)++ofL p=ofL (S++[44]++f++p):=A0j _ _;have z4:(ofL (S++[44]++f)).size=S.length+1+f.length:=by rw[A0c];simp only[List.length_append,List.length_singleton]
       have z5:(ofL (S++[44])).size=S.length+1:=by rw[A0c];simp
       have z6:(⟨#[44]⟩:ByteArray).size=1:=rfl;have b3:=hid v.symm;simp only[List.length_append,List.length_singleton]at B;obtain⟨Y,o⟩:∃Y,ofL (S++[44]++f++p)=Y:=⟨_,rfl⟩;rw[o]at m;have I:=hid o;generalize ofL (S++[44]++f)=A1 at*;generalize ofL (S++[44])=A01 at*;generalize ofL S=A0 at*;generalize ofL f=L1 at*;generalize ofL p=PP at*;clear v o A hS C a5;go_wp2;go_quiet ((go_at_call 80;exact Calls.quiet_of_same (b2.out _)));go_wp2;go_roundw
       case rel=>exact⟨j+1,S++[44]++f++p,by omega,by rw[I.out],by go_num,b3,hid (c8.out _)⟩
       case measure=>simp[intOf];omega
     ·obtain rfl:j=i:=by omega
      have i9:¬((j:Int)<(j:Int)):=by omega
      have h7:S=J:=by
       have:=hS.out;rw[List.drop_eq_nil_of_le (by have:=D.out;omega)]at this;simpa[A2r]using this
      subst h7;have a8:=hid (X.trans (hF.trans C.out));have z1:(ofL S).size=S.length:=A0c S;have z2:(ofL z).size=z.length:=A0c z;have z3:(⟨#[93]⟩:ByteArray).size=1:=rfl;have M:ofL S++ofL z=ofL (S++z):=A0j _ _;have m:ofL (S++z)++(⟨#[93]⟩:ByteArray)=ofL (S++z++[93]):=A0j _ [93];have z4:(ofL (S++z)).size=S.length+z.length:=by rw[A0c];simp
      obtain⟨Y,o⟩:∃Y,ofL (S++z++[93])=Y:=⟨_,rfl⟩;rw[o]at m;have I:=hid o;generalize ofL (S++z)=A1 at*;generalize ofL S=A0 at*;generalize ofL z=L0 at*;clear o hS C d4
      go_wp2_with fail
      refine Calls.mono (c9.out _) ?_;rintro e w7 ⟨rfl,rfl⟩;go_wp2;go_ret;exact⟨by rw[<-HU.out,I.out];rfl,a8.out⟩
end Go.Proofs.YtmkkibaacclhnaaGreatDoor
