/-
  Part Srb.
-/
import Derived.Test.YtmkkibaacclhnaaGreatDoorTnr
import Derived.Test.YtmkkibaacclhnaaGreatDoorStr
import Derived.Test.YtmkkibaacclhnaaGreatDoorNce
import Derived.Deep.QuietTactic
import Derived.BigQuiet
import Derived.Deep.RegionWith
import Derived.Deep.DeepCutAuto
namespace Go.Proofs.YtmkkibaacclhnaaGreatDoor
open Go.RowKit
set_option maxRecDepth 100000
set_option maxHeartbeats 16000000
theorem A0a {w:World} {B T j:Nat} {a:Array Value} {v:Value} (h:w.heap[B]? =some (.cells a T (0,0))) (b:a[j]? =some v):w.cell? ⟨B,j,none⟩=some v:=by simp[World.cell?,h,b]
theorem A0b {w:World} {B T j:Nat} {a:Array Value} (h:w.heap[B]? =some (.cells a T (0,0))):w.frozen? ⟨B,j,none⟩=false:=by simp[World.frozen?,h]
def G0i (v v':Value) (w:World):Prop:=∀g,v'.ownBlock=some g->v.ownBlock=some g\/w.heap.size<=g
theorem B5u {w c:World} {base e size n m:Nat} {v b:Value} {xs ys:List Value} (h:c.ownsRow 0 e size b n xs) (i:w.ownsRow base e size v m ys) (l:base<=w.heap.size) (f:∀g',b.ownBlock=some g'->v.ownBlock=some g'\/w.heap.size+1<=g'):c.ownsRow base e size b n xs:=by
 refine⟨h.1,?_⟩;rcases h.2 with k|⟨g,cap,a,d,_,j⟩
 ·exact .inl k
 ·refine .inr ⟨g,cap,a,d,?_,j⟩
  rcases f g (by rw[d];rfl)with h5|h5
  ·exact(i.lt g h5).1
  ·omega
def D1f (base B o T:Nat) (cs:Array Value) (w w':World) (v:Value) (x:List Nat×Int):Prop:=
 ∃v',w'.heap[B]? =some (.cells ((cs.setIfInBounds o v').setIfInBounds (o+1) (.int .i64 x.2)) T (0,0))/\w'.ownsRow base 5 1 v' x.1.length (bs x.1)/\Fr (λi=>i=B\/v.ownBlock=some i) w w'/\G0i v v' w
theorem B0n {a:Array Value} {j:Nat} {v:Value} (h:a[j]? =some v):a.setIfInBounds j v=a:=by
 apply Array.ext_getElem?;intro i;rw[Array.getElem?_setIfInBounds];split
 ·rename_i e;subst e
  split
  ·exact h.symm
  ·rename_i hn;rw[Array.getElem?_eq_none (by omega)]
 ·rfl
theorem A0d {a:Array Value} {j k:Nat} {v:Value} (h:j≠k):(a.setIfInBounds j v)[k]? =a[k]? :=by
 rw[Array.getElem?_setIfInBounds,if_neg h]
theorem D1g (base B o T:Nat) (t:Array Value) (D:List Nat) (P:Int) (c:UInt8) (v:Value) (w:World) (hT:T≠5) (Q:base<=w.heap.size) (s:w.heap[B]? =some (.cells t T (0,0)))
 (C:t[o]? =some v) (r:t[o+1]? =some (.int .i64 P)) (z:w.ownsRow base 5 1 v D.length (bs D)) (a6:D.length<=769) (a9: -4000000000000000<=P) (a8:P<=4000000000000000) (hc:isD c=true):
 Calls Tryz.prog 58 #[.pointer (some ⟨B,o,none⟩),.int .u8 (c.toNat:Int)] w λe w'=>e=.returned (.tuple #[])/\D1f base B o T t w w' v (A5p (D,P) (c.toNat-48)):=by
 obtain⟨b0,a7⟩:=(A6h c).1 hc;obtain⟨a,cap,rfl⟩:=A3y z;have N:=A0a s C;have V:=A0a s r;have U:=A0b (j:=o) s;have R:=A0b (j:=o+1) s;have hro:=A2i z s hT;have H:=lt_of_block s;obtain⟨i0,hi,W,Y,S⟩:=info_parts Tryz.info5;by_cases A:D.length=0/\c.toNat=48
 ·have a4:D=[]:=List.eq_nil_of_length_eq_zero A.1
  subst a4;have O:((c.toNat:Int)==48)=true:=by simp;omega
  have m:A5p ([],P) (c.toNat-48)=([],P-1):=by simp[A5p,A.2]
  have J:=hid m;have a5:=hid (heap_setCell_same w B (o+1) t T (.int .i64 (P-1)) s);have HO:=hid z;have HE:=hid (B0n C);have HH:=hid s;clear A m z C r s;simp only[List.length_nil]at*;go_enter Tryz.func58,Tryz.ntmps58;go_wp2;go_end0;rw[J.out];refine⟨rfl,.slice a 0 cap,?_,ownsRow_setCell_other HO.out (a:=⟨B,o+1,none⟩) hro _,(Fr.refl _ w).setCell (.inl (.inl rfl)) _,λ_ h=>.inl h⟩;rw[HE.out];exact a5.out
 ·by_cases p:D.length<768
  ·have m:A5p (D,P) (c.toNat-48)=(D++[c.toNat-48],P):=by
    unfold A5p;rw[if_neg (by rintro⟨r,h2⟩;simp only at r;apply A;rw[r];exact⟨rfl,by omega⟩),if_pos p]
   have J:=hid m;have HE:=hid (show(t.setIfInBounds o (.slice a D.length cap)).setIfInBounds (o+1) (.int .i64 P)=t by rw[B0n C,B0n r]);have X:=hid r;clear m
   have G:∀q:World,∀y,q.ownsRow base 5 1 y (D.length+1) (bs D++[.int .u8 (c.toNat:Int)])->(w.alloc (.cells #[.int .u8 (c.toNat:Int)] 5)).grownBy q (Value.ownBlock (.slice a D.length cap))->(∀I,y.ownBlock=some I->(Value.slice a D.length cap).ownBlock=some I\/w.heap.size+1<=I)->
    D1f base B o T t w (q.setCell ⟨B,o,none⟩ y) (.slice a D.length cap) (D++[c.toNat-48],P):=by
    intro q y b d f
    have i:q.heap[B]? =some (.cells t T (0,0)):=by
     rw[d.block B (by simp;omega) (λe=>hro e.symm),Below.heap_alloc _ _ _ H];exact s
    have F:=A2i b i hT;refine⟨y,?_,D3y (ownsRow_setCell_other b (a:=⟨B,o,none⟩) F _) (by omega),(((Fr.refl _ w).alloc _).grown d (λk hk=>.inl (.inr hk))).setCell (.inl (.inl rfl)) _,λg hg=>(f g hg).imp id (λh=>by omega)⟩;rw[B0n (j:=o+1) (by rw[A0d (by omega)];exact X.out)];exact heap_setCell_same q B o t T y i
   have K:=hid G;clear G;by_cases a0:D.length=0
   ·have a3:((D.length:Int)==0)=true:=beq_iff_eq.2 (by omega)
    have O:((c.toNat:Int)==48)=false:=by simp;omega
    have HA:=hid A;have b1:=hid a0;have E:=hid C;clear A a0 C r;go_enter Tryz.func58,Tryz.ntmps58
    go_wp2_with (first
     |(at_builtin;refine A0g _ rfl _ _ 65 rfl 5 i0 (.int .u8 0) 1 1 Tryz.underlying65 hi W Y S rfl (by decide) _ _ _ rfl (A1j (z.alloc _)) ⟨w.heap.size,0,none⟩ 1 1 [.int .u8 (c.toNat:Int)] rfl rfl ?c1 ?c2 ?c3 ?c4 ?_)
     |go_in)
    case c1=>exact cell_one_new _ _ _
    case c2=>intro u M;simp at M;subst M;rfl
    case c3=>unfold maxLen;omega
    case c4=>omega
    intro y q l d f;have b:=B5u l z Q f;obtain⟨I,L,rfl⟩:=A4g b
    have i:q.heap[B]? =some (.cells t T (0,0)):=by
     rw[d.block B (by simp;omega) (λe=>hro e.symm),Below.heap_alloc _ _ _ H];exact s
    have a1:=A0b (j:=o) i;have a2:=A0a i E.out;have x:=hid (K.out q _ b d f);clear b l d f i s z N V U R hro;go_wp2;go_end0;rw[J.out];exact⟨rfl,x.out⟩
   ·have a3:((D.length:Int)==0)=false:=bqF (by omega)
    have HA:=hid A;clear A;have E:=hid C;clear C r;go_enter Tryz.func58,Tryz.ntmps58
    go_wp2_with (first
     |(at_builtin;refine A0g _ rfl _ _ 65 rfl 5 i0 (.int .u8 0) 1 1 Tryz.underlying65 hi W Y S rfl (by decide) _ _ _ rfl (A1j (z.alloc _)) ⟨w.heap.size,0,none⟩ 1 1 [.int .u8 (c.toNat:Int)] rfl rfl ?c1 ?c2 ?c3 ?c4 ?_)
     |go_in)
    case c1=>exact cell_one_new _ _ _
    case c2=>intro u M;simp at M;subst M;rfl
    case c3=>unfold maxLen;omega
    case c4=>omega
    intro y q l d f;have b:=B5u l z Q f;obtain⟨I,L,rfl⟩:=A4g b
    have i:q.heap[B]? =some (.cells t T (0,0)):=by
     rw[d.block B (by simp;omega) (λe=>hro e.symm),Below.heap_alloc _ _ _ H];exact s
    have a1:=A0b (j:=o) i;have a2:=A0a i E.out;have x:=hid (K.out q _ b d f);clear b l d f i s z N V U R hro;go_wp2;go_end0;rw[J.out];exact⟨rfl,x.out⟩
  ·have a3:((D.length:Int)==0)=false:=bqF (by omega)
   by_cases n:D.length=768/\¬c.toNat=48
   ·have m:A5p (D,P) (c.toNat-48)=(D++[1],P):=by
     unfold A5p;rw[if_neg (by rintro⟨r,h2⟩;simp only at r;rw[r]at p;simp at p),if_neg p,if_pos ⟨n.1,by omega⟩]
    have J:=hid m;have hq:((D.length:Int)==768)=true:=beq_iff_eq.2 (by omega);have O:((c.toNat:Int)!=48)=true:=by rw[bne_iff_ne];omega
    have X:=hid r;have E:=hid C
    have G:∀q:World,∀y,q.ownsRow base 5 1 y (D.length+1) (bs D++[.int .u8 49])->(w.alloc (.cells #[.int .u8 49] 5)).grownBy q (Value.ownBlock (.slice a D.length cap))->(∀I,y.ownBlock=some I->(Value.slice a D.length cap).ownBlock=some I\/w.heap.size+1<=I)->
     D1f base B o T t w (q.setCell ⟨B,o,none⟩ y) (.slice a D.length cap) (D++[1],P):=by
     intro q y b d f
     have i:q.heap[B]? =some (.cells t T (0,0)):=by
      rw[d.block B (by simp;omega) (λe=>hro e.symm),Below.heap_alloc _ _ _ H];exact s
     have F:=A2i b i hT;refine⟨y,?_,D3y (ownsRow_setCell_other b (a:=⟨B,o,none⟩) F _) (by omega),(((Fr.refl _ w).alloc _).grown d (λk hk=>.inl (.inr hk))).setCell (.inl (.inl rfl)) _,λg hg=>(f g hg).imp id (λh=>by omega)⟩;rw[B0n (j:=o+1) (by rw[A0d (by omega)];exact X.out)];exact heap_setCell_same q B o t T y i
    have K:=hid G;have H7:=hid n;have HA:=hid A;clear m A n G C r;go_enter Tryz.func58,Tryz.ntmps58
    go_wp2_with (first
     |(at_builtin;refine A0g _ rfl _ _ 65 rfl 5 i0 (.int .u8 0) 1 1 Tryz.underlying65 hi W Y S rfl (by decide) _ _ _ rfl (A1j (z.alloc _)) ⟨w.heap.size,0,none⟩ 1 1 [.int .u8 49] rfl rfl ?c1 ?c2 ?c3 ?c4 ?_)
     |go_in)
    case c1=>exact cell_one_new _ _ _
    case c2=>intro u M;simp at M;subst M;rfl
    case c3=>unfold maxLen;omega
    case c4=>omega
    intro y q l d f;have b:=B5u l z Q f;obtain⟨I,L,rfl⟩:=A4g b
    have i:q.heap[B]? =some (.cells t T (0,0)):=by
     rw[d.block B (by simp;omega) (λe=>hro e.symm),Below.heap_alloc _ _ _ H];exact s
    have a1:=A0b (j:=o) i;have a2:=A0a i E.out;have x:=hid (K.out q _ b d f);clear b l d f i s z N V U R hro;go_wp2;go_end0;rw[J.out];exact⟨rfl,x.out⟩
   ·have m:A5p (D,P) (c.toNat-48)=(D,P):=by
     unfold A5p;rw[if_neg (by rintro⟨r,h2⟩;simp only at r;rw[r]at p;simp at p),if_neg p,if_neg (by rintro⟨r,h2⟩;exact n ⟨r,by omega⟩)]
    have J:=hid m;have HE:=hid (show(t.setIfInBounds o (.slice a D.length cap)).setIfInBounds (o+1) (.int .i64 P)=t by rw[B0n C,B0n r]);have HO:=hid z;have HH:=hid s;have HA:=hid A;clear m A z s C r;by_cases Z:D.length=768
    ·have hq:((D.length:Int)==768)=true:=beq_iff_eq.2 (by omega)
     have O:((c.toNat:Int)!=48)=false:=by rw[bne_eq_false_iff_eq];omega
     have H7:=hid n;have HQ:=hid Z;clear n Z;go_enter Tryz.func58,Tryz.ntmps58;go_wp2;go_end0;rw[J.out];exact⟨rfl,_,by rw[HE.out];exact HH.out,HO.out,Fr.refl _ w,λ_ h=>.inl h⟩
    ·have hq:((D.length:Int)==768)=false:=bqF (by omega)
     have H7:=hid n;clear n;go_enter Tryz.func58,Tryz.ntmps58;go_wp2;go_end0;rw[J.out];exact⟨rfl,_,by rw[HE.out];exact HH.out,HO.out,Fr.refl _ w,λ_ h=>.inl h⟩
structure Tr where
 st:Nat
 made:LU8
 lack:Nat
 lo:Nat
 hi:Nat
 dg:Nat
 code:Nat
 high:Nat
def tr0:Tr:=⟨0,[],0,0,0,0,0,0⟩
def B5v (c:UInt8):Option Nat:=
 if 48<=c.toNat/\c.toNat<=57 then some (c.toNat-48)
 else if 97<=c.toNat/\c.toNat<=102 then some (c.toNat-87)
 else if 65<=c.toNat/\c.toNat<=70 then some (c.toNat-55)
 else none
def C4r (c:UInt8):Option UInt8:=
 if c=34\/c=92\/c=47 then some c
 else if c=98 then some 8
 else if c=102 then some 12
 else if c=110 then some 10
 else if c=114 then some 13
 else if c=116 then some 9
 else none
def A3z (n:Nat):LU8:=
 if n<128 then[UInt8.ofNat n]
 else if n<2048 then[UInt8.ofNat (192+n/64),UInt8.ofNat (128+n % 64)]
 else if n<65536 then[UInt8.ofNat (224+n/4096),UInt8.ofNat (128+n/64 % 64),UInt8.ofNat (128+n % 64)]
 else[UInt8.ofNat (240+n/262144),UInt8.ofNat (128+n/4096 % 64),UInt8.ofNat (128+n/64 % 64),UInt8.ofNat (128+n % 64)]
def C4s (t:Tr) (c:UInt8):Except Nat Tr:=
 if 194<=c.toNat/\c.toNat<=244 then
  .ok ⟨1,t.made++[c],if c.toNat<=223 then 1 else if c.toNat<=239 then 2 else 3,if c.toNat=224 then 160 else if c.toNat=240 then 144 else 128,if c.toNat=237 then 159 else if c.toNat=244 then 143 else 191,t.dg,t.code,t.high⟩
 else .error 2
def A9f (t:Tr) (c:UInt8):Except Nat (Tr×Bool):=
 if c=92 then .ok (⟨2,t.made,t.lack,t.lo,t.hi,t.dg,t.code,t.high⟩,false)
 else if t.high≠0 then .error 5
 else if c=34 then .ok (t,true)
 else if c.toNat<32 then .error 3
 else if c.toNat<128 then .ok (⟨t.st,t.made++[c],t.lack,t.lo,t.hi,t.dg,t.code,t.high⟩,false)
 else(C4s t c).map (λt'=>(t',false))
def E9k (t:Tr) (c:UInt8):Except Nat Tr:=
 if c.toNat<t.lo\/t.hi<c.toNat then .error 2
 else .ok ⟨if t.lack-1=0 then 0 else t.st,t.made++[c],t.lack-1,128,191,t.dg,t.code,t.high⟩
def B7m (t:Tr) (c:UInt8):Except Nat Tr:=
 if c=117 then .ok ⟨3,t.made,t.lack,t.lo,t.hi,0,0,t.high⟩
 else if t.high≠0 then .error 5
 else match C4r c with
  |none=>.error 3
  |some x=>.ok ⟨0,t.made++[x],t.lack,t.lo,t.hi,t.dg,t.code,t.high⟩
def B9b (t:Tr):Tr:=
 if t.high≠0 then⟨0,t.made++A3z (65536+(t.high-55296)*1024+(t.code-56320)),t.lack,t.lo,t.hi,t.dg,t.code,0⟩
 else if 55296<=t.code/\t.code<56320 then⟨0,t.made,t.lack,t.lo,t.hi,t.dg,t.code,t.code⟩
 else⟨0,t.made++A3z t.code,t.lack,t.lo,t.hi,t.dg,t.code,t.high⟩
def A8k (t:Tr) (h:Nat):Tr:=⟨t.st,t.made,t.lack,t.lo,t.hi,t.dg+1,t.code*16+h,t.high⟩
def B7n (t:Tr) (c:UInt8):Except Nat Tr:=
 match B5v c with
 |none=>.error 3
 |some h=>
  if t.dg+1=1 then(if t.high≠0/\t.code*16+h≠13 then .error 5 else .ok (A8k t h))
  else if t.dg+1=2 then(if decide (220<=t.code*16+h/\t.code*16+h<224)≠decide (t.high≠0)then .error 5 else .ok (A8k t h))
  else if t.dg+1=4 then .ok (B9b (A8k t h))
  else .ok (A8k t h)
def A2q (t:Tr) (c:UInt8):Except Nat (Tr×Bool):=
 if t.st=1 then(E9k t c).map (λt'=>(t',false))
 else if t.st=2 then(B7m t c).map (λt'=>(t',false))
 else if t.st=3 then(B7n t c).map (λt'=>(t',false))
 else A9f t c
structure TrOk (t:Tr) (k:Nat):Prop where
 st:t.st<=3
 len:t.made.length<=4*k
 lack:t.lack<=3
 lack1:t.st=1->1<=t.lack
 lo:t.lo<=255
 hi:t.hi<=255
 dg:t.st=3->t.dg<=3
 dg4:t.dg<=4
 code:t.code<65536
 codeD:t.st=3->t.code<16^t.dg
 high:t.high=0\/(55296<=t.high/\t.high<56320)
 low2:t.st=3->t.dg=2->(t.high≠0↔220<=t.code/\t.code<224)
 low3:t.st=3->t.dg=3->(t.high≠0↔220<=t.code/16/\t.code/16<224)
theorem F4u:TrOk tr0 0:=by constructor<;>simp[tr0]
theorem A6i {c:UInt8} {h:Nat} (e:B5v c=some h):h<16:=by
 unfold B5v at e
 repeat' split at e
 all_goals (try cases e)
 all_goals omega
theorem B7y (n:Nat):(A3z n).length<=4:=by
 unfold A3z
 repeat' split
 all_goals simp
theorem TrOk.more {t:Tr} {k:Nat} (h:TrOk t k):TrOk t (k+1):=⟨h.st,by have:=h.len;omega,h.lack,h.lack1,h.lo,h.hi,h.dg,h.dg4,h.code,h.codeD,h.high,h.low2,h.low3⟩
theorem C7s {t o:Tr} {k:Nat} {c:UInt8} {b:Bool} (h:TrOk t k) (e:A2q t c=.ok (o,b)):TrOk o (k+1):=by
 have A:=h.len;unfold A2q at e;split at e
 ·
  rename_i h1
  unfold E9k at e;split at e
  ·cases e
  ·simp only[Except.map,Except.ok.injEq,Prod.mk.injEq]at e
   obtain⟨rfl,rfl⟩:=e;have s:=h.lack;have w:=h.lack1 h1;refine⟨by simp only;split<;>omega,by simp;omega,by simp only;omega,?_,by simp only;omega,by simp only;omega,?_,h.dg4,h.code,?_,h.high,?_,?_⟩
   ·simp only;intro l;split at l<;>omega
   all_goals (simp only;intro l;split at l<;>omega)
 split at e
 ·unfold B7m at e
  split at e
  ·simp only[Except.map,Except.ok.injEq,Prod.mk.injEq]at e
   obtain⟨rfl,rfl⟩:=e;refine⟨by simp,by simp only;omega,h.lack,by simp,h.lo,h.hi,by simp,by simp,by simp,by simp,h.high,by simp,by simp⟩
  split at e
  ·cases e
  ·cases a:C4r c with
   |none=>rw[a]at e;cases e
   |some x=>
    rw[a]at e;simp only[Except.map,Except.ok.injEq,Prod.mk.injEq]at e;obtain⟨rfl,rfl⟩:=e;refine⟨by simp,by simp;omega,h.lack,by simp,h.lo,h.hi,by simp,h.dg4,h.code,by simp,h.high,by simp,by simp⟩
 split at e
 ·rename_i h1 h2 h3
  unfold B7n at e;have q:=h.dg h3;have v:=h.codeD h3;have j:=h.low2 h3;have r:=h.low3 h3;cases a:B5v c with
  |none=>rw[a]at e;cases e
  |some x=>
   rw[a]at e;have y:=A6i a;simp only at e
   have f:t.code*16+x<16^(t.dg+1):=by
    rw[Nat.pow_succ];omega
   have i:16^(t.dg+1)<=65536:=by
    have:16^(t.dg+1)<=16^4:=Nat.pow_le_pow_right (by omega) (by omega);simpa using this
   have base:t.dg+1<=3->(t.dg+1=2->(t.high≠0↔220<=t.code*16+x/\t.code*16+x<224))->TrOk (A8k t x) (k+1):=by
    intro u g;refine⟨h.st,by show t.made.length<=_;omega,h.lack,h.lack1,h.lo,h.hi,λ_=>u,by show t.dg+1<=4;omega,by show t.code*16+x<65536;omega,λ_=>f,h.high,λ_ hd2=>g hd2,λ_ d=>?_⟩;have d:t.dg+1=3:=d
    show t.high≠0↔220<=(t.code*16+x)/16/\(t.code*16+x)/16<224
    rw[show(t.code*16+x)/16=t.code by omega];exact j (by omega)
   split at e
   ·rename_i hd1
    split at e
    ·cases e
    ·simp only[Except.map,Except.ok.injEq,Prod.mk.injEq]at e
     obtain⟨rfl,rfl⟩:=e;exact base (by omega) (by omega)
   split at e
   ·rename_i hd1 hd2
    split at e
    ·cases e
    ·rename_i hne
     simp only[Except.map,Except.ok.injEq,Prod.mk.injEq]at e;obtain⟨rfl,rfl⟩:=e;refine base (by omega) (λ_=>?_);simp only[ne_eq,decide_eq_decide,Classical.not_not]at hne;exact hne.symm
   split at e
   ·rename_i hd1 hd2 hd4
    simp only[Except.map,Except.ok.injEq,Prod.mk.injEq]at e;obtain⟨rfl,rfl⟩:=e;have m:t.code*16+x<65536:=by omega
    have z:=B7y (65536+(t.high-55296)*1024+(t.code*16+x-56320));have p:=B7y (t.code*16+x);unfold B9b;split
    ·refine⟨by simp,?_,h.lack,by simp,h.lo,h.hi,by simp,by simp[A8k];omega,by simp only[A8k];omega,by simp,.inl rfl,by simp,by simp⟩
     simp only[A8k,List.length_append]at*;omega
    split
    ·rename_i hs
     refine⟨by simp,by simp only[A8k];omega,h.lack,by simp,h.lo,h.hi,by simp,by simp[A8k];omega,by simp only[A8k];omega,by simp,.inr hs,by simp,by simp⟩
    ·refine⟨by simp,?_,h.lack,by simp,h.lo,h.hi,by simp,by simp[A8k];omega,by simp only[A8k];omega,by simp,h.high,by simp,by simp⟩
     simp only[A8k,List.length_append]at*;omega
   ·simp only[Except.map,Except.ok.injEq,Prod.mk.injEq]at e
    obtain⟨rfl,rfl⟩:=e;exact base (by omega) (by omega)
 ·rename_i h1 h2 h3
  have n:t.st=0:=by have:=h.st;omega
  unfold A9f at e;split at e
  ·simp only[Except.ok.injEq,Prod.mk.injEq]at e
   obtain⟨rfl,rfl⟩:=e;refine⟨by simp,by simp only;omega,h.lack,by simp,h.lo,h.hi,by simp,h.dg4,h.code,by simp,h.high,by simp,by simp⟩
  split at e
  ·cases e
  split at e
  ·simp only[Except.ok.injEq,Prod.mk.injEq]at e
   obtain⟨rfl,rfl⟩:=e;exact h.more
  split at e
  ·cases e
  split at e
  ·simp only[Except.ok.injEq,Prod.mk.injEq]at e
   obtain⟨rfl,rfl⟩:=e;refine⟨h.st,by simp;omega,h.lack,h.lack1,h.lo,h.hi,h.dg,h.dg4,h.code,h.codeD,h.high,h.low2,h.low3⟩
  ·unfold C4s at e
   split at e
   ·simp only[Except.map,Except.ok.injEq,Prod.mk.injEq]at e
    obtain⟨rfl,rfl⟩:=e;refine⟨by simp,by simp;omega,by simp only;split<;>(try split)<;>omega,by simp only;intro _;split<;>(try split)<;>omega,by simp only;split<;>(try split)<;>omega,by simp only;split<;>(try split)<;>omega,by simp,h.dg4,h.code,by simp,h.high,by simp,by simp⟩
   ·cases e
def B1d (A:Nat->Prop) (w w':World):Prop:=∀i,A i->w'.heap[i]? =w.heap[i]?
theorem B1d.trans {A:Nat->Prop} {a b c:World} (h:B1d A a b) (k:B1d A b c):B1d A a c:=λi hi=>(k i hi).trans (h i hi)
theorem E1x {S A:Nat->Prop} {w0 w:World} {b N m f:Nat} {args:Array Value} {l:List (Nat×Nat)} {n:Ending}
 (r:∀g,Nt w b g N->Calls Tryz.prog f args w λe w'=>e=n/\∃c,Nt w' b c m/\Fr (λi=>i=b\/i=g) w w'/\(c=g\/w.heap.size<=c))
 (h:Sx S A w0 w ((b,N)::l)):Calls Tryz.prog f args w λe w'=>e=n/\Sx S A w0 w' ((b,m)::l)/\B1d A w w':=by
 obtain⟨L,a,p,q,o,k⟩:=h;cases L with
 |nil=>simp at a
 |cons t L=>
  obtain⟨v,g,x⟩:=t;simp at a;obtain⟨⟨rfl,rfl⟩,a⟩:=a;refine(r g p.1).mono ?_;rintro e w' ⟨rfl,c,u,j,s⟩;refine⟨rfl,Sx.step a p q o k u j s,λi hi=>j.block i (k i hi) ?_⟩;have d:=(o _ List.mem_cons_self).2;simp only at d;rintro(rfl|rfl)
  ·exact d.1 hi
  ·exact d.2 hi
theorem B1k {S A:Nat->Prop} {w0 w:World} {l:List (Nat×Nat)} (b N f c:Nat) (j:Sm N) (d:f<4294967296) (a:0<f) (i:c<4294967296) (h:Sx S A w0 w ((b,N)::l)):
 Calls Tryz.prog 122 #[.pointer (some ⟨b,0,none⟩),.int .u32 f,.int .u32 c] w λe w'=>e=.returned (.tuple #[])/\Sx S A w0 w' ((b,f*N+c)::l)/\B1d A w w':=
 E1x (λg hg=>A6w b g N f c w j d a i hg) h
theorem A9g {S A:Nat->Prop} {w0 w:World} {l:List (Nat×Nat)} (b N k:Nat) (c:Sm (N*p10 k)) (a:k<=100000) (h:Sx S A w0 w ((b,N)::l)):
 Calls Tryz.prog 161 #[.pointer (some ⟨b,0,none⟩),.int .i64 k] w λe w'=>e=.returned (.tuple #[])/\Sx S A w0 w' ((b,N*p10 k)::l)/\B1d A w w':=
 E1x (λg hg=>A9b b g N k w c hg a) h
theorem C7t {S A:Nat->Prop} {w0 w:World} {l:List (Nat×Nat)} (b N k:Nat) (a:k<=30000) (c:Sm (p2 k*N)) (h:Sx S A w0 w ((b,N)::l)):
 Calls Tryz.prog 114 #[.pointer (some ⟨b,0,none⟩),.int .i64 k] w λe w'=>e=.returned (.tuple #[])/\Sx S A w0 w' ((b,p2 k*N)::l)/\B1d A w w':=
 E1x (λg hg=>B6v b g N k w a hg c) h
theorem B9c {S A:Nat->Prop} {w0 w:World} {l:List (Nat×Nat)} (b N c M:Nat) (r:Sm N) (k:Sm M) (m:M<=N) (h:Sx S A w0 w ((b,N)::(c,M)::l)):
 Calls Tryz.prog 118 #[.pointer (some ⟨b,0,none⟩),.pointer (some ⟨c,0,none⟩)] w λe w'=>e=.returned (.tuple #[])/\Sx S A w0 w' ((b,N-M)::(c,M)::l)/\B1d A w w':=by
 obtain⟨L,t,f,q,p,o⟩:=h
 match L,t with
 |(b',g,N0)::(c',h',M0)::L,d=>
  simp at d;obtain⟨⟨rfl,rfl⟩,⟨rfl,rfl⟩,d⟩:=d;have a:=f.2.1 _ List.mem_cons_self;simp only at a;refine(B8v b' g c' h' N0 M0 w r k m f.1 f.2.2.1 a.1.symm a.2.2.1.symm a.2.1.symm a.2.2.2.symm).mono ?_;rintro e w' ⟨rfl,s,n⟩;refine⟨rfl,Sx.step (by simp[d]) f q p o s n (.inl rfl),λi hi=>n.block i (o i hi) ?_⟩;have j:=(p _ List.mem_cons_self).2;simp only at j;rintro(rfl|rfl)
  ·exact j.1 hi
  ·exact j.2 hi
theorem Sx.inA {S A:Nat->Prop} {w0 w:World} {l:List (Nat×Nat)} (h:Sx S A w0 w l) (i:Nat) (a:A i):i<w.heap.size:=h.choose_spec.2.2.2.2 i a
def A4a (w:World) (B:Nat) (dg:Nat) (pw:Int) (br bl bh bu:Nat) (ends:Bool):Prop:=
 w.heap[B]? =some (.cells #[.int .u64 dg,.int .i64 pw,.pointer (some ⟨br,0,none⟩),.pointer (some ⟨bl,0,none⟩),.pointer (some ⟨bh,0,none⟩),.pointer (some ⟨bu,0,none⟩),.bool ends] 143 (0,0))
theorem A4a.cells {w:World} {B b:Nat} {g:Int} {e d f c:Nat} {a:Bool} (h:A4a w B b g e d f c a):
 w.cell? ⟨B,0,none⟩=some (.int .u64 b)/\w.cell? ⟨B,1,none⟩=some (.int .i64 g)/\w.cell? ⟨B,2,none⟩=some (.pointer (some ⟨e,0,none⟩))/\w.cell? ⟨B,3,none⟩=some (.pointer (some ⟨d,0,none⟩))/\
 w.cell? ⟨B,4,none⟩=some (.pointer (some ⟨f,0,none⟩))/\w.cell? ⟨B,5,none⟩=some (.pointer (some ⟨c,0,none⟩))/\w.cell? ⟨B,6,none⟩=some (.bool a)/\∀j,w.frozen? ⟨B,j,none⟩=false:=by
 unfold A4a at h;simp[World.cell?,World.frozen?,h]
theorem A4a.set0 {w:World} {B i:Nat} {g:Int} {e c f b:Nat} {a:Bool} (h:A4a w B i g e c f b a) (d:Nat):A4a (w.setCell ⟨B,0,none⟩ (.int .u64 d)) B d g e c f b a:=by
 have:=heap_setCell_same w B 0 _ 143 (.int .u64 d) h;simpa[A4a]using this
theorem A4a.set1 {w:World} {B b:Nat} {g:Int} {e d f c:Nat} {a:Bool} (h:A4a w B b g e d f c a) (p:Int):A4a (w.setCell ⟨B,1,none⟩ (.int .i64 p)) B b p e d f c a:=by
 have:=heap_setCell_same w B 1 _ 143 (.int .i64 p) h;simpa[A4a]using this
theorem A4a.set3 {w:World} {B c:Nat} {g:Int} {e i f d:Nat} {a:Bool} (h:A4a w B c g e i f d a) (b:Nat):A4a (w.setCell ⟨B,3,none⟩ (.pointer (some ⟨b,0,none⟩))) B c g e b f d a:=by
 have:=heap_setCell_same w B 3 _ 143 (.pointer (some ⟨b,0,none⟩)) h;simpa[A4a]using this
theorem A4a.keep {w w':World} {A:Nat->Prop} {B b:Nat} {f:Int} {e d g c:Nat} {a:Bool} (h:A4a w B b f e d g c a) (j:B1d A w w') (i:A B):A4a w' B b f e d g c a:=(j B i).trans h
structure St (A:Nat->Prop) (w0 w:World) (B dg:Nat) (pw:Int) (R L H U:Nat) (br bl bh bu:Nat) (ends:Bool):Prop where
 sv:A4a w B dg pw br bl bh bu ends
 sx:Sx (λ_=>False) A w0 w [(br,R),(bl,L),(bh,H),(bu,U)]
 inA:A B
 new:w0.heap.size<=B
theorem St.drewN {A:Nat->Prop} {w0 w:World} {B b:Nat} {f:Int} {R L H U e d g c:Nat} {a:Bool} (h:St A w0 w B b f R L H U e d g c a) (m:Nat):St A w0 (w.drewN m) B b f R L H U e d g c a:=⟨h.sv,h.sx.drewN m,h.inA,h.new⟩
theorem St.set0 {A:Nat->Prop} {w0 w:World} {B j:Nat} {f:Int} {R L H U e c g b:Nat} {a:Bool} (h:St A w0 w B j f R L H U e c g b a) (d:Nat):St A w0 (w.setCell ⟨B,0,none⟩ (.int .u64 d)) B d f R L H U e c g b a:=
 ⟨h.sv.set0 d,h.sx.other (T:=λi=>i=B) ((Fr.refl (λi=>i=B) w).setCell (p:=⟨B,0,none⟩) (.inl rfl) _) (λi hi=>.inr (by have:=h.new;omega)) (λi hi=>by rw[hi];exact h.inA),h.inA,h.new⟩
theorem St.set1 {A:Nat->Prop} {w0 w:World} {B b:Nat} {g:Int} {R L H U e d f c:Nat} {a:Bool} (h:St A w0 w B b g R L H U e d f c a) (p:Int):St A w0 (w.setCell ⟨B,1,none⟩ (.int .i64 p)) B b p R L H U e d f c a:=
 ⟨h.sv.set1 p,h.sx.other (T:=λi=>i=B) ((Fr.refl (λi=>i=B) w).setCell (p:=⟨B,1,none⟩) (.inl rfl) _) (λi hi=>.inr (by have:=h.new;omega)) (λi hi=>by rw[hi];exact h.inA),h.inA,h.new⟩
theorem G3r {α:Type} (a b c d:α):[a,b,c,d].Perm [c,a,b,d]:=by
 have:[a,b,c,d].Perm [a,c,b,d]:=(List.Perm.swap _ _ _).cons _;exact this.trans (List.Perm.swap _ _ _)
theorem F6r {A:Nat->Prop} {w0 w:World} {r l h u:Nat×Nat} (a:Sx (λ_=>False) A w0 w [r,l,h,u]):Sx (λ_=>False) A w0 w [l,r,h,u]:=a.swap
theorem G3k {A:Nat->Prop} {w0 w:World} {r l h u:Nat×Nat} (a:Sx (λ_=>False) A w0 w [r,l,h,u]):Sx (λ_=>False) A w0 w [h,r,l,u]:=a.perm (G3r r l h u)
theorem F6s {A:Nat->Prop} {w0 w:World} {r l h u:Nat×Nat} (a:Sx (λ_=>False) A w0 w [h,r,l,u]):Sx (λ_=>False) A w0 w [r,l,h,u]:=a.perm (by
 have:[h,r,l,u].Perm [r,h,l,u]:=List.Perm.swap _ _ _
 exact this.trans ((List.Perm.swap _ _ _).cons _))
theorem E0r {A:Nat->Prop} {w0 w:World} {r l h u:Nat×Nat} (a:Sx (λ_=>False) A w0 w [r,l,h,u]):Sx (λ_=>False) A w0 w [u,r,l,h]:=a.perm (by
 have:([r,l,h]++[u]).Perm ([u]++[r,l,h]):=List.perm_append_comm
 exact this)
theorem C7u {A:Nat->Prop} {w0 w:World} {r l h u:Nat×Nat} (a:Sx (λ_=>False) A w0 w [u,r,l,h]):Sx (λ_=>False) A w0 w [r,l,h,u]:=a.perm (by
 have:([u]++[r,l,h]).Perm ([r,l,h]++[u]):=List.perm_append_comm
 exact this)
theorem G3s {A:Nat->Prop} {w0 w:World} {r l h u:Nat×Nat} (a:Sx (λ_=>False) A w0 w [r,l,h,u]):Sx (λ_=>False) A w0 w [r,u,l,h]:=(E0r a).swap
theorem F4v {A:Nat->Prop} {w0 w:World} {r l h u:Nat×Nat} (a:Sx (λ_=>False) A w0 w [r,u,l,h]):Sx (λ_=>False) A w0 w [r,l,h,u]:=C7u a.swap
def wi (g r:Nat) (ends:Bool):Bool:=decide (g<r)||(decide (g=r)&&ends)
theorem D6t {S A:Nat->Prop} {w0 w:World} {l o:List (Nat×Nat)} (B g j G R:Nat) (a:Bool) (k:Sm G) (f:Sm R) (h:Sx S A w0 w ((g,G)::l)) (n:Sx S A w0 w ((j,R)::o)) (y:w.cell? ⟨B,6,none⟩=some (.bool a)):
 Calls Tryz.prog 119 #[.pointer (some ⟨B,0,none⟩),.pointer (some ⟨g,0,none⟩),.pointer (some ⟨j,0,none⟩)] w λe w'=>e=.returned (.bool (wi G R a))/\∃m,w'=w.drewN m:=by
 have t:=hid h;have i:=hid n;have u:=hid k;have v:=hid f;clear h n k f;go_enter Tryz.func119,Tryz.ntmps119
 go_wp2_with fail
 refine(A9w g G j R u.out v.out t.out i.out).mono ?_;rintro e z ⟨r,rfl,b,c,s,q,m,rfl⟩;rcases Nat.lt_trichotomy G R with h|h|h
 ·have hr:r<0:=by omega
  have d:Hid (wi G R a=true):=by simp[Hid,wi,h]
  clear b c h;go_wp2;go_ret;exact⟨by rw[d.out];rfl,_,rfl⟩
 ·have hr:r=0:=by omega
  subst hr;have d:Hid (wi G R a=a):=by simp[Hid,wi,h]
  clear b c h;cases a
  ·go_wp2
   go_ret;exact⟨by rw[d.out];rfl,_,rfl⟩
  ·go_wp2
   go_ret;exact⟨by rw[d.out];rfl,_,rfl⟩
 ·have hr:0<r:=by omega
  have p:(r==0)=false:=bqF (by omega);have x:decide (r<0)=false:=by rw[decide_eq_false_iff_not];omega
  have d:Hid (wi G R a=false):=by simp[Hid,wi];omega
  clear b c h;go_wp2;go_ret;exact⟨by rw[d.out];rfl,_,rfl⟩
theorem D1h {S A:Nat->Prop} {w0 w:World} {l:List (Nat×Nat)} (b N:Nat) (g:Sm N) (h:Sx S A w0 w ((b,N)::l)):
 Calls Tryz.prog 121 #[.pointer (some ⟨b,0,none⟩)] w λe w'=>e=.returned (.tuple #[])/\Sx S A w0 w' ((b,10*N)::l)/\B1d A w w':=by
 have f:=hid h;have j:=hid g;clear h g;go_enter Tryz.func121,Tryz.ntmps121
 go_wp2_with fail
 refine(B1k b N 10 0 j.out (by omega) (by omega) (by omega) f.out).mono ?_;rintro e k ⟨rfl,c,d⟩;have a:=hid c;have i:=hid d;clear c d f;go_wp2;go_end0;exact⟨rfl,a.out,i.out⟩
theorem B3k {S A:Nat->Prop} {w0 w:World} {l:List (Nat×Nat)} (b N k i:Nat) (a:k<=30000) (g:Sm (p2 k*N)) (h:Sx S A w0 w ((b,N)::l)) (n:w.cell? ⟨i,0,none⟩=some (.int .i64 k)):
 Calls Tryz.prog 113 #[.pointer (some ⟨b,0,none⟩),.pointer (some ⟨i,0,none⟩)] w λe w'=>e=.returned (.tuple #[])/\Sx S A w0 w' ((b,p2 k*N)::l)/\B1d A w w':=by
 have f:=hid h;have m:=hid g;clear h g;go_enter Tryz.func113,Tryz.ntmps113
 go_wp2_with fail
 refine(C7t b N k a m.out f.out).mono ?_;rintro e o ⟨rfl,d,a⟩;have c:=hid d;have j:=hid a;clear d a f;go_wp2;go_end0;exact⟨rfl,c.out,j.out⟩
theorem B5w {S A:Nat->Prop} {w0 w:World} {l:List (Nat×Nat)} (b N k i B:Nat) (c:k<=30000) (g:Sm (N*p10 k)) (h:Sx S A w0 w ((b,N)::l)) (o:w.cell? ⟨i,0,none⟩=some (.pointer (some ⟨B,0,none⟩))) (m:w.cell? ⟨B,1,none⟩=some (.int .i64 (-(k:Int)))):
 Calls Tryz.prog 168 #[.pointer (some ⟨b,0,none⟩),.pointer (some ⟨i,0,none⟩)] w λe w'=>e=.returned (.tuple #[])/\Sx S A w0 w' ((b,N*p10 k)::l)/\B1d A w w':=by
 have f:=hid h;have n:=hid g;clear h g;go_enter Tryz.func168,Tryz.ntmps168
 go_wp2_with fail
 try rw[Int.neg_neg]
 refine(A9g b N k n.out (by omega) f.out).mono ?_;rintro e p ⟨rfl,d,c⟩;have a:=hid d;have j:=hid c;clear d c f;go_wp2;go_end0;exact⟨rfl,a.out,j.out⟩
theorem C7v {A:Nat->Prop} {w0 w:World} {B N:Nat} {O:Int} {R L H U J u K P:Nat} {c:Bool} (o:Sm R) (q:Sm L) (j:Sm H) (h:St A w0 w B N O R L H U J u K P c):
 Calls Tryz.prog 112 #[.pointer (some ⟨B,0,none⟩),.func (.func 121) #[] #[]] w λe w'=>e=.returned (.tuple #[])/\St A w0 w' B N O (10*R) (10*L) (10*H) U J u K P c/\B1d A w w':=by
 have f:=hid h;have l:=h.sv.cells;have y:=l.2.2.1;clear h l;have G:=hid o;have D:=hid q;have C:=hid j;clear o q j;go_enter Tryz.func112,Tryz.ntmps112
 go_wp2_with fail
 refine(D1h J R G.out f.sx).mono ?_;rintro e S ⟨rfl,m,d⟩;have z:=hid (F6r m);have b:=(f.sv.keep d f.inA);have x:=b.cells.2.2.2.1;have n:=hid b;have E:=hid d;clear m b d y
 go_wp2_with fail
 refine(D1h u L D.out z.out).mono ?_;rintro e T ⟨rfl,p,g⟩;have F:=hid (G3k (F6r p));have a:=(A4a.keep n.out g f.inA);have v:=a.cells.2.2.2.2.1;have s:=hid a;have I:=hid (E.trans g);clear p a g x
 go_wp2_with fail
 refine(D1h K H C.out F.out).mono ?_;rintro e Q ⟨rfl,k,i⟩;have t:=hid (F6s k);have r:=hid (A4a.keep s.out i f.inA);have M:=hid (I.trans i);clear k i v;go_wp2;go_end0;exact⟨rfl,⟨r.out,t.out,f.inA,f.new⟩,M.out⟩
theorem A9s {A:Nat->Prop} {w0 w:World} {B W:Nat} {Y:Int} {R L H U Q C S Z:Nat} {g:Bool} (k f:Nat) (K:k<=30000) (u:Sm (p2 k*R)) (x:Sm (p2 k*L)) (l:Sm (p2 k*H)) (n:w.heap[f]? =some (.cells #[.int .i64 k] 3 (0,0))) (X:A f) (h:St A w0 w B W Y R L H U Q C S Z g):
 Calls Tryz.prog 112 #[.pointer (some ⟨B,0,none⟩),.func (.func 113) #[] #[.pointer (some ⟨f,0,none⟩)]] w λe w'=>e=.returned (.tuple #[])/\St A w0 w' B W Y (p2 k*R) (p2 k*L) (p2 k*H) U Q C S Z g/\B1d A w w':=by
 have i:=hid h;have p:=h.sv.cells;have E:=p.2.2.1;clear h p;have O:=hid u;have I:=hid x;have G:=hid l;clear u x l;have s:=hid n;clear n;go_enter Tryz.func112,Tryz.ntmps112
 go_wp2_with fail
 refine(B3k Q R k f K O.out i.sx (cell_of_one s.out)).mono ?_;rintro e w1 ⟨rfl,q,c⟩;have F:=hid (F6r q);have b:=(i.sv.keep c i.inA);have T:=b.cells.2.2.2.1;have r:=hid b;have M:=hid c;have t:=hid ((c f X).trans s.out);clear q b c E
 go_wp2_with fail
 refine(B3k C L k f K I.out F.out (cell_of_one t.out)).mono ?_;rintro e w2 ⟨rfl,v,d⟩;have N:=hid (G3k (F6r v));have a:=(A4a.keep r.out d i.inA);have D:=a.cells.2.2.2.2.1;have y:=hid a;have P:=hid (M.trans d);have J:=hid ((d f X).trans t.out);clear v a d T
 go_wp2_with fail
 refine(B3k S H k f K G.out N.out (cell_of_one J.out)).mono ?_;rintro e w3 ⟨rfl,o,j⟩;have z:=hid (F6s o);have m:=hid (A4a.keep y.out j i.inA);have V:=hid (P.trans j);clear o j D;go_wp2;go_end0;exact⟨rfl,⟨m.out,z.out,i.inA,i.new⟩,V.out⟩
theorem C4t {A:Nat->Prop} {w0 w:World} {B dg:Nat} {K:Int} {R L H U X C Y bu:Nat} {g:Bool} (k f:Nat) (Q:k<=30000) (u:Sm (R*p10 k)) (x:Sm (L*p10 k)) (l:Sm (H*p10 k)) (n:w.heap[f]? =some (.cells #[.pointer (some ⟨B,0,none⟩)] 137 (0,0))) (hA:A f) (I:K= -(k:Int)) (h:St A w0 w B dg K R L H U X C Y bu g):
 Calls Tryz.prog 112 #[.pointer (some ⟨B,0,none⟩),.func (.func 168) #[] #[.pointer (some ⟨f,0,none⟩)]] w λe w'=>e=.returned (.tuple #[])/\St A w0 w' B dg K (R*p10 k) (L*p10 k) (H*p10 k) U X C Y bu g/\B1d A w w':=by
 have i:=hid h;have p:=h.sv.cells;have G:=p.2.2.1;clear h p;have V:=hid u;have O:=hid x;have M:=hid l;clear u x l;subst I;have s:=hid n;have N:=hid i.sv.cells.2.1;clear n;go_enter Tryz.func112,Tryz.ntmps112
 go_wp2_with fail
 refine(B5w X R k f B Q V.out i.sx (cell_of_one s.out) N.out).mono ?_;rintro e w1 ⟨rfl,q,c⟩;have J:=hid (F6r q);have b:=(i.sv.keep c i.inA);have Z:=b.cells.2.2.2.1;have r:=hid b;have S:=hid c;have t:=hid ((c f hA).trans s.out);have F:=hid b.cells.2.1;clear q b c G
 go_wp2_with fail
 refine(B5w C L k f B Q O.out J.out (cell_of_one t.out) F.out).mono ?_;rintro e w2 ⟨rfl,v,d⟩;have T:=hid (G3k (F6r v));have a:=(A4a.keep r.out d i.inA);have D:=a.cells.2.2.2.2.1;have y:=hid a;have W:=hid (S.trans d);have P:=hid ((d f hA).trans t.out);have E:=hid a.cells.2.1;clear v a d Z
 go_wp2_with fail
 refine(B5w Y H k f B Q M.out T.out (cell_of_one P.out) E.out).mono ?_;rintro e w3 ⟨rfl,o,j⟩;have z:=hid (F6s o);have m:=hid (A4a.keep y.out j i.inA);have a0:=hid (W.trans j);clear o j D;go_wp2;go_end0;exact⟨rfl,⟨m.out,z.out,i.inA,i.new⟩,a0.out⟩
def D6u (ws ms:List Nat):Int:=if ws.length=ms.length then(if val ws<val ms then-1 else if val ms<val ws then 1 else 0)else(ws.length:Int)-ms.length
theorem D6v (b g c h:Nat) (ws ms:List Nat) (w:World) (Q:ws.length<=1000000) (H:ms.length<=1000000) (q:A1w ws) (p:A1w ms) (_htw:Top ws) (_htm:Top ms) (D:A6f w b g ws) (L:A6f w c h ms):
 Calls Tryz.prog 120 #[.pointer (some ⟨b,0,none⟩),.pointer (some ⟨c,0,none⟩)] w λe w'=>e=.returned (.int .i64 (D6u ws ms))/\∃m,w'=w.drewN m:=by
 obtain⟨cap,T,N,v,M⟩:=D;obtain⟨y,O,r,l,x⟩:=L;have z:=cell_of_one N;have t:=cell_of_one r;by_cases f:ws.length=ms.length
 ·have A:((ws.length:Int)!=(ms.length:Int))=false:=by simp;omega
  have s:ws.length<=ms.length:=by omega
  have u:ms.length<=ws.length:=by omega
  have n:Hid (ws.length=ms.length):=f;clear f;go_enter Tryz.func120,Tryz.ntmps120
  go_wp2_with fail;go_quiet (fail)
  go_wp2
  go_loopw [5] (λi wr=>∃k:Nat,k<=ws.length/\i=.int .i64 ((k:Int)-1)/\Hid (ws.drop k=ms.drop k)/\∃m,wr=w.drewN m) (λi _=>(intOf i+1).toNat)
  case atStart=>exact⟨ws.length,Nat.le_refl _,rfl,by simp[Hid];exact(by rw[n.out];simp),_,rfl⟩
  case round=>
   obtain⟨k,P,rfl,o,m,rfl⟩:=hrel;rcases Nat.eq_zero_or_pos k with rfl|K
   ·go_wp2
    go_ret;have:ws=ms:=by simpa[Hid]using o
    exact⟨by rw[show D6u ws ms=0 from by unfold D6u;rw[this];simp];rfl,by first|exact⟨_,rfl⟩|(simp only[World.drewN_drewN];exact⟨_,rfl⟩)⟩
   ·obtain⟨j,rfl⟩:∃j,k=j+1:=⟨k-1,by omega⟩
    have G:=B2e v j (by omega);have I:=B2e l j (by omega);have d:j<ws.length:=by omega
    have a:j<ms.length:=by omega
    have F:=A2a v;have E:=A2a l;rcases Nat.lt_trichotomy ws[j] ms[j]with hx|hx|hx
    ·go_wp2_with fail;go_quiet (fail)
     go_wp2;go_ret;have:=A9v ws ms q n.out j d o.out hx;exact⟨by rw[show D6u ws ms= -1 from by unfold D6u;rw[if_pos n.out,if_pos this]];rfl,by first|exact⟨_,rfl⟩|(simp only[World.drewN_drewN];exact⟨_,rfl⟩)⟩
    ·have C:ms[j]<=ws[j]:=by omega
     have B:ws[j]<=ms[j]:=by omega
     have J:Hid _:=hx;clear hx
     go_wp2_with fail;go_quiet (fail)
     go_wp2_with fail;go_quiet (fail)
     go_wp2;go_roundw
     case rel=>exact⟨j,by omega,by go_num,by show _=_;rw[List.drop_eq_getElem_cons d,List.drop_eq_getElem_cons a,J.out,o.out],by first|exact⟨_,rfl⟩|(simp only[World.drewN_drewN];exact⟨_,rfl⟩)⟩
     case measure=>simp[intOf]<;>omega
    ·go_wp2_with fail;go_quiet (fail)
     go_wp2_with fail;go_quiet (fail)
     go_wp2;go_ret;have:=A9v ms ws p n.symm j a o.symm hx;exact⟨by rw[show D6u ws ms=1 from by unfold D6u;rw[if_pos n.out,if_neg (by omega),if_pos this]];rfl,by first|exact⟨_,rfl⟩|(simp only[World.drewN_drewN];exact⟨_,rfl⟩)⟩
 ·have A:((ws.length:Int)!=(ms.length:Int))=true:=by simp;omega
  go_enter Tryz.func120,Tryz.ntmps120
  go_wp2_with fail;go_quiet (fail)
  go_wp2_with fail;go_quiet (fail)
  go_wp2;go_ret;exact⟨by rw[show D6u ws ms=(ws.length:Int)-ms.length from if_neg f];rfl,by first|exact⟨_,rfl⟩|(simp only[World.drewN_drewN];exact⟨_,rfl⟩)⟩
theorem B9d {S A:Nat->Prop} {w0 w:World} {l t:List (Nat×Nat)} (b N c M:Nat) (q:Sm N) (j:Sm M) (h:Sx S A w0 w ((b,N)::l)) (v:Sx S A w0 w ((c,M)::t)):
 ∃r:Int,(r<0↔N<M)/\(r=0↔N=M)/\ -1000000<=r/\r<=1000000/\∀n,Calls Tryz.prog 120 #[.pointer (some ⟨b,0,none⟩),.pointer (some ⟨c,0,none⟩)] (w.drewN n) λe w'=>e=.returned (.int .i64 r)/\∃m,w'=(w.drewN n).drewN m:=by
 obtain⟨g,ws,x,f,o,rfl⟩:=h.head;obtain⟨s,ms,u,p,k,rfl⟩:=v.head;have a:=q.len o;have y:=j.len k;clear q j;refine⟨D6u ws ms,?_,?_,?_,?_,λn=>D6v b g c s ws ms (w.drewN n) (by omega) (by omega) f p o k (x.drewN n) (u.drewN n)⟩
 ·unfold D6u
  by_cases i:ws.length=ms.length
  ·rw[if_pos i]
   split
   ·omega
   ·split<;>omega
  ·rw[if_neg i]
   rcases Nat.lt_or_gt_of_ne i with d|d
   ·have:=A8h ws ms f k d;omega
   ·have:=A8h ms ws p o d;omega
 ·unfold D6u
  by_cases i:ws.length=ms.length
  ·rw[if_pos i]
   split
   ·omega
   ·split<;>omega
  ·rw[if_neg i]
   rcases Nat.lt_or_gt_of_ne i with d|d
   ·have:=A8h ws ms f k d;omega
   ·have:=A8h ms ws p o d;omega
 ·unfold D6u;split
  ·split
   ·omega
   ·split<;>omega
  ·omega
 ·unfold D6u;split
  ·split
   ·omega
   ·split<;>omega
  ·omega
end Go.Proofs.YtmkkibaacclhnaaGreatDoor
