/-
  Part Vj.
-/
import Derived.Test.YtmkkibaacclhnaaGreatDoorWq
import Derived.Test.YtmkkibaacclhnaaGreatDoorWj
import Derived.Test.YtmkkibaacclhnaaGreatDoorWw
namespace Go.Proofs.YtmkkibaacclhnaaGreatDoor
open Go.RowKit
set_option maxRecDepth 100000
set_option maxHeartbeats 16000000
abbrev KT:=LU8×LU8
noncomputable def B3v (x:Im):LU8:=
 if x.k=0 then[110,117,108,108]else if x.k=1 then[102,97,108,115,101]else if x.k=2 then[116,114,117,101]else if x.k=3 then A9p x.b else A3g x.s
noncomputable def A7m (sz:List Im->Nat) (wr:List Im->LU8) (indent:Int) (obj:Bool):Nat->List Im->List KT
 |0,_=>[]
 |c+1,l=>
  if obj=true then
   match l with
   |[]=>[]
   |k::r=>(k.s,A7h indent k.s++wr r)::A7m sz wr indent obj c (r.drop (sz r))
  else([],wr l)::A7m sz wr indent obj c (l.drop (sz l))
def A5z (ks:List (LU8)) (key:LU8):Nat->Nat
 |0=>0
 |k+1=>if ltB key (ks[k]?.getD [])=true then A5z ks key k else k+1
theorem B8j (b:List (LU8)) (a:LU8) (k:Nat):A5z b a k<=k:=by
 induction k with
 |zero=>exact Nat.le_refl _
 |succ k ih=>simp only[A5z];split<;>omega
def B2z (so:Bool) (L:List KT) (p:KT):List KT:=
 L.take (if so=true then A5z (L.map (·.1)) p.1 L.length else L.length)++[p]++L.drop (if so=true then A5z (L.map (·.1)) p.1 L.length else L.length)
def F8m (so:Bool) (L:List KT):List KT:=L.foldl (B2z so) []
def A2r (indent:Int) (inn:Nat):Bool->List (LU8)->LU8
 |_,[]=>[]
 |f,p::ps=>(if f=true then[]else[44])++A6p indent inn++p++A2r indent inn false ps
def F2r (obj:Bool):UInt8:=if obj=true then 123 else 91
def G3m (obj:Bool):UInt8:=if obj=true then 125 else 93
def A7w (indent:Int) (inn:Nat) (obj:Bool) (ps:List (LU8)):LU8:=
 if ps.length=0 then[F2r obj,G3m obj]else F2r obj::(A2r indent (inn+1) true ps++A6p indent inn++[G3m obj])
noncomputable def wrD (indent:Int) (so:Bool):Nat->List Im->LU8
 |_,[]=>[]
 |0,x::_=>B3v x
 |d+1,x::r=>if x.k<5 then B3v x else
   A7w indent (999-d) (decide (x.k=6)) ((F8m (so&&decide (x.k=6)) (A7m (A0i d) (wrD indent so d) indent (decide (x.k=6)) x.n.toNat r)).map (·.2))
def wgt (l:List Im):Nat:=(l.map (λx=>6*x.s.length+33000)).sum
theorem B2q (x:Im) (l:List Im):wgt (x::l)=6*x.s.length+33000+wgt l:=by simp[wgt]
theorem B2r (a b:List Im):wgt (a++b)=wgt a+wgt b:=by simp[wgt]
theorem C0r (l:List Im) (n:Nat):wgt (l.drop n)<=wgt l:=by
 have h:=B2r (l.take n) (l.drop n);rw[List.take_append_drop]at h;omega
theorem C0s (l:List Im) (n:Nat):wgt (l.take n)<=wgt l:=by
 have h:=B2r (l.take n) (l.drop n);rw[List.take_append_drop]at h;omega
theorem B7e (l:List Im) (a b:Nat):wgt (l.take (a+b))=wgt (l.take a)+wgt ((l.drop a).take b):=by
 rw[<-B2r,List.take_add]
def tot (L:List KT):Nat:=(L.map (λp=>p.2.length+16002)).sum
theorem B6q (a b:List KT):tot (a++b)=tot a+tot b:=by simp[tot]
theorem B2s (p:KT) (b:List KT):tot (p::b)=p.2.length+16002+tot b:=by simp[tot]
theorem D5m (so:Bool) (L:List KT) (p:KT):tot (B2z so L p)=tot L+(p.2.length+16002):=by
 unfold B2z;generalize (if so=true then A5z (L.map (·.1)) p.1 L.length else L.length)=k;have h:=B6q (L.take k) (L.drop k);rw[List.take_append_drop]at h;rw[B6q,B6q,B2s];have:tot []=0:=rfl;omega
theorem C6r (so:Bool) (L M:List KT):tot (L.foldl (B2z so) M)=tot M+tot L:=by
 induction L generalizing M with
 |nil=>simp[tot]
 |cons p L ih=>rw[List.foldl_cons,ih,D5m,B2s];omega
theorem B2t (indent:Int) (inn:Nat) (b:indent<=16) (a:inn<=1000):(A6p indent inn).length<=16001:=by
 unfold A6p;split
 ·simp
 ·rw[List.length_cons,List.length_replicate]
  have:indent.toNat*inn<=16*1000:=Nat.mul_le_mul (by omega) a;omega
theorem B6r (indent:Int) (inn:Nat) (f:Bool) (L:List KT) (a:indent<=16) (b:inn<=1000):(A2r indent inn f (L.map (·.2))).length<=tot L:=by
 induction L generalizing f with
 |nil=>simp[A2r]
 |cons p L ih=>
  have h:=ih false;have d:=B2t indent inn a b;rw[List.map_cons,B2s];simp only[A2r,List.length_append];have c:(if f=true then([]:LU8)else[44]).length<=1:=by split<;>simp
  omega
theorem E5z (indent:Int) (inn:Nat) (a:Bool) (L:List KT) (b:indent<=16) (c:inn<=999):(A7w indent inn a (L.map (·.2))).length<=tot L+16003:=by
 unfold A7w;split
 ·simp
 ·have d:=B6r indent (inn+1) true L b (by omega)
  have e:=B2t indent inn b (by omega);simp only[List.length_cons,List.length_append,List.length_nil];omega
theorem E6a (indent:Int) (s:LU8):(A7h indent s).length<=6*s.length+4:=by
 have:=A8t s;unfold A7h A3g;simp only[List.length_append,List.length_cons,List.length_nil];have:(if indent= -1 then([]:LU8)else[32]).length<=1:=by split<;>simp
 omega
def Bok (l:List Im):Prop:=∀x,x∈l->x.b<18446744073709551616
theorem Bok.drop {l:List Im} (h:Bok l) (n:Nat):Bok (l.drop n):=λx hx=>h x (List.mem_of_mem_drop hx)
theorem C3u {sz:List Im->Nat} {wr:List Im->LU8} {indent:Int} (b:Bool) (h:∀l,Bok l->sz l≠0->(wr l).length+16500<=wgt (l.take (sz l))) (c:Nat) (l:List Im) (m:Nat) (f:Bok l) (a:A0m sz b c l=some m):tot (A7m sz wr indent b c l)<=wgt (l.take m):=by
 induction c generalizing l m with
 |zero=>simp[A7m,tot]
 |succ c ih=>
  cases b with
  |true=>
   cases l with
   |nil=>simp[A0m]at a
   |cons k r=>
    simp only[A0m,if_true]at a;split at a
    ·split at a
     ·cases a
     ·rename_i h0
      obtain⟨g,e,rfl⟩:=Option.map_eq_some_iff.1 a;have d:Bok r:=λx hx=>f x (List.mem_cons_of_mem _ hx)
      have i:=ih _ _ (d.drop _) e;have j:=h r d h0;have n:=E6a indent k.s;simp only[A7m,if_true];rw[B2s,show 1+sz r+g=(sz r+g)+1 by omega,List.take_succ_cons,B2q,B7e];simp only[List.length_append];omega
    ·cases a
  |false=>
   simp only[A0m,Bool.false_eq_true,if_false]at a;split at a
   ·cases a
   ·rename_i h0
    obtain⟨g,e,rfl⟩:=Option.map_eq_some_iff.1 a;have i:=ih _ _ (f.drop _) e;have j:=h l f h0;simp only[A7m,Bool.false_eq_true,if_false];rw[B2s,B7e]
    show(wr l).length+16002+_<=_
    omega
theorem B5h {x:Im} (h:A0z x=true) (a:x.k=3):x.b % 9223372036854775808<9218868437227405312:=by
 unfold A0z at h;rw[if_neg (by omega),if_pos a]at h;simp at h;omega
theorem C9x (w:World) (x:Im) (c:A0z x=true) (a:x.b<18446744073709551616):(B3v x).length<=6*x.s.length+101:=by
 unfold B3v;split
 ·simp
 split
 ·simp
 split
 ·simp
 split
 ·rename_i hk
  have:=C3t w x.b a (B5h c hk);omega
 ·have:=A8t x.s
  unfold A3g;simp only[List.length_cons,List.length_append,List.length_nil];omega
theorem E6b (w:World) (indent:Int) (so:Bool) (h:indent<=16) (d:Nat) (l:List Im) (c:Bok l) (a:A0i d l≠0):(wrD indent so d l).length+16500<=wgt (l.take (A0i d l)):=by
 induction d generalizing l with
 |zero=>
  cases l with
  |nil=>simp[A0i]at a
  |cons x r=>
   simp only[A0i]at a ⊢;split at a
   ·rename_i b
    rw[if_pos b,List.take_succ_cons,B2q];have:=C9x w x b.1 (c x (by simp));simp only[wrD];omega
   ·exact absurd rfl a
 |succ d ih=>
  cases l with
  |nil=>simp[A0i]at a
  |cons x r=>
   simp only[A0i]at a ⊢;by_cases b:A0z x=true
   ·rw[if_pos b]at a ⊢
    by_cases e:x.k<5
    ·rw[if_pos e,List.take_succ_cons,B2q]
     have:=C9x w x b (c x (by simp));simp only[wrD];rw[if_pos e];omega
    ·rw[if_neg e]at a ⊢
     simp only[wrD];rw[if_neg e];generalize decide (x.k=6)=obj at*;cases g:A0m (A0i d) obj x.n.toNat r with
     |none=>rw[g]at a;exact absurd rfl a
     |some m=>
      have i:=C3u (wr:=wrD indent so d) (indent:=indent) obj (λl c h0=>ih l c h0) x.n.toNat r m (λy hy=>c y (List.mem_cons_of_mem _ hy)) g;have f:=E5z indent (999-d) obj (F8m (so&&obj) (A7m (A0i d) (wrD indent so d) indent obj x.n.toNat r)) h (by omega);unfold F8m at f ⊢;rw[C6r]at f;simp only[D2i];rw[List.take_succ_cons,B2q];have:tot []=0:=rfl;omega
   ·rw[if_neg b]at a
    exact absurd rfl a
theorem C6s (x y:LU8):Op.bytesLess x y=ltB x y:=by
 induction x generalizing y with
 |nil=>cases y<;>simp[Op.bytesLess,ltB]
 |cons a x ih=>
  cases y with
  |nil=>simp[Op.bytesLess,ltB]
  |cons b y=>
   simp only[Op.bytesLess,ltB,ih];by_cases h:a<b
   ·simp[h]
   ·by_cases c:b<a
    ·have:a≠b:=by rintro rfl;exact h c
     simp[h,c,this]
    ·have:a=b:=UInt8.le_antisymm (UInt8.not_lt.1 c) (UInt8.not_lt.1 h)
     simp[this]
theorem F5r (x y:LU8):(!(Op.bytesLess (ofL x).toList (ofL y).toList||(ofL x).toList==(ofL y).toList))=ltB y x:=by
 rw[A0y,A0y,C6s];rcases C0d x y with h|h|h
 ·cases a:ltB y x with
  |false=>simp[h]
  |true=>have:=B4z h a;rw[B0d]at this;cases this
 ·subst h
  simp[B0d]
 ·have b:ltB x y=false:=by
   cases a:ltB x y with
   |false=>rfl
   |true=>have:=B4z h a;rw[B0d]at this;cases this
  have c:x≠y:=by rintro rfl;rw[B0d]at h;cases h
  rw[h,b];simp[c]
def SP (w:World) (V:Value) (l:List (LU8)):Prop:=SR w V l/\(l=[]->V=.slice none 0 0)
theorem SP.nil (w:World):SP w (.slice none 0 0) []:=⟨SR.nil w,λ_=>rfl⟩
theorem SP.fr {w w':World} {V:Value} {l:List (LU8)} (h:SP w V l) (a:Fr (λ_=>False) w w'):SP w' V l:=⟨A7e h.1 a (λ_ _=>id),h.2⟩
theorem C6t (s:LU8) (w:World) (r:Option Addr) (n cap k:Nat) (l:List (LU8)) (h:SP w (.slice r n cap) l) (v:k<=l.length) (A:l.length<=10000000):
 Calls Tryz.prog 79 #[.slice r n cap,.int .i64 (k:Int),.string (ofL s)] w λe w'=>∃a c,e=.returned (.slice a (l.length+1) c)/\SP w' (.slice a (l.length+1) c) (l.take k++[s]++l.drop k)/\Fr (λ_=>False) w w':=by
 have g:∀(w':World) (a:Option Addr) (d c:Nat),SR w' (.slice a d c) (l.take k++[s]++l.drop k)->d=l.length+1/\SP w' (.slice a d c) (l.take k++[s]++l.drop k):=by
  intro w' a d c f;have b:=A1a f;refine⟨?_,f,λhh=>by simp at hh⟩;rw[b];simp only[List.length_append,List.length_singleton,List.length_take,List.length_drop];omega
 cases l with
 |nil=>
  have b:=h.2 rfl;simp at b;obtain⟨rfl,rfl,rfl⟩:=b;obtain rfl:k=0:=by simpa using v
  refine(F8k s w).mono ?_;rintro e w' ⟨a,d,c,rfl,f,b,o⟩;obtain⟨rfl,i⟩:=g w' a d c (by simpa using f);exact⟨a,c,rfl,i,b⟩
 |cons p l=>
  have x:=A1a h.1;obtain⟨u,rfl⟩:=A5s h.1 (by simp)
  have j:n<=cap:=by
   rcases h.1.2 with⟨b,_⟩|⟨y,m,t,q,o,z,i,_⟩
   ·cases b
   ·simp at q
    have:=q.2.2;omega
  have:=F2q s w u n cap k (p::l) h.1 (by omega) (by rw[x];simp) j (by omega);refine this.mono ?_;rintro e w' ⟨a,d,c,rfl,f,b,o⟩;obtain⟨rfl,i⟩:=g w' a d c f;exact⟨a,c,rfl,i,b⟩
theorem D2y {sz f:List Im->Nat} (h:∀l,sz l≠0->f l=sz l) (e:Bool) (c:Nat) (l:List Im) (m:Nat) (a:A0m sz e c l=some m):A0m f e c l=some m:=by
 induction c generalizing l m with
 |zero=>exact a
 |succ c ih=>
  unfold A0m at a ⊢;cases e with
  |true=>
   rw[if_pos rfl]at a ⊢;cases l with
   |nil=>exact a
   |cons k r=>
    simp only at a ⊢;by_cases g:k.k=4/\A0z k=true
    ·rw[if_pos g]at a ⊢
     by_cases b:sz r=0
     ·rw[if_pos b]at a;cases a
     ·rw[if_neg b]at a
      rw[h r b,if_neg b];cases d:A0m sz true c (r.drop (sz r))with
      |none=>rw[d]at a;cases a
      |some q=>
       rw[d]at a;rw[ih _ _ d];exact a
    ·rw[if_neg g]at a;cases a
  |false=>
   rw[if_neg (by simp)]at a ⊢;by_cases b:sz l=0
   ·rw[if_pos b]at a;cases a
   ·rw[if_neg b]at a
    rw[h l b,if_neg b];cases d:A0m sz false c (l.drop (sz l))with
    |none=>rw[d]at a;cases a
    |some q=>
     rw[d]at a;rw[ih _ _ d];exact a
theorem F2s (d:Nat) (l:List Im) (h:A0i d l≠0):A0i (d+1) l=A0i d l:=by
 induction d generalizing l with
 |zero=>
  cases l with
  |nil=>exact absurd rfl h
  |cons x r=>
   simp only[A0i]at h ⊢;by_cases a:A0z x=true/\x.k<5
   ·rw[if_pos a,if_pos a.1,if_pos a.2]
   ·rw[if_neg a]at h;exact absurd rfl h
 |succ d ih=>
  cases l with
  |nil=>exact absurd rfl h
  |cons x r=>
   rw[A0i]at h ⊢;rw[A0i];by_cases a:A0z x=true
   ·rw[if_pos a]at h ⊢
    rw[if_pos a];by_cases b:x.k<5
    ·rw[if_pos b,if_pos b]
    ·rw[if_neg b]at h ⊢
     rw[if_neg b];cases c:A0m (A0i d) (decide (x.k=6)) x.n.toNat r with
     |none=>rw[c]at h;exact absurd rfl h
     |some m=>rw[D2y ih _ _ _ _ c]
   ·rw[if_neg a]at h;exact absurd rfl h
theorem B2b (d e:Nat) (l:List Im) (h:A0i d l≠0) (a:d<=e):A0i e l=A0i d l:=by
 obtain⟨k,rfl⟩:=Nat.le.dest a
 induction k with
 |zero=>rfl
 |succ k ih=>
  have:=ih (by omega);rw[<-this]at h ⊢;exact F2s (d+k) l h
def C2b (beh:List Nat) (its:List Im) (a b:Nat):Prop:=∀q,a<=q->q<b->beh[q]? =some (q+A0i 1000 (its.drop q))
theorem C2b.nil (beh:List Nat) (its:List Im) (a:Nat):C2b beh its a a:=λq h1 h2=>absurd h2 (by omega)
theorem C2b.join {beh d:List Nat} {its:List Im} {a b c:Nat} (h:C2b beh its a b) (k:C2b d its b c) (i:∀q,q<b->d[q]? =beh[q]?):C2b d its a c:=by
 intro q f g;by_cases e:q<b
 ·rw[i q e];exact h q f e
 ·exact k q (by omega) g
theorem C2b.set {beh:List Nat} {its:List Im} {a d:Nat} (h:C2b beh its (a+1) (a+A0i d (its.drop a))) (f:A0i d (its.drop a)≠0) (c:d<=1000) (i:a<beh.length):C2b (beh.set a (a+A0i d (its.drop a))) its a (a+A0i d (its.drop a)):=by
 intro q g b;by_cases e:q=a
 ·subst e
  rw[List.getElem?_set_self (by omega),B2b d 1000 _ f c]
 ·rw[List.getElem?_set_ne (by omega)]
  exact h q (by omega) b
structure OL (w:World) (o g ig cap:Nat) (its:List Im) (beh:List Nat) (nx:Nat):Prop where
 blk:w.heap[o]? =some (.cells #[.slice (some ⟨ig,0,none⟩) its.length cap,.slice (some ⟨g,0,none⟩) its.length its.length,.int .i64 (nx:Int)] 61 (0,0))
 row:w.ownsRow 0 3 1 (.slice (some ⟨g,0,none⟩) its.length its.length) its.length (beh.map D1w)
 items:B9r w (.slice (some ⟨ig,0,none⟩) its.length cap) its
 og:o≠g
 io:ig≠o
 ig:ig≠g
 tabs:C0f w
 o2:2<=o
 g2:2<=g
 nxle:nx<=its.length
theorem OL.len {w:World} {o g a cap:Nat} {its:List Im} {beh:List Nat} {b:Nat} (h:OL w o g a cap its beh b):beh.length=its.length:=by
 have:=h.row.1;simpa using this
theorem OL.fr {w w':World} {o g b cap:Nat} {its:List Im} {beh:List Nat} {c:Nat} (h:OL w o g b cap its beh c) (a:Fr (λ_=>False) w w'):OL w' o g b cap its beh c:=
 ⟨a.heap h.blk id,A7e h.row a (λ_ _=>id),h.items.fr a (λ_ _=>id),h.og,h.io,h.ig,h.tabs.fr a id id,h.o2,h.g2,h.nxle⟩
theorem OL.cells {w:World} {o g a cap:Nat} {its:List Im} {beh:List Nat} {d:Nat} (h:OL w o g a cap its beh d) {p:Nat} {x:Im} (c:its[p]? =some x):
 w.cell? ⟨a,p*4,none⟩=some (.int .i64 x.k)/\w.cell? ⟨a,p*4+1,none⟩=some (.int .i64 x.n)/\w.cell? ⟨a,p*4+2,none⟩=some (.int .u64 (x.b:Int))/\w.cell? ⟨a,p*4+3,none⟩=some (.string (ofL x.s)):=
 ⟨A2c h.items (p*4) _ (A4y its p 0 x c (by omega)),A2c h.items (p*4+1) _ (A4y its p 1 x c (by omega)),A2c h.items (p*4+2) _ (A4y its p 2 x c (by omega)),A2c h.items (p*4+3) _ (A4y its p 3 x c (by omega))⟩
theorem OL.step {w:World} {o g c cap:Nat} {its:List Im} {beh:List Nat} {e:Nat} (h:OL w o g c cap its beh e) (m:Nat) (d:m<=its.length):OL (w.setCell ⟨o,2,none⟩ (.int .i64 (m:Int))) o g c cap its beh m:=by
 have a:Fr (λi=>i=o) w (w.setCell ⟨o,2,none⟩ (.int .i64 (m:Int))):=(Fr.refl (λi=>i=o) w).setCell (p:=⟨o,2,none⟩) (.inl rfl) _;exact⟨heap_setCell_same w o 2 _ 61 _ h.blk,A7e h.row a (by rintro i b rfl;exact h.og (by simpa[Value.ownBlock]using b.symm)),h.items.fr a (by rintro i b rfl;exact h.io (by simpa[Value.ownBlock]using b)),h.og,h.io,h.ig,h.tabs.fr a (by have:=h.o2;omega) (by have:=h.o2;omega),h.o2,h.g2,d⟩
theorem OL.note {w:World} {o g b cap:Nat} {its:List Im} {beh:List Nat} {c:Nat} (h:OL w o g b cap its beh c) (p m:Nat):OL (w.setCell ⟨g,p,none⟩ (.int .i64 (m:Int))) o g b cap its (beh.set p m) c:=by
 have a:Fr (λi=>i=g) w (w.setCell ⟨g,p,none⟩ (.int .i64 (m:Int))):=(Fr.refl (λi=>i=g) w).setCell (p:=⟨g,p,none⟩) (.inl rfl) _;refine⟨a.heap h.blk h.og,?_,h.items.fr a (by rintro i d rfl;exact h.ig (by simpa[Value.ownBlock]using d)),h.og,h.io,h.ig,h.tabs.fr a (by have:=h.g2;omega) (by have:=h.g2;omega),h.o2,h.g2,h.nxle⟩;have:=B1s h.row p (D1w m);rw[<-List.map_set]at this;exact this
structure OPost (w w':World) (o g ig cap:Nat) (its:List Im) (beh:List Nat) (nx:Nat) (beh':List Nat) (nx':Nat):Prop where
 fr:Fr (λi=>i=o\/i=g) w w'
 ol:OL w' o g ig cap its beh' nx'
 low:∀q,q<nx->beh'[q]? =beh[q]?
 le:nx<=nx'
theorem OPost.trans {w w' i:World} {o g e cap:Nat} {its:List Im} {beh a b:List Nat} {f c d:Nat} (h:OPost w w' o g e cap its beh f a c) (k:OPost w' i o g e cap its a c b d):OPost w i o g e cap its beh f b d:=
 ⟨h.fr.trans k.fr,k.ol,λq hq=>(k.low q (Nat.lt_of_lt_of_le hq h.le)).trans (h.low q hq),Nat.le_trans h.le k.le⟩
def B1h (w:World) (o g ig cap:Nat) (its:List Im) (beh:List Nat) (nx:Nat) (r:Option Nat) (e:Ending) (w':World):Prop:=
 match r with
 |none=>e=.returned (.bool false)/\∃beh' nx',OPost w w' o g ig cap its beh nx beh' nx'
 |some m=>e=.returned (.bool true)/\∃beh',OPost w w' o g ig cap its beh nx beh' (nx+m)/\C2b beh' its nx (nx+m)
def szO (n:Nat):Option Nat:=if n=0 then none else some n
def D2z (d:Nat):Prop:=∀(w:World) (o g ig cap:Nat) (its:List Im) (beh:List Nat) (nx:Nat),OL w o g ig cap its beh nx->its.length<=10000000->(∀x,x∈its->x.s.length<=100000000)->Bok its->d<=1000->
 Calls Tryz.prog 41 #[.pointer (some ⟨o,0,none⟩),.int .i64 (d:Int)] w (B1h w o g ig cap its beh nx (szO (A0i d (its.drop nx))))
theorem OL.three {w:World} {o g a cap:Nat} {its:List Im} {beh:List Nat} {b:Nat} (h:OL w o g a cap its beh b):
 w.cell? ⟨o,0,none⟩=some (.slice (some ⟨a,0,none⟩) its.length cap)/\w.cell? ⟨o,1,none⟩=some (.slice (some ⟨g,0,none⟩) its.length its.length)/\w.cell? ⟨o,2,none⟩=some (.int .i64 (b:Int))/\(∀j,w.frozen? ⟨o,j,none⟩=false):=
 ⟨A0a h.blk rfl,A0a h.blk rfl,A0a h.blk rfl,λ_=>A0b h.blk⟩
theorem OPost.refl {w:World} {o g b cap:Nat} {its:List Im} {beh:List Nat} {a:Nat} (h:OL w o g b cap its beh a):OPost w w o g b cap its beh a beh a:=⟨Fr.refl _ _,h,λ_ _=>rfl,Nat.le_refl _⟩
theorem OPost.same {w w':World} {o g c cap:Nat} {its:List Im} {beh:List Nat} {a:Nat} (h:OL w o g c cap its beh a) (b:Fr (λ_=>False) w w'):OPost w w' o g c cap its beh a beh a:=⟨b.mono (λ_=>False.elim),h.fr b,λ_ _=>rfl,Nat.le_refl _⟩
theorem OPost.stepped {w w':World} {o g d cap:Nat} {its:List Im} {beh:List Nat} {a:Nat} (h:OL w o g d cap its beh a) (c:Fr (λ_=>False) w w') (e:a<its.length):OPost w (w'.setCell ⟨o,2,none⟩ (.int .i64 ((a:Int)+1))) o g d cap its beh a beh (a+1):=by
 have b:=(h.fr c).step (a+1) (by omega);rw[show(((a+1:Nat)):Int)=(a:Int)+1 by omega]at b;exact⟨(c.mono (λ_=>False.elim)).setCell (p:=⟨o,2,none⟩) (.inl (.inl rfl)) _,b,λ_ _=>rfl,by omega⟩
theorem OPost.noted {w w':World} {o g d cap:Nat} {its:List Im} {beh a:List Nat} {c b:Nat} (h:OPost w w' o g d cap its beh c a b) (p m:Nat) (e:c<=p):OPost w (w'.setCell ⟨g,p,none⟩ (.int .i64 (m:Int))) o g d cap its beh c (a.set p m) b:=
 ⟨h.fr.setCell (p:=⟨g,p,none⟩) (.inl (.inr rfl)) _,h.ol.note p m,λq hq=>by rw[List.getElem?_set_ne (by omega)];exact h.low q hq,h.le⟩
theorem F8n (d:Nat) (w:World) (o g a cap:Nat) (its:List Im) (beh:List Nat) (h:OL w o g a cap its beh its.length):
 Calls Tryz.prog 41 #[.pointer (some ⟨o,0,none⟩),.int .i64 (d:Int)] w (B1h w o g a cap its beh its.length none):=by
 obtain⟨c,e,f,i⟩:=h.three;have b:=hid (OPost.refl h);clear h;generalize its.length=n at*;go_enter Tryz.func41,Tryz.ntmps41;go_wp2;go_ret;exact⟨rfl,_,_,b.out⟩
theorem F8p (d:Nat) (w:World) (o g p cap:Nat) (its:List Im) (beh:List Nat) (a:Nat) (x:Im) (h:OL w o g p cap its beh a) (i:its[a]? =some x) (_hl:its.length<=10000000) (m:x.s.length<=100000000) (j:x.b<18446744073709551616) (l:A0z x=false):
 Calls Tryz.prog 41 #[.pointer (some ⟨o,0,none⟩),.int .i64 (d:Int)] w (B1h w o g p cap its beh a none):=by
 obtain⟨C,D,E,F⟩:=h.three;obtain⟨y,z,A,B⟩:=h.cells i;have f:=hid (λ(wx:World) (hT:C0f wx)=>B0g x wx m j hT);rw[l]at f;have t:=hid h.tabs;have r:=hid (λwx c=>OPost.same (w':=wx) h c);have v:a<its.length:=(List.getElem?_eq_some_iff.1 i).1;have u:((a:Int)==(its.length:Int))=false:=bqF (by omega);obtain⟨k,n,b,s⟩:=x;simp only at y z A B f;clear h i m j l;generalize its.length=L at*;go_enter Tryz.func41,Tryz.ntmps41
 go_wp2_with (first|(go_at_call 69;refine Calls.mono (f.out _ t.out) ?_;rintro e G ⟨rfl,c⟩;have q:=hid c;clear c)|fail)
 go_ret;exact⟨rfl,_,_,r.out _ q.out⟩
theorem OPost.drew {w w':World} {o g c cap:Nat} {its:List Im} {beh a:List Nat} {d b:Nat} (h:OPost w w' o g c cap its beh d a b):OPost w w'.drew o g c cap its beh d a b:=
 ⟨h.fr.drew,h.ol.fr (Fr.refl (λ_=>False) w').drew,h.low,h.le⟩
theorem D3a {x:Im} (h:A0z x=true):0<=x.k/\x.k<=6:=by
 unfold A0z at h;by_cases a:x.k=0\/x.k=1\/x.k=2
 ·omega
 ·rw[if_neg a]at h
  by_cases b:x.k=3
  ·omega
  ·rw[if_neg b]at h
   by_cases c:x.k=4
   ·omega
   ·rw[if_neg c]at h
    by_cases d:x.k=5\/x.k=6
    ·omega
    ·rw[if_neg d]at h;cases h
theorem OL.beh {w:World} {o g a cap:Nat} {its:List Im} {beh:List Nat} {b p:Nat} (h:OL w o g a cap its beh b) (d:p<its.length):∃m:Nat,w.cell? ⟨g,p,none⟩=some (.int .i64 (m:Int)):=by
 have c:=h.len;exact⟨beh[p]'(by omega),A2c h.row p _ (by rw[List.getElem?_map,List.getElem?_eq_getElem (by omega)];rfl)⟩
theorem OL.all {w:World} {o g a cap:Nat} {its:List Im} {beh:List Nat} {d p:Nat} {x:Im} (h:OL w o g a cap its beh d) (c:its[p]? =some x):
 (w.cell? ⟨o,0,none⟩=some (.slice (some ⟨a,0,none⟩) its.length cap)/\w.cell? ⟨o,1,none⟩=some (.slice (some ⟨g,0,none⟩) its.length its.length)/\w.cell? ⟨o,2,none⟩=some (.int .i64 (d:Int))/\(∀j,w.frozen? ⟨o,j,none⟩=false))/\
 (w.cell? ⟨a,p*4,none⟩=some (.int .i64 x.k)/\w.cell? ⟨a,p*4+1,none⟩=some (.int .i64 x.n)/\w.cell? ⟨a,p*4+2,none⟩=some (.int .u64 (x.b:Int))/\w.cell? ⟨a,p*4+3,none⟩=some (.string (ofL x.s)))/\(∀j,w.frozen? ⟨g,j,none⟩=false)/\(∃m:Nat,w.cell? ⟨g,p,none⟩=some (.int .i64 (m:Int))):=
 ⟨h.three,h.cells c,λj=>C5k h.row j,h.beh (List.getElem?_eq_some_iff.1 c).1⟩
theorem F2t (d:Nat) (w:World) (o g p cap:Nat) (its:List Im) (beh:List Nat) (c:Nat) (x:Im) (h:OL w o g p cap its beh c) (m:its[c]? =some x) (Y:its.length<=10000000) (B:x.s.length<=100000000) (z:x.b<18446744073709551616) (u:A0z x=true) (P:x.k<5)
 (f:A0i 0 (its.drop c)=1):
 Calls Tryz.prog 41 #[.pointer (some ⟨o,0,none⟩),.int .i64 (d:Int)] w (B1h w o g p cap its beh c (some 1)):=by
 obtain⟨⟨I,J,K,M⟩,⟨D,E,F,G⟩,-⟩:=h.all m;have r:=hid (λ(wx:World) (hT:C0f wx)=>B0g x wx B z hT);rw[u]at r;have H:=hid h.tabs;have v:c<its.length:=(List.getElem?_eq_some_iff.1 m).1;have q:=hid (λwx i=>((h.fr (w':=wx) i).all m));have y:=hid (λwx i=>OPost.stepped (w':=wx) h i v)
 have j:=hid (λ(w3:World) (hp:OPost w w3 o g p cap its beh c beh (c+1))=>(show B1h w o g p cap its beh c (some 1) (.returned (.bool true)) (w3.setCell ⟨g,c,none⟩ (.int .i64 ((c:Int)+1)))from by
  refine⟨rfl,_,hp.noted c (c+1) (Nat.le_refl _),?_⟩;have A:=hp.ol.len;have:=C2b.set (d:=0) (beh:=beh) (its:=its) (a:=c) (by rw[f];exact C2b.nil _ _ _) (by rw[f];omega) (by omega) (by omega);rw[f]at this
  exact this))
 have Q:((c:Int)==(its.length:Int))=false:=bqF (by omega);have l:=D3a u;have O:=h.io;have N:=h.ig;have R:=h.og;obtain⟨k,n,b,s⟩:=x;simp only at D E F G r P l q;have Z:(k==5)=false:=bqF (by omega);have k6:(k==6)=false:=bqF (by omega);clear h m B z u f l;generalize its.length=L at*;go_enter Tryz.func41,Tryz.ntmps41
 go_wp2_with fail
 refine Calls.mono (r.out _ H.out) ?_;rintro e C ⟨rfl,i⟩;obtain⟨⟨S,T,U,V⟩,⟨y0,y1,y2,y3⟩,W,m1,X⟩:=q.out C i;have t:=hid (y.out C i);clear i q y I J K M D E F G;go_wp2;go_region;go_wp2;go_ret;exact j.out _ t.drew
theorem F2u (w:World) (o g y cap:Nat) (its:List Im) (beh:List Nat) (d:Nat) (x:Im) (h:OL w o g y cap its beh d) (f:its[d]? =some x) (U:its.length<=10000000) (v:x.s.length<=100000000) (t:x.b<18446744073709551616) (m:A0z x=true) (u:¬x.k<5):
 Calls Tryz.prog 41 #[.pointer (some ⟨o,0,none⟩),.int .i64 0] w (B1h w o g y cap its beh d none):=by
 obtain⟨⟨F,G,H,I⟩,⟨A,B,C,D⟩,-⟩:=h.all f;have j:=hid (λ(wx:World) (hT:C0f wx)=>B0g x wx v t hT);rw[m]at j;have E:=hid h.tabs;have p:d<its.length:=(List.getElem?_eq_some_iff.1 f).1;have i:=hid (λwx a=>((h.fr (w':=wx) a).all f));have r:=hid (λwx a=>OPost.stepped (w':=wx) h a p);have M:((d:Int)==(its.length:Int))=false:=bqF (by omega);have c:=D3a m;have K:=h.io;have J:=h.ig;have N:=h.og;obtain⟨k,n,b,s⟩:=x;simp only at A B C D j u c i;have q:k=5\/k=6:=by omega
 clear h f v t m c u;generalize its.length=L at*;rcases q with rfl|rfl
 all_goals
  go_enter Tryz.func41,Tryz.ntmps41
  go_wp2_with fail
  refine Calls.mono (j.out _ E.out) ?_;rintro e z ⟨rfl,a⟩;obtain⟨⟨O,P,Q,R⟩,⟨W,X,Y,Z⟩,S,V,T⟩:=i.out z a;have l:=hid (r.out z a);clear a i r F G H I A B C D;go_wp2;go_ret;exact⟨rfl,_,_,l.out⟩
def G3n (d:Nat):Prop:=∀(w:World) (o g ig cap:Nat) (its:List Im) (beh:List Nat) (nx N b:Nat) (k:Int) (s:LU8),OL w o g ig cap its beh nx->its.length<=10000000->(∀x,x∈its->x.s.length<=100000000)->Bok its->d<=1000->k=5\/k=6->
 Calls Tryz.prog 70 #[.pointer (some ⟨o,0,none⟩),.agg #[.int .i64 k,.int .i64 (N:Int),.int .u64 (b:Int),.string (ofL s)],.int .i64 (d:Int)] w (B1h w o g ig cap its beh nx (A0m (A0i d) (decide (k=6)) N (its.drop nx)))
theorem D3b (d:Nat) (A:G3n d) (w:World) (o g n cap:Nat) (its:List Im) (beh:List Nat) (c N b:Nat) (k:Int) (s:LU8) (h:OL w o g n cap its beh c) (i:its[c]? =some ⟨k,(N:Int),b,s⟩) (S:its.length<=10000000) (v:∀x,x∈its->x.s.length<=100000000) (t:Bok its) (hd:d+1<=1000) (B:A0z ⟨k,(N:Int),b,s⟩=true) (C:k=5\/k=6)
 (m:A0m (A0i d) (decide (k=6)) N (its.drop (c+1))=none):
 Calls Tryz.prog 41 #[.pointer (some ⟨o,0,none⟩),.int .i64 ((d:Int)+1)] w (B1h w o g n cap its beh c none):=by
 obtain⟨⟨J,K,M,O⟩,⟨E,F,G,H⟩,-⟩:=h.all i;have a:(⟨k,(N:Int),b,s⟩:Im)∈its:=List.mem_of_getElem? i;have q:=hid (λ(wx:World) (hT:C0f wx)=>B0g ⟨k,(N:Int),b,s⟩ wx (v _ a) (t _ a) hT);rw[B]at q;have I:=hid h.tabs;have u:c<its.length:=(List.getElem?_eq_some_iff.1 i).1;have p:=hid (λwx f=>((h.fr (w':=wx) f).all i));have z:=hid (λwx f=>OPost.stepped (w':=wx) h f u);have T:((c:Int)==(its.length:Int))=false:=bqF (by omega);have R:=h.io;have Q:=h.ig;have U:=h.og;have y:=hid (λ(wx:World) (i:OL wx o g n cap its beh (c+1))=>A wx o g n cap its beh (c+1) N b k s i S v t (by omega) C);rw[m]at y;simp only at E F G H q p;have P:((d:Int)+1==0)=false:=bqF (by omega);clear h i v t B m a A;generalize its.length=L at*;rcases C with rfl|rfl
 all_goals
  go_enter Tryz.func41,Tryz.ntmps41
  go_wp2_with fail
  refine Calls.mono (q.out _ I.out) ?_;rintro e D ⟨rfl,f⟩;obtain⟨⟨W,X,Y,Z⟩,⟨y0,y1,y2,y3⟩,fg,m1,gy⟩:=p.out D f;have j:=hid (z.out D f);clear f p z J K M O E F G H
  go_wp2_with fail
  refine Calls.mono (y.out _ j.ol) ?_;rintro e w3 ⟨rfl,V,n3,l⟩;have r:=hid l;clear l;go_wp2;go_ret;exact⟨rfl,_,_,j.trans r.out⟩
theorem C9y (d:Nat) (J:G3n d) (w:World) (o g q cap:Nat) (its:List Im) (beh:List Nat) (c N b m:Nat) (k:Int) (s:LU8) (h:OL w o g q cap its beh c) (j:its[c]? =some ⟨k,(N:Int),b,s⟩) (hl:its.length<=10000000) (F:∀x,x∈its->x.s.length<=100000000) (D:Bok its) (hd:d+1<=1000) (M:A0z ⟨k,(N:Int),b,s⟩=true) (O:k=5\/k=6)
 (v:A0m (A0i d) (decide (k=6)) N (its.drop (c+1))=some m) (f:A0i (d+1) (its.drop c)=m+1):
 Calls Tryz.prog 41 #[.pointer (some ⟨o,0,none⟩),.int .i64 ((d:Int)+1)] w (B1h w o g q cap its beh c (some (m+1))):=by
 obtain⟨⟨W,X,Y,Z⟩,⟨R,S,T,U⟩,-⟩:=h.all j;have i:(⟨k,(N:Int),b,s⟩:Im)∈its:=List.mem_of_getElem? j;have B:=hid (λ(wx:World) (hT:C0f wx)=>B0g ⟨k,(N:Int),b,s⟩ wx (F _ i) (D _ i) hT);rw[M]at B;have V:=hid h.tabs;have E:c<its.length:=(List.getElem?_eq_some_iff.1 j).1;have z:=hid (λwx n=>((h.fr (w':=wx) n).all j));have r:=hid (λwx beh' nx' (hy:OL wx o g q cap its beh' nx')=>hy.all j);have I:=hid (λwx n=>OPost.stepped (w':=wx) h n E);have a3:((c:Int)==(its.length:Int))=false:=bqF (by omega);have a2:=h.io;have a1:=h.ig;have a4:=h.og;have H:=hid (λ(wx:World) (j:OL wx o g q cap its beh (c+1))=>J wx o g q cap its beh (c+1) N b k s j hl F D (by omega) O);rw[v]at H
 have t:=hid (λ(G:World) (y:List Nat) (hp:OPost w G o g q cap its beh c y (c+1+m)) (hbk:C2b y its (c+1) (c+1+m))=>(show B1h w o g q cap its beh c (some (m+1)) (.returned (.bool true)) (G.setCell ⟨g,c,none⟩ (.int .i64 ((c+1+m:Nat):Int)))from by
  have K:c+1+m=c+(m+1):=by omega
  rw[K]at hp hbk ⊢;refine⟨rfl,_,hp.noted c (c+(m+1)) (Nat.le_refl _),?_⟩;have P:=hp.ol.len;have:=C2b.set (d:=d+1) (beh:=y) (its:=its) (a:=c) (by rw[f];exact hbk) (by rw[f];omega) (by omega) (by omega);rw[f]at this
  exact this))
 simp only at R S T U B z r;have a0:((d:Int)+1==0)=false:=bqF (by omega);clear h j F D M v i J f;generalize its.length=L at*;rcases O with rfl|rfl
 all_goals
  go_enter Tryz.func41,Tryz.ntmps41
  go_wp2_with fail
  refine Calls.mono (B.out _ V.out) ?_;rintro e Q ⟨rfl,n⟩;obtain⟨⟨d0,d1,d2,df⟩,⟨y0,y1,y2,y3⟩,fg,m1,gy⟩:=z.out Q n;have l:=hid (I.out Q n);clear n z I W X Y Z R S T U
  go_wp2_with fail
  refine Calls.mono (H.out _ l.ol) ?_;rintro e G ⟨rfl,y,p,u⟩;have C:=hid (l.trans p);have A:=hid u;obtain⟨⟨e0,K,e2,ef⟩,⟨z0,z1,z2,z3⟩,gg,m2,gz⟩:=r.out _ _ _ p.ol;clear p u l d0 d1 d2 df y0 y1 y2 y3 fg gy;generalize c+1+m=nz at*;go_wp2;go_region;go_wp2;go_ret;exact t.out _ _ C.drew A.out
end Go.Proofs.YtmkkibaacclhnaaGreatDoor
