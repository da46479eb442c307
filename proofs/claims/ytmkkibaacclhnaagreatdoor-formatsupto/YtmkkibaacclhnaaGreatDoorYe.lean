/-
  Part Ye.
-/
import Derived.Test.YtmkkibaacclhnaaGreatDoorVj
import Derived.Test.YtmkkibaacclhnaaGreatDoorXcd
import Derived.Test.YtmkkibaacclhnaaGreatDoorRe
import Derived.Test.YtmkkibaacclhnaaGreatDoorWq
namespace Go.Proofs.YtmkkibaacclhnaaGreatDoor
open Go.RowKit
set_option maxRecDepth 100000
set_option maxHeartbeats 16000000
theorem C6u {n:Nat} (h:n=0):szO n=none:=if_pos h
theorem C6v {n:Nat} (h:n≠0):szO n=some n:=if_neg h
theorem B2u {sz:List Im->Nat} {c:Nat} {l:List Im}:A0m sz false (c+1) l=if sz l=0 then none else(A0m sz false c (l.drop (sz l))).map (λm=>sz l+m):=by
 conv=>lhs;unfold A0m
 rw[if_neg (by simp)]
theorem C0t (o:Option Nat) (a b:Nat):(o.map (λm=>a+m)).map (λm=>b+m)=o.map (λm=>(b+a)+m):=by
 cases o with
 |none=>rfl
 |some v=>simp[Nat.add_assoc]
theorem D5n {w wr:World} {o g:Nat} {a b c d:Value} (f:Fr (λi=>i=o\/i=g) (w.alloc (.cells #[a,b,c,d] 29)) wr) (k:o<w.heap.size) (j:g<w.heap.size):wr.cell? ⟨w.heap.size,0,none⟩=some a/\wr.cell? ⟨w.heap.size,1,none⟩=some b:=by
 have h:=heap_alloc_new w (.cells #[a,b,c,d] 29);have e:wr.heap[w.heap.size]? =some (.cells #[a,b,c,d] 29 (0,0)):=f.heap h (by omega);exact⟨A0a e rfl,A0a e rfl⟩
theorem OL.lts {w:World} {o g a cap:Nat} {its:List Im} {beh:List Nat} {b:Nat} (h:OL w o g a cap its beh b):o<w.heap.size/\g<w.heap.size:=⟨lt_of_block h.blk,B2a h.row⟩
theorem D8x (d:Nat) (P:D2z d) (w:World) (o g D cap:Nat) (its:List Im) (beh:List Nat) (a N b:Nat) (s:LU8) (h:OL w o g D cap its beh a) (hl:its.length<=10000000) (R:∀x,x∈its->x.s.length<=100000000) (Q:Bok its) (X:d<=1000):
 Calls Tryz.prog 70 #[.pointer (some ⟨o,0,none⟩),.agg #[.int .i64 5,.int .i64 (N:Int),.int .u64 (b:Int),.string (ofL s)],.int .i64 (d:Int)] w (B1h w o g D cap its beh a (A0m (A0i d) false N (its.drop a))):=by
 obtain⟨n,t⟩:∃n,A0m (A0i d) false N (its.drop a)=n:=⟨_,rfl⟩;rw[t];obtain⟨T,S⟩:=h.lts;have M:=hid (λwx hf=>OPost.same (w':=wx) h hf);have I:=hid (λwr (hF:Fr (λi=>i=o\/i=g) (w.alloc (.cells #[.int .i64 5,.int .i64 (N:Int),.int .u64 (b:Int),.string (ofL s)] 29)) wr)=>D5n hF T S);have p:=hid ((Fr.refl (λ_=>False) w).alloc (.cells #[.int .i64 5,.int .i64 (N:Int),.int .u64 (b:Int),.string (ofL s)] 29));have U:=hid (λwx beh' nx' (hx:OL wx o g D cap its beh' nx')=>P wx o g D cap its beh' nx' hx hl R Q X);have L:=hid (show(A0m (A0i d) false (N-0) (its.drop (a+0))).map (λm=>0+m)=n by rw[<-t];simp);have v:=hid (C2b.nil beh its a);have z:=hid (OPost.refl (h.fr p.out));have a1:=h.nxle;clear h P R Q t T S;go_enter Tryz.func70,Tryz.ntmps70;go_wp2
 go_loopw [9] (λsv wr=>∃(i k:Nat) (F:List Nat),sv=.int .i64 (i:Int)/\i<=N/\i<=k/\k<=10000000/\Hid (OPost (w.alloc (.cells #[.int .i64 5,.int .i64 (N:Int),.int .u64 (b:Int),.string (ofL s)] 29)) wr o g D cap its beh a F (a+k))/\Hid (C2b F its a (a+k))/\Hid ((A0m (A0i d) false (N-i) (its.drop (a+k))).map (λm=>k+m)=n)) (λsv _=>N-(intOf sv).toNat)
 case atStart=>exact⟨0,0,beh,rfl,Nat.zero_le _,Nat.zero_le _,Nat.zero_le _,z,v,L⟩
 case round=>
  clear z v L;obtain⟨i,k,F,rfl,Y,Z,hk,u,O,E⟩:=hrel;obtain⟨x0,-⟩:=I.out _ u.fr;by_cases hi:i<N
  ·have hz:(i:Int)<(N:Int):=by omega
   obtain⟨c,W⟩:∃c,N-i=c+1:=⟨N-i-1,by omega⟩;have j:=hid (show(A0m (A0i d) false (c+1) (its.drop (a+k))).map (λm=>k+m)=n by rw[<-W];exact E.out);clear E;have y:=hid (U.out _ _ _ u.ol);by_cases f:A0i d (its.drop (a+k))=0
   ·rw[C6u f]at y
    have r:=hid (show n=none by rw[<-j.out,B2u,if_pos f];rfl);clear j f
    go_wp2_with (first|(go_at_call 41;refine Calls.mono y.out ?_;rintro e w2 ⟨rfl,K,n2,C⟩;have l:=hid C;clear C)|fail)
    go_ret;rw[r.out];exact⟨rfl,K,n2,((M.out _ p.out).trans u.out).trans l.out⟩
   ·rw[C6v f]at y
    obtain⟨m,G⟩:∃m,A0i d (its.drop (a+k))=m:=⟨_,rfl⟩
    have J:=hid (show(A0m (A0i d) false c (its.drop (a+(k+m)))).map (λq=>(k+m)+q)=n by
     rw[<-j.out,B2u,if_neg f,C0t,G,List.drop_drop,Nat.add_assoc])
    have a0:1<=m:=by omega
    have B:k+m<=10000000:=by
     have V:=A5w d (its.drop (a+k));rw[G,List.length_drop]at V;have h2:=u.ol.nxle;omega
    rw[G]at y;clear j f G
    go_wp2_with (first|(go_at_call 41;refine Calls.mono y.out ?_;rintro e w2 ⟨rfl,K,C,A⟩;have l:=hid C;have H:=hid A;clear C A)|fail)
    go_roundw
    case rel=>
     refine⟨i+1,k+m,K,by simp,by omega,by omega,B,hid ?_,hid ?_,hid ?_⟩
     ·have:=u.trans l.out;rw[Nat.add_assoc]at this;exact this
     ·have:=O.join H.out l.low;rw[Nat.add_assoc]at this;exact this
     ·rw[show N-(i+1)=c by omega];exact J.out
    case measure=>simp only[intOf];omega
  ·obtain rfl:i=N:=by omega
   have hz:¬(i:Int)<(i:Int):=by omega
   have r:=hid (show n=some k by rw[<-E.out,Nat.sub_self];rfl);clear E;go_wp2;go_ret;rw[r.out];exact⟨rfl,F,(M.out _ p.out).trans u.out,O.out⟩
def D5p:List Im->Option Nat
 |[]=>none
 |x::_=>if x.k=4/\A0z x=true then some 1 else none
def F8q:Prop:=∀(w:World) (o g ig cap:Nat) (its:List Im) (beh:List Nat) (nx:Nat),OL w o g ig cap its beh nx->its.length<=10000000->(∀x,x∈its->x.s.length<=100000000)->Bok its->
 Calls Tryz.prog 124 #[.pointer (some ⟨o,0,none⟩)] w (B1h w o g ig cap its beh nx (D5p (its.drop nx)))
theorem A7x {sz:List Im->Nat} {c:Nat} {l:List Im} (h:D5p l=none):A0m sz true (c+1) l=none:=by
 unfold A0m;rw[if_pos rfl];cases l with
 |nil=>rfl
 |cons x r=>
  unfold D5p at h;simp only at h ⊢;by_cases a:x.k=4/\A0z x=true
  ·rw[if_pos a]at h;cases h
  ·rw[if_neg a]
theorem B0h {sz:List Im->Nat} {c:Nat} {l:List Im} (h:D5p l≠none):D5p l=some 1/\A0m sz true (c+1) l=if sz (l.drop 1)=0 then none else(A0m sz true c ((l.drop 1).drop (sz (l.drop 1)))).map (λm=>1+sz (l.drop 1)+m):=by
 cases l with
 |nil=>exact absurd rfl h
 |cons x r=>
  unfold D5p at h ⊢;simp only at h ⊢;by_cases a:x.k=4/\A0z x=true
  ·rw[if_pos a]
   refine⟨rfl,?_⟩
   conv=>lhs;unfold A0m
   simp only[if_true,a,and_self,List.drop_succ_cons,List.drop_zero]
  ·rw[if_neg a]at h;exact absurd rfl h
theorem D8y (d:Nat) (Z:D2z d) (KH:F8q) (w:World) (o g C cap:Nat) (its:List Im) (beh:List Nat) (a N b:Nat) (s:LU8) (h:OL w o g C cap its beh a) (hl:its.length<=10000000) (W:∀x,x∈its->x.s.length<=100000000) (V:Bok its) (hd:d<=1000):
 Calls Tryz.prog 70 #[.pointer (some ⟨o,0,none⟩),.agg #[.int .i64 6,.int .i64 (N:Int),.int .u64 (b:Int),.string (ofL s)],.int .i64 (d:Int)] w (B1h w o g C cap its beh a (A0m (A0i d) true N (its.drop a))):=by
 obtain⟨z,B⟩:∃z,A0m (A0i d) true N (its.drop a)=z:=⟨_,rfl⟩;rw[B];obtain⟨lo,lg⟩:=h.lts;have O:=hid (λwx hf=>OPost.same (w':=wx) h hf);have R:=hid (λwr (hF:Fr (λi=>i=o\/i=g) (w.alloc (.cells #[.int .i64 6,.int .i64 (N:Int),.int .u64 (b:Int),.string (ofL s)] 29)) wr)=>D5n hF lo lg);have v:=hid ((Fr.refl (λ_=>False) w).alloc (.cells #[.int .i64 6,.int .i64 (N:Int),.int .u64 (b:Int),.string (ofL s)] 29));have HV:=hid (λwx beh' nx' (hx:OL wx o g C cap its beh' nx')=>Z wx o g C cap its beh' nx' hx hl W V hd);have T:=hid (λwx beh' nx' (hx:OL wx o g C cap its beh' nx')=>KH wx o g C cap its beh' nx' hx hl W V);have X:=hid (show(A0m (A0i d) true (N-0) (its.drop (a+0))).map (λm=>0+m)=z by rw[<-B];simp);have D:=hid (C2b.nil beh its a);have F:=hid (OPost.refl (h.fr v.out));have a2:=h.nxle;clear h Z KH W V B lo lg;go_enter Tryz.func70,Tryz.ntmps70;go_wp2
 go_loopw [9] (λsv wr=>∃(i k:Nat) (L:List Nat),sv=.int .i64 (i:Int)/\i<=N/\i<=k/\k<=10000000/\Hid (OPost (w.alloc (.cells #[.int .i64 6,.int .i64 (N:Int),.int .u64 (b:Int),.string (ofL s)] 29)) wr o g C cap its beh a L (a+k))/\Hid (C2b L its a (a+k))/\Hid ((A0m (A0i d) true (N-i) (its.drop (a+k))).map (λm=>k+m)=z)) (λsv _=>N-(intOf sv).toNat)
 case atStart=>exact⟨0,0,beh,rfl,Nat.zero_le _,Nat.zero_le _,Nat.zero_le _,F,D,X⟩
 case round=>
  clear F D X;obtain⟨i,k,L,rfl,a0,a1,hk,E,Y,K⟩:=hrel;obtain⟨x0,-⟩:=R.out _ E.fr;by_cases hi:i<N
  ·have hz:(i:Int)<(N:Int):=by omega
   obtain⟨c,hc⟩:∃c,N-i=c+1:=⟨N-i-1,by omega⟩;have f:=hid (show(A0m (A0i d) true (c+1) (its.drop (a+k))).map (λm=>k+m)=z by rw[<-hc];exact K.out);clear K;have J:=hid (T.out _ _ _ E.ol);by_cases u:D5p (its.drop (a+k))=none
   ·rw[u]at J
    have r:=hid (show z=none by rw[<-f.out,A7x u];rfl);clear f u
    go_wp2_with (first|(go_at_call 124;refine Calls.mono J.out ?_;rintro e w2 ⟨rfl,b2,n2,l⟩;have j:=hid l;clear l)|fail)
    go_ret;rw[r.out];exact⟨rfl,b2,n2,((O.out _ v.out).trans E.out).trans j.out⟩
   ·obtain⟨G,I⟩:=B0h (sz:=A0i d) (c:=c) u
    rw[G]at J;have y:=hid I;clear u G I
    go_wp2_with (first|(go_at_call 124;refine Calls.mono J.out ?_;rintro e w2 ⟨rfl,b2,l,t⟩;have j:=hid (E.trans l);have P:=hid (Y.join t l.low);clear l t)|fail)
    have p:=hid (HV.out _ _ _ j.ol);by_cases n:A0i d (its.drop (a+k+1))=0
    ·rw[C6u n]at p
     have r:=hid (show z=none by rw[<-f.out,y.out,List.drop_drop,if_pos n];rfl);clear f n y;refine Calls.mono p.out ?_;rintro e w3 ⟨rfl,U,n3,l⟩;have A:=hid l;clear l;go_wp2;go_ret;rw[r.out];exact⟨rfl,U,n3,((O.out _ v.out).trans j.out).trans A.out⟩
    ·rw[C6v n]at p
     obtain⟨m,M⟩:∃m,A0i d (its.drop (a+k+1))=m:=⟨_,rfl⟩
     have S:=hid (show(A0m (A0i d) true c (its.drop (a+(k+1+m)))).map (λq=>(k+1+m)+q)=z by
      rw[<-f.out,y.out,List.drop_drop,if_neg n,C0t,M,List.drop_drop]
      simp only[Nat.add_assoc])
     have H:k+1+m<=10000000:=by
      have h1:=A5w d (its.drop (a+k+1));rw[M,List.length_drop]at h1;have h2:=j.ol.nxle;omega
     rw[M]at p;clear f n M y;refine Calls.mono p.out ?_;rintro e w3 ⟨rfl,U,l,t⟩;have A:=hid (j.trans l);have Q:=hid (P.join t l.low);clear l t;go_wp2;go_roundw
     case rel=>
      refine⟨i+1,k+1+m,U,by simp,by omega,by omega,H,hid ?_,hid ?_,hid ?_⟩
      ·have:=A.out;simp only[Nat.add_assoc]at this ⊢;exact this
      ·have:=Q.out;simp only[Nat.add_assoc]at this ⊢;exact this
      ·rw[show N-(i+1)=c by omega];exact S.out
     case measure=>simp only[intOf];omega
  ·obtain rfl:i=N:=by omega
   have hz:¬(i:Int)<(i:Int):=by omega
   have r:=hid (show z=some k by rw[<-K.out,Nat.sub_self];rfl);clear K;go_wp2;go_ret;rw[r.out];exact⟨rfl,L,(O.out _ v.out).trans E.out,Y.out⟩
def B7f (x:It):Im:=⟨(x.k:Int),(x.n:Int),x.b,x.s⟩
def ims (l:List It):List Im:=l.map B7f
theorem A6r (a b:List It):ims (a++b)=ims a++ims b:=by simp[ims]
theorem A2p (a:List It):(ims a).length=a.length:=by simp[ims]
theorem D3c {neg:Bool} {r:Nat} (h:(A2z neg r).2=0):(A2z neg r).1<18446744073709551616/\(A2z neg r).1 % 9223372036854775808<9218868437227405312:=by
 unfold A2z at h ⊢;split at h
 ·cases h
 ·rename_i hr
  rw[if_neg hr];cases neg
  ·simp only[Bool.false_eq_true,if_false];omega
  ·simp only[if_true];omega
theorem C9z {t:Tk} (h:(A3n t).2=0):(A3n t).1<18446744073709551616/\(A3n t).1 % 9223372036854775808<9218868437227405312:=by
 unfold A3n at h ⊢;split at h
 ·rename_i hE
  rw[if_pos hE];exact D3c h
 ·cases h
theorem D0a {s:LU8} (h:isU s=true):A0z (B7f ⟨4,0,0,s⟩)=true:=by
 unfold A0z B7f;simp[h]
theorem D5q {b:Nat} (h:b % 9223372036854775808<9218868437227405312):A0z (B7f ⟨3,0,b,[]⟩)=true:=by
 unfold A0z B7f;simp[h]
theorem E6c {k:Nat} (h:k=0\/k=1\/k=2):A0z (B7f ⟨k,0,0,[]⟩)=true:=by
 unfold A0z B7f;rcases h with rfl|rfl|rfl<;>simp
theorem E6d {k n:Nat} (h:k=5\/k=6):A0z (B7f ⟨k,n,0,[]⟩)=true:=by
 unfold A0z B7f;rcases h with rfl|rfl<;>simp
theorem B8k {d:Nat} {x:It} {T:List Im} (b:A0z (B7f x)=true) (c:x.k<5):A0i d (ims [x]++T)=1:=by
 have a:(B7f x).k<5:=by show(x.k:Int)<5;omega
 show A0i d (B7f x::T)=1
 cases d with
 |zero=>rw[A0i,if_pos ⟨b,a⟩]
 |succ d=>rw[A0i,if_pos b,if_pos a]
def G5f (depth inn:Nat) (m:Md):RV->Prop
 |.ok n its _=>Bok (ims its)/\match m with
  |.val=>its≠[]/\∀T,A0i (depth-inn) (ims its++T)=its.length
  |.vals=>∀T,A0m (A0i (depth-inn)) false n (ims its++T)=some its.length
  |.pairs=>∀T,A0m (A0i (depth-inn)) true n (ims its++T)=some its.length
  |.pair=>∀T,A0m (A0i (depth-inn)) true 1 (ims its++T)=some its.length
  |.valsGo n0 acc=>∃new,its=acc++new/\n0<=n/\∀T,A0m (A0i (depth-inn)) false (n-n0+1) (ims new++T)=some new.length
  |.pairsGo n0 acc=>∃new,its=acc++new/\n0<=n/\∀T,A0m (A0i (depth-inn)) true (n-n0+1) (ims new++T)=some new.length
 |_=>True
theorem Bok.append {a b:List Im} (c:Bok a) (d:Bok b):Bok (a++b):=λx hx=>(List.mem_append.1 hx).elim (c x) (d x)
theorem B3w {x:It} (h:x.b<18446744073709551616):Bok (ims [x]):=by
 intro y a;simp[ims]at a;subst a;exact h
theorem C3v {sz:List Im->Nat} {A T:List Im} {c:Nat} (h:∀T,sz (A++T)=A.length) (b:A≠[]):A0m sz false (c+1) (A++T)=(A0m sz false c T).map (λm=>A.length+m):=by
 have a:A.length≠0:=by simpa using b
 rw[B2u,h,if_neg a,List.drop_left'];rfl
theorem D8z {sz:List Im->Nat} {A T:List Im} {c:Nat} (h:∀T,A0m sz true 1 (A++T)=some A.length):A0m sz true (c+1) (A++T)=(A0m sz true c T).map (λm=>A.length+m):=by
 have a:=h T;by_cases b:D5p (A++T)=none
 ·rw[A7x b]at a;cases a
 ·obtain⟨-,e⟩:=B0h (sz:=sz) (c:=0) b
  obtain⟨-,f⟩:=B0h (sz:=sz) (c:=c) b;rw[e]at a;rw[f];by_cases d:sz ((A++T).drop 1)=0
  ·rw[if_pos d]at a;cases a
  ·rw[if_neg d]at a ⊢
   have g:1+sz ((A++T).drop 1)=A.length:=by
    simp only[A0m,Option.map_some,Option.some.injEq]at a;omega
   rw[List.drop_drop,g,List.drop_left' rfl]
theorem F2v {sz:List Im->Nat} {x:Im} {A T:List Im} (i:x.k=4) (g:A0z x=true) (h:sz (A++T)=A.length) (e:A≠[]):A0m sz true 1 (x::A++T)=some (A.length+1):=by
 have d:A.length≠0:=by simpa using e
 have a:D5p (x::A++T)≠none:=by
  show(if x.k=4/\A0z x=true then some 1 else none)≠none
  rw[if_pos ⟨i,g⟩];simp
 obtain⟨-,b⟩:=B0h (sz:=sz) (c:=0) a;rw[b];have f:(x::A++T).drop 1=A++T:=rfl;rw[f,h,if_neg d];simp only[A0m,Option.map_some,Option.some.injEq];omega
theorem D0b {d n:Nat} {k:Nat} {its:List It} {T:List Im} (a:k=5\/k=6) (h:A0m (A0i d) (decide (k=6)) n (ims its++T)=some its.length):A0i (d+1) (ims (⟨k,n,0,[]⟩::its)++T)=its.length+1:=by
 have e:decide (((B7f ⟨k,n,0,[]⟩).k)=6)=decide (k=6):=by
  show decide ((k:Int)=6)=_
  rcases a with rfl|rfl<;>rfl
 show A0i (d+1) (B7f ⟨k,n,0,[]⟩::(ims its++T))=_
 rw[A0i,if_pos (E6d a),if_neg (by show¬((k:Int)<5);omega),e,show(B7f ⟨k,n,0,[]⟩).n.toNat=n from Int.toNat_natCast n,h];rfl
theorem F2w (b f inn:Nat) (m:Md) (r:LU8) (i:inn<=b) (C:∀n d,m=.valsGo n d\/m=.pairsGo n d->Bok (ims d)):G5f b inn m (rGo b f inn m r):=by
 induction f generalizing inn m r with
 |zero=>trivial
 |succ f ih=>
  have j:∀m:Md,(m=.val\/m=.vals\/m=.pairs\/m=.pair)->∀n d,m=.valsGo n d\/m=.pairsGo n d->Bok (ims d):=by
   rintro m (rfl|rfl|rfl|rfl) n d (h|h)<;>cases h
  rw[rGo.eq_def];cases m with
  |val=>
   simp only;cases v:A0s r with
   |nil=>trivial
   |cons c q=>
    simp only;split
    ·unfold B2y
     cases Q:A1i tr0 q with
     |wrong n p=>trivial
     |ended=>trivial
     |ok s p=>exact⟨B3w (by show 0<_;omega),by simp,λT=>B8k (D0a (C9e Q)) (by show 4<5;omega)⟩
    ·split
     ·split
      ·trivial
      ·rename_i y
       have g:=ih (inn+1) .vals q (by omega) (j _ (.inr (.inl rfl)));cases hr:rGo b f (inn+1) .vals q with
       |wrong n p=>trivial
       |ended l=>trivial
       |ok n its p=>
        rw[hr]at g;obtain⟨u,g⟩:=g;refine⟨Bok.append (a:=ims [_]) (B3w (by show 0<_;omega)) u,by simp,λT=>?_⟩;rw[show b-inn=(b-(inn+1))+1 by omega];exact D0b (.inl rfl) (g T)
     ·split
      ·split
       ·trivial
       ·rename_i y
        have g:=ih (inn+1) .pairs q (by omega) (j _ (.inr (.inr (.inl rfl))));cases hr:rGo b f (inn+1) .pairs q with
        |wrong n p=>trivial
        |ended l=>trivial
        |ok n its p=>
         rw[hr]at g;obtain⟨u,g⟩:=g;refine⟨Bok.append (a:=ims [_]) (B3w (by show 0<_;omega)) u,by simp,λT=>?_⟩;rw[show b-inn=(b-(inn+1))+1 by omega];exact D0b (.inr rfl) (g T)
      ·split
       ·unfold A4v
        cases Q:A5n t0 (c::q)with
        |lost p=>trivial
        |stop t p=>
         simp only;split
         ·trivial
         ·rename_i h0
          obtain⟨M,O⟩:=C9z (t:=t) (by omega);exact⟨B3w M,by simp,λT=>B8k (D5q O) (by show 3<5;omega)⟩
        |ended t=>
         simp only;split
         ·rename_i h0
          obtain⟨M,O⟩:=C9z (t:=t) h0;exact⟨B3w M,by simp,λT=>B8k (D5q O) (by show 3<5;omega)⟩
         ·trivial
       ·have I:∀(k:Nat) (w p:LU8),k=0\/k=1\/k=2->G5f b inn .val (A8n k w p):=by
         intro k w p R;unfold A8n;cases A3a w p with
         |wrong n p=>trivial
         |ended=>trivial
         |ok s p=>exact⟨B3w (by show 0<_;omega),by simp,λT=>B8k (E6c R) (by show k<5;omega)⟩
        split
        ·exact I 0 _ _ (.inl rfl)
        ·split
         ·exact I 1 _ _ (.inr (.inl rfl))
         ·split
          ·exact I 2 _ _ (.inr (.inr rfl))
          ·trivial
  |vals=>
   simp only;cases v:A0s r with
   |nil=>trivial
   |cons c q=>
    simp only;split
    ·exact⟨by intro x v;simp[ims]at v,λT=>rfl⟩
    ·have g:=ih inn (.valsGo 1 []) (c::q) i (by rintro n d (h|h)<;>cases h;intro x v;simp[ims]at v)
     cases hr:rGo b f inn (.valsGo 1 []) (c::q)with
     |wrong n p=>trivial
     |ended l=>trivial
     |ok n its p=>
      rw[hr]at g;obtain⟨u,z,B,L,D⟩:=g;rw[List.nil_append]at B;subst B;refine⟨u,λT=>?_⟩;rw[show n=n-1+1 by omega];exact D T
  |pairs=>
   simp only;cases v:A0s r with
   |nil=>trivial
   |cons c q=>
    simp only;split
    ·exact⟨by intro x v;simp[ims]at v,λT=>rfl⟩
    ·have g:=ih inn (.pairsGo 1 []) (c::q) i (by rintro n d (h|h)<;>cases h;intro x v;simp[ims]at v)
     cases hr:rGo b f inn (.pairsGo 1 []) (c::q)with
     |wrong n p=>trivial
     |ended l=>trivial
     |ok n its p=>
      rw[hr]at g;obtain⟨u,z,B,L,D⟩:=g;rw[List.nil_append]at B;subst B;refine⟨u,λT=>?_⟩;rw[show n=n-1+1 by omega];exact D T
  |valsGo n d=>
   simp only;have H:=C n d (.inl rfl);have g:=ih inn .val r i (j _ (.inl rfl));cases J:rGo b f inn .val r with
   |wrong e q=>trivial
   |ended l=>trivial
   |ok a its p=>
    rw[J]at g;obtain⟨u,y,g⟩:=g;have P:ims its≠[]:=by simpa[ims]using y
    have K:∀T,A0i (b-inn) (ims its++T)=(ims its).length:=λT=>by rw[g T,A2p]
    simp only;cases v:A0s p with
    |nil=>trivial
    |cons c q=>
     simp only;split
     ·refine⟨by rw[A6r];exact H.append u,its,rfl,Nat.le_refl _,λT=>?_⟩
      rw[Nat.sub_self,C3v K P];simp[A0m,A2p]
     ·split
      ·have o:Bok (ims (d++its)):=by rw[A6r];exact H.append u
       have G:=ih inn (.valsGo (n+1) (d++its)) q i (by
        rintro S F (h|h)
        ·cases h;exact o
        ·cases h)
       cases hr:rGo b f inn (.valsGo (n+1) (d++its)) q with
       |wrong n p=>trivial
       |ended l=>trivial
       |ok N its' p=>
        rw[hr]at G;obtain⟨E,z,B,L,D⟩:=G;refine⟨E,its++z,by rw[B,List.append_assoc],by omega,λT=>?_⟩;rw[A6r,List.append_assoc,C3v K P,show N-n=N-(n+1)+1 by omega,D T];simp[A2p]
      ·trivial
  |pairsGo n d=>
   simp only;have H:=C n d (.inr rfl);have g:=ih inn .pair r i (j _ (.inr (.inr (.inr rfl))));cases J:rGo b f inn .pair r with
   |wrong e q=>trivial
   |ended l=>trivial
   |ok a its p=>
    rw[J]at g;obtain⟨u,g⟩:=g;have K:∀T,A0m (A0i (b-inn)) true 1 (ims its++T)=some (ims its).length:=λT=>by rw[g T,A2p]
    simp only;cases v:A0s p with
    |nil=>trivial
    |cons c q=>
     simp only;split
     ·refine⟨by rw[A6r];exact H.append u,its,rfl,Nat.le_refl _,λT=>?_⟩
      rw[Nat.sub_self];exact g T
     ·split
      ·have o:Bok (ims (d++its)):=by rw[A6r];exact H.append u
       have G:=ih inn (.pairsGo (n+1) (d++its)) q i (by
        rintro S F (h|h)
        ·cases h
        ·cases h;exact o)
       cases hr:rGo b f inn (.pairsGo (n+1) (d++its)) q with
       |wrong n p=>trivial
       |ended l=>trivial
       |ok N its' p=>
        rw[hr]at G;obtain⟨E,z,B,L,D⟩:=G;refine⟨E,its++z,by rw[B,List.append_assoc],by omega,λT=>?_⟩;rw[A6r,List.append_assoc,D8z K,show N-n=N-(n+1)+1 by omega,D T];simp[A2p]
      ·trivial
  |pair=>
   simp only;cases v:A0s r with
   |nil=>trivial
   |cons c q=>
    simp only;split
    ·trivial
    ·cases J:A1i tr0 q with
     |wrong e p=>trivial
     |ended=>trivial
     |ok s p=>
      simp only;cases U:A0s p with
      |nil=>trivial
      |cons c2 q2=>
       simp only;split
       ·trivial
       ·have g:=ih inn .val q2 i (j _ (.inl rfl))
        cases I:rGo b f inn .val q2 with
        |wrong e p=>trivial
        |ended l=>trivial
        |ok a its p2=>
         rw[I]at g;obtain⟨u,y,g⟩:=g;refine⟨Bok.append (a:=ims [_]) (B3w (by show 0<_;omega)) u,λT=>?_⟩;have:=F2v (sz:=A0i (b-inn)) (x:=B7f ⟨4,0,0,s⟩) (A:=ims its) (T:=T) rfl (D0a (C9e J)) (by rw[g T,A2p]) (by simpa[ims]using y);rw[A2p]at this;exact this
theorem D9a {d n:Nat} {l p:LU8} {its:List It} (h:B1g d l=.ok n its p):its≠[]/\A0i d (ims its)=its.length/\Bok (ims its):=by
 unfold B1g at h;have b:=F2w d (4*l.length+1) 0 .val l (Nat.zero_le _) (by rintro n f (h|h)<;>cases h);cases hr:rGo d (4*l.length+1) 0 .val l with
 |wrong e q=>rw[hr]at h;cases h
 |ended l=>rw[hr]at h;cases h
 |ok a its' p'=>
  rw[hr]at h b;simp only at h;split at h
  ·cases h
   obtain⟨g,c,b⟩:=b;have:=b [];rw[List.append_nil,Nat.sub_zero]at this;exact⟨c,this,g⟩
  ·cases h
def wt (l:List It):Nat:=wgt (ims l)
theorem B5i:wt []=0:=rfl
theorem B3x (x:It) (l:List It):wt (x::l)=6*x.s.length+33000+wt l:=B2q (B7f x) (ims l)
theorem B5j (a b:List It):wt (a++b)=wt a+wt b:=by unfold wt;rw[A6r,B2r]
def D9b:Md->Nat
 |.valsGo _ acc=>wt acc
 |.pairsGo _ acc=>wt acc
 |_=>0
def RV.wtOk (b:Nat):RV->Prop
 |.ok _ new q=>wt new+33024*q.length<=b
 |_=>True
theorem RV.wtOk.mono {a b:Nat} {x:RV} (h:x.wtOk a) (c:a<=b):x.wtOk b:=by
 cases x with
 |ok n new q=>exact Nat.le_trans h c
 |wrong e q=>trivial
 |ended l=>trivial
theorem E6e (t:Tr) (k:Nat) (r s q:LU8) (f:TrOk t k) (h:A1i t r=.ok s q):s.length+4*q.length<=4*(k+r.length):=by
 induction r generalizing t k with
 |nil=>cases h
 |cons c r ih=>
  rw[A1i]at h;cases a:A2q t c with
  |error e=>rw[a]at h;cases h
  |ok x=>
   obtain⟨g,b⟩:=x;rw[a]at h;have d:=C7s f a;cases b with
   |true=>
    cases h;have:=d.len;simp only[List.length_cons];omega
   |false=>
    have:=ih g (k+1) d h;simp only[List.length_cons];omega
theorem B8m {r s q:LU8} (h:A1i tr0 r=.ok s q):s.length+4*q.length<=4*r.length:=by
 have:=E6e tr0 0 r s q F4u h;omega
theorem C0u {w r q:LU8} {a:Unit} (h:A3a w r=.ok a q):w.length+q.length=r.length:=by
 induction w generalizing r with
 |nil=>rw[A3a]at h;cases h;simp
 |cons x w ih=>
  cases r with
  |nil=>rw[A3a]at h;cases h
  |cons c r=>
   rw[A3a]at h;split at h
   ·cases h
   ·have:=ih h
    simp only[List.length_cons];omega
theorem C6w (k:Nat) (x:UInt8) (w r:LU8):(A8n k (x::w) r).wtOk (33024*r.length):=by
 unfold A8n;cases b:A3a (x::w) r with
 |ok a q=>
  have:=C0u b
  show wt [_]+33024*q.length<=_
  rw[B3x,B5i];simp only[List.length_cons,List.length_nil]at this ⊢;omega
 |wrong n q=>trivial
 |ended=>trivial
theorem E6f (inn:Nat) (c:UInt8) (q:LU8):(A4v inn (c::q)).wtOk (33024*(c::q).length):=by
 unfold A4v;rw[A5n];cases a:nxt t0 c with
 |none=>
  simp only;rw[C0k (show¬A8b t0.st by unfold A8b;decide),if_pos (by decide)];trivial
 |some t'=>
  simp only;split
  ·trivial
  ·rename_i t q' hx
   split at hx
   ·cases hx
   have h:=B4r t' q;rw[hx]at h;have:=h.1.length_le;split
   ·trivial
   ·show wt [_]+33024*q'.length<=_
    rw[B3x,B5i];simp only[List.length_cons,List.length_nil];omega
  ·split
   ·show wt [_]+33024*0<=_
    rw[B3x,B5i];simp only[List.length_cons,List.length_nil];omega
   ·trivial
theorem D5r {k b:Nat} {x:RV} (h:x.wtOk b):(B7r k x).wtOk (b+33024):=by
 cases x with
 |ok n its q=>
  have h:wt its+33024*q.length<=b:=h
  show wt (_::its)+33024*q.length<=b+33024
  rw[B3x];simp only[List.length_nil];omega
 |wrong e q=>trivial
 |ended l=>trivial
theorem F2x (r:LU8):(B2y r).wtOk (33024*(r.length+1)):=by
 unfold B2y;cases b:A1i tr0 r with
 |ok a q=>
  have:=B8m b
  show wt [_]+33024*q.length<=_
  rw[B3x,B5i];simp only;omega
 |wrong n q=>trivial
 |ended=>trivial
theorem G2m (b f inn:Nat) (m:Md) (r:LU8):(rGo b f inn m r).wtOk (D9b m+33024*r.length):=by
 induction f generalizing inn m r with
 |zero=>trivial
 |succ f ih=>
  have d:=(A0x r).length_le;rw[rGo.eq_def];cases m with
  |val=>
   simp only;cases i:A0s r with
   |nil=>trivial
   |cons c q=>
    rw[i]at d;have h:q.length+1<=r.length:=d;have g:33024*(c::q).length<=33024*r.length:=Nat.mul_le_mul_left _ d;simp only[D9b,Nat.zero_add]
    repeat' split
    ·exact(F2x q).mono (by omega)
    ·trivial
    ·exact(D5r (ih _ _ _)).mono (by simp only[D9b];omega)
    ·trivial
    ·exact(D5r (ih _ _ _)).mono (by simp only[D9b];omega)
    ·exact(E6f _ _ _).mono g
    ·exact(C6w _ _ _ _).mono g
    ·exact(C6w _ _ _ _).mono g
    ·exact(C6w _ _ _ _).mono g
    ·trivial
  |vals=>
   simp only;cases i:A0s r with
   |nil=>trivial
   |cons c q=>
    rw[i]at d;have h:q.length+1<=r.length:=d;simp only;split
    ·show wt []+33024*q.length<=_
     rw[B5i];simp only[D9b];omega
    ·exact(ih _ _ _).mono (by simp only[D9b,B5i,List.length_cons];omega)
  |pairs=>
   simp only;cases i:A0s r with
   |nil=>trivial
   |cons c q=>
    rw[i]at d;have h:q.length+1<=r.length:=d;simp only;split
    ·show wt []+33024*q.length<=_
     rw[B5i];simp only[D9b];omega
    ·exact(ih _ _ _).mono (by simp only[D9b,B5i,List.length_cons];omega)
  |valsGo n acc=>
   simp only;have j:=ih inn .val r;cases k:rGo b f inn .val r with
   |wrong e q=>trivial
   |ended l=>trivial
   |ok a its p=>
    rw[k]at j;have j:wt its+33024*p.length<=0+33024*r.length:=j;have d:=(A0x p).length_le;simp only;cases i:A0s p with
    |nil=>trivial
    |cons c q=>
     rw[i]at d;have h:q.length+1<=p.length:=d;simp only
     repeat' split
     ·show wt (acc++its)+33024*q.length<=_
      rw[B5j];simp only[D9b];omega
     ·exact(ih _ _ _).mono (by simp only[D9b,B5j];omega)
     ·trivial
  |pairsGo n acc=>
   simp only;have j:=ih inn .pair r;cases k:rGo b f inn .pair r with
   |wrong e q=>trivial
   |ended l=>trivial
   |ok a its p=>
    rw[k]at j;have j:wt its+33024*p.length<=0+33024*r.length:=j;have d:=(A0x p).length_le;simp only;cases i:A0s p with
    |nil=>trivial
    |cons c q=>
     rw[i]at d;have h:q.length+1<=p.length:=d;simp only
     repeat' split
     ·show wt (acc++its)+33024*q.length<=_
      rw[B5j];simp only[D9b];omega
     ·exact(ih _ _ _).mono (by simp only[D9b,B5j];omega)
     ·trivial
  |pair=>
   simp only;cases i:A0s r with
   |nil=>trivial
   |cons c q=>
    rw[i]at d;have h:q.length+1<=r.length:=d;simp only;split
    ·trivial
    ·cases k:A1i tr0 q with
     |wrong e p=>trivial
     |ended=>trivial
     |ok s p=>
      have j:=B8m k;have g:=(A0x p).length_le;simp only;cases v:A0s p with
      |nil=>trivial
      |cons c2 q2=>
       rw[v]at g;have t:q2.length+1<=p.length:=g;simp only;split
       ·trivial
       ·have o:=ih inn .val q2
        cases u:rGo b f inn .val q2 with
        |wrong e p2=>trivial
        |ended l=>trivial
        |ok a its p2=>
         rw[u]at o;have o:wt its+33024*p2.length<=0+33024*q2.length:=o
         show wt (_::its)+33024*p2.length<=_
         rw[B3x];simp only[D9b];omega
theorem F2y {d n:Nat} {l p:LU8} {its:List It} (h:B1g d l=.ok n its p):wt its<=33024*l.length:=by
 unfold B1g at h;have b:=G2m d (4*l.length+1) 0 .val l;cases hr:rGo d (4*l.length+1) 0 .val l with
 |wrong e q=>rw[hr]at h;cases h
 |ended l=>rw[hr]at h;cases h
 |ok a its' p'=>
  rw[hr]at h b;have b:wt its'+33024*p'.length<=0+33024*l.length:=b;simp only at h;split at h
  ·cases h;omega
  ·cases h
theorem D5s (l:List It):33000*l.length<=wt l/\∀x,x∈ims l->6*x.s.length<=wt l:=by
 induction l with
 |nil=>exact⟨by simp[B5i],by simp[ims]⟩
 |cons y l ih=>
  rw[B3x];refine⟨by simp only[List.length_cons];omega,λx a=>?_⟩;have a:x∈B7f y::ims l:=a;rcases List.mem_cons.1 a with rfl|a
  ·show 6*y.s.length<=_;omega
  ·have:=ih.2 x a;omega
def ws (l:List It):Nat:=(l.map (λx=>x.s.length)).sum
theorem B7g:ws []=0:=rfl
theorem B3y (x:It) (l:List It):ws (x::l)=x.s.length+ws l:=by simp[ws]
theorem B5k (a b:List It):ws (a++b)=ws a+ws b:=by simp[ws]
def D9c:Md->Nat
 |.valsGo _ acc=>ws acc
 |.pairsGo _ acc=>ws acc
 |_=>0
def RV.wsOk (b:Nat):RV->Prop
 |.ok _ new q=>ws new+4*q.length<=b
 |_=>True
theorem RV.wsOk.mono {a b:Nat} {x:RV} (h:x.wsOk a) (c:a<=b):x.wsOk b:=by
 cases x with
 |ok n new q=>exact Nat.le_trans h c
 |wrong e q=>trivial
 |ended l=>trivial
theorem C6x (k:Nat) (x:UInt8) (w r:LU8):(A8n k (x::w) r).wsOk (4*r.length):=by
 unfold A8n;cases b:A3a (x::w) r with
 |ok a q=>
  have:=C0u b
  show ws [_]+4*q.length<=_
  rw[B3y,B7g];simp only[List.length_cons,List.length_nil]at this ⊢;omega
 |wrong n q=>trivial
 |ended=>trivial
theorem E6g (inn:Nat) (c:UInt8) (q:LU8):(A4v inn (c::q)).wsOk (4*(c::q).length):=by
 unfold A4v;rw[A5n];cases a:nxt t0 c with
 |none=>
  simp only;rw[C0k (show¬A8b t0.st by unfold A8b;decide),if_pos (by decide)];trivial
 |some t'=>
  simp only;split
  ·trivial
  ·rename_i t q' hx
   split at hx
   ·cases hx
   have h:=B4r t' q;rw[hx]at h;have:=h.1.length_le;split
   ·trivial
   ·show ws [_]+4*q'.length<=_
    rw[B3y,B7g];simp only[List.length_cons,List.length_nil];omega
  ·split
   ·show ws [_]+4*0<=_
    rw[B3y,B7g];simp only[List.length_cons,List.length_nil];omega
   ·trivial
theorem D5t {k b:Nat} {x:RV} (h:x.wsOk b):(B7r k x).wsOk (b+4):=by
 cases x with
 |ok n its q=>
  have h:ws its+4*q.length<=b:=h
  show ws (_::its)+4*q.length<=b+4
  rw[B3y];simp only[List.length_nil];omega
 |wrong e q=>trivial
 |ended l=>trivial
theorem F2z (r:LU8):(B2y r).wsOk (4*(r.length+1)):=by
 unfold B2y;cases b:A1i tr0 r with
 |ok a q=>
  have:=B8m b
  show ws [_]+4*q.length<=_
  rw[B3y,B7g];simp only;omega
 |wrong n q=>trivial
 |ended=>trivial
theorem G2n (b f inn:Nat) (m:Md) (r:LU8):(rGo b f inn m r).wsOk (D9c m+4*r.length):=by
 induction f generalizing inn m r with
 |zero=>trivial
 |succ f ih=>
  have d:=(A0x r).length_le;rw[rGo.eq_def];cases m with
  |val=>
   simp only;cases i:A0s r with
   |nil=>trivial
   |cons c q=>
    rw[i]at d;have h:q.length+1<=r.length:=d;have g:4*(c::q).length<=4*r.length:=Nat.mul_le_mul_left _ d;simp only[D9c,Nat.zero_add]
    repeat' split
    ·exact(F2z q).mono (by omega)
    ·trivial
    ·exact(D5t (ih _ _ _)).mono (by simp only[D9c];omega)
    ·trivial
    ·exact(D5t (ih _ _ _)).mono (by simp only[D9c];omega)
    ·exact(E6g _ _ _).mono g
    ·exact(C6x _ _ _ _).mono g
    ·exact(C6x _ _ _ _).mono g
    ·exact(C6x _ _ _ _).mono g
    ·trivial
  |vals=>
   simp only;cases i:A0s r with
   |nil=>trivial
   |cons c q=>
    rw[i]at d;have h:q.length+1<=r.length:=d;simp only;split
    ·show ws []+4*q.length<=_
     rw[B7g];simp only[D9c];omega
    ·exact(ih _ _ _).mono (by simp only[D9c,B7g,List.length_cons];omega)
  |pairs=>
   simp only;cases i:A0s r with
   |nil=>trivial
   |cons c q=>
    rw[i]at d;have h:q.length+1<=r.length:=d;simp only;split
    ·show ws []+4*q.length<=_
     rw[B7g];simp only[D9c];omega
    ·exact(ih _ _ _).mono (by simp only[D9c,B7g,List.length_cons];omega)
  |valsGo n acc=>
   simp only;have j:=ih inn .val r;cases k:rGo b f inn .val r with
   |wrong e q=>trivial
   |ended l=>trivial
   |ok a its p=>
    rw[k]at j;have j:ws its+4*p.length<=0+4*r.length:=j;have d:=(A0x p).length_le;simp only;cases i:A0s p with
    |nil=>trivial
    |cons c q=>
     rw[i]at d;have h:q.length+1<=p.length:=d;simp only
     repeat' split
     ·show ws (acc++its)+4*q.length<=_
      rw[B5k];simp only[D9c];omega
     ·exact(ih _ _ _).mono (by simp only[D9c,B5k];omega)
     ·trivial
  |pairsGo n acc=>
   simp only;have j:=ih inn .pair r;cases k:rGo b f inn .pair r with
   |wrong e q=>trivial
   |ended l=>trivial
   |ok a its p=>
    rw[k]at j;have j:ws its+4*p.length<=0+4*r.length:=j;have d:=(A0x p).length_le;simp only;cases i:A0s p with
    |nil=>trivial
    |cons c q=>
     rw[i]at d;have h:q.length+1<=p.length:=d;simp only
     repeat' split
     ·show ws (acc++its)+4*q.length<=_
      rw[B5k];simp only[D9c];omega
     ·exact(ih _ _ _).mono (by simp only[D9c,B5k];omega)
     ·trivial
  |pair=>
   simp only;cases i:A0s r with
   |nil=>trivial
   |cons c q=>
    rw[i]at d;have h:q.length+1<=r.length:=d;simp only;split
    ·trivial
    ·cases k:A1i tr0 q with
     |wrong e p=>trivial
     |ended=>trivial
     |ok s p=>
      have j:=B8m k;have g:=(A0x p).length_le;simp only;cases v:A0s p with
      |nil=>trivial
      |cons c2 q2=>
       rw[v]at g;have t:q2.length+1<=p.length:=g;simp only;split
       ·trivial
       ·have o:=ih inn .val q2
        cases u:rGo b f inn .val q2 with
        |wrong e p2=>trivial
        |ended l=>trivial
        |ok a its p2=>
         rw[u]at o;have o:ws its+4*p2.length<=0+4*q2.length:=o
         show ws (_::its)+4*p2.length<=_
         rw[B3y];simp only[D9c];omega
theorem F3a {d n:Nat} {l p:LU8} {its:List It} (h:B1g d l=.ok n its p):ws its<=4*l.length:=by
 unfold B1g at h;have b:=G2n d (4*l.length+1) 0 .val l;cases hr:rGo d (4*l.length+1) 0 .val l with
 |wrong e q=>rw[hr]at h;cases h
 |ended l=>rw[hr]at h;cases h
 |ok a its' p'=>
  rw[hr]at h b;have b:ws its'+4*p'.length<=0+4*l.length:=b;simp only at h;split at h
  ·cases h;omega
  ·cases h
theorem F5s (l:List It):∀x,x∈ims l->x.s.length<=ws l:=by
 induction l with
 |nil=>simp[ims]
 |cons y l ih=>
  intro x a;rw[B3y];have a:x∈B7f y::ims l:=a;rcases List.mem_cons.1 a with rfl|a
  ·show y.s.length<=_;omega
  ·have:=ih x a;omega
end Go.Proofs.YtmkkibaacclhnaaGreatDoor
